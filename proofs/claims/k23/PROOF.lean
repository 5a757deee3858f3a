import PyProof.Rows.All
import Wide.All
import OpenK.AllK
import Wide.FinOn
import PyProof.EqAt
import PyProof.EqKinds
import PyProof.TupleCall
import PyProof.Seq
import PyProof.RangeIter
import PyProof.TupleIter
import PyProof.Rows.TupIter
import PyProof.StationsW
import PyProof.ExcClass2
import PyProof.NeKinds
import PyProof.Rows.TupMore
import PyProof.AutoSeq1
import PyProof.ZipIter
import PyProof.StrWalks
import PyProof.StrBlock2
import PyProof.StrBlockI
import PyProof.StrLaws
import PyProof.SliceStr2
import PyProof.Rows.Range3
import PyProof.Rows.StrRev
import PyProof.ConsumeWalk
import PyProof.Rows.SortShellK
import PyProof.Rows.SortRev
import PyProof.SeqI3
import KE.KEqDict
import KE.KLam
import KE.KMinKey
import KE.KNestM
import PyProof.FString
import Lean
import PySem.Challenge.RW_balepress_k23_blocks_refused
noncomputable section
set_option bootstrap.genMatcherCode false
open PySem renaming Addr → vR, Value → vS, Shared → vT, Program → vU, World → vV, FuncData → vW, Around → vX, Heap → vY, Expr → vZ, Obj → v1, Stmt → v7
open PySem.W (mg_of Frag instObj methodObj lookIn InstAt plainGet hasDictIn findIn handedIn isFn plainOver takerIn makesIn typeIn InitBack emptyDict make_core Looks keepIn specialIn takesIn mroIn kitOne kitx_list kitx_dict fnOf codeIn codeRec_of excIn clsIn findObj KitX oi_run kitMeta CodeHd nsIn binds_K)
variable {P:vU}{w:vV}{K:Frag}{mg:PySem.Str->Option vS}{base:vY}
theorem Z9 {p:Prop}(h:p:=by decide):p:=h
theorem Z8 {p:Prop}(h:p:=by decide+kernel):p:=h
theorem Z7 {p:Prop}(h:p:=by rfl):p:=h
theorem Z6 {p:Prop}(h:p:=by simp):p:=h
theorem Z5 {p:Prop}(h:p:=by lia):p:=h
theorem Z4 {p:Prop}(h:p:=by omega):p:=h
theorem Z3 {p:Prop}(h:p:=by intro _;rfl):p:=h
theorem Z2 {p:Prop}(h:p:=by first|exact .inl rfl|exact .inr rfl|assumption):p:=h
theorem Z1 {p:Prop}(h:p:=by intro _ _ _ _ h;(repeat obtain⟨_,h⟩:=h)<;>subst_vars<;>rfl):p:=h
theorem ZU {p:Prop}(h:p:=by first|exact .inl rfl|exact .inr (.inl rfl)|exact .inr (.inr rfl)):p:=h
def ZT:=ZU._auto_1
def Z0:=Z7._auto_1
def ZZ:=Z9._auto_1
def ZY:=Z8._auto_1
def ZX:=Z3._auto_1
def ZW:=Z2._auto_1
def ZV:=Z1._auto_1
set_option Elab.async false
set_option linter.all false
set_option maxRecDepth 100000
abbrev re:=@PySem.wpAny_bind
abbrev rf:=@PySem.Heap.get?_push_of_some
abbrev rg:=@List.length_map
abbrev rh:=@List.size_toArray
abbrev rj:=@Nat.lt_of_lt_of_le
abbrev rk:=@PySem.Heap.lt_size
abbrev rm:=@List.getElem?_eq_some_iff
abbrev rn:=@decide_eq_true
abbrev rp:=@PySem.Heap.get?_update_other
abbrev rq:=@List.length_append
abbrev rs:=@Bool.false_ne_true
abbrev rz:=@List.mem_append_right
abbrev rA:=@PySem.wpAny_pure
abbrev rB:=@Nat.le_refl
abbrev rD:=@Int.toNat_natCast
abbrev rE:=@of_decide_eq_true
abbrev rF:=@PySem.Heap.get?_push_size
abbrev rG:=@PySem.Heap.get?_update_self
abbrev rH:=@Option.some.inj
abbrev rJ:=@List.mem_singleton
abbrev rK:=@Array.getElem?_eq_some_iff
abbrev rL:=@Nat.ne_of_lt
abbrev rM:=@PySem.wpAny_field
abbrev rN:=@Int.natCast_nonneg
abbrev rO:=@if_neg
abbrev rP:=@Nat.le_trans
abbrev rQ:=@PyProof.Rows.boot_isinstance
abbrev rR:=@PySem.Obj.data_mapFields
abbrev rS:=@Nat.xor_assoc
abbrev rT:=@List.getElem?_eq_getElem
abbrev rV:=@PySem.wpAny_mono
abbrev rW:=@List.length_take
abbrev rX:=@PySem.mem_of_lookup
abbrev rY:=@List.mem_cons
abbrev rZ:=@List.length_replicate
abbrev se:=@if_pos
abbrev sf:=@decide_eq_false
abbrev sg:=@List.mem_append_left
abbrev si:=@List.getElem?_map
abbrev sj:=@PySem.Obj.isFreed_of_fields
abbrev sk:=@PySem.wpAny_setField
abbrev so:=@PySem.wpAny_holding
abbrev sr:=@List.length_cons
abbrev ss:=@Nat.mod_lt
abbrev su:=@Nat.lt_irrefl
abbrev sv:=@congrArg
abbrev sw:=@Nat.pow_pos
abbrev sy:=@Nat.zero_le
abbrev sE:=@PySem.W.kia_one
abbrev sF:=@PySem.boot_len
abbrev sG:=@List.mem_of_mem_take
abbrev sH:=@Nat.pow_succ
abbrev sI:=@PySem.wpAny_Call_Name_kw
abbrev sJ:=@Ne.symm
abbrev sK:=@Nat.mul_assoc
abbrev sL:=@List.mem_append
abbrev sM:=@Nat.le_add_left
abbrev sN:=@List.mem_cons_of_mem
abbrev sO:=@List.mem_of_getElem?
abbrev sP:=@Nat.testBit_eq_decide_div_mod_eq
abbrev sQ:=@PyProof.Rows.boot_list
abbrev sR:=@Nat.xor_lt_two_pow
abbrev sU:=@Nat.mod_eq_of_lt
abbrev sV:=@PySem.PassesOwn.never
abbrev sW:=@List.replicate_succ
abbrev sX:=@PySem.Heap.SameBut.update
abbrev sY:=@Nat.mul_comm
abbrev sZ:=@Bool.false_eq_true
abbrev tj:=@le_of_eq_of_le
abbrev tm:=@List.mem_of_mem_drop
abbrev tu:=@Nat.pow_le_pow_right
abbrev tx:=@Nat.mul_lt_mul_right
abbrev tz:=@Nat.sub_succ_lt_self
abbrev tD:=@List.map_append
abbrev tE:=@List.eq_of_mem_replicate
abbrev tF:=@PySem.wpAny_passesOwn
abbrev tG:=@PySem.wpAny_loadPart_at
abbrev tH:=@Array.getElem?_setIfInBounds_ne
abbrev tI:=@Array.size_setIfInBounds
abbrev tJ:=@Nat.xor_comm
abbrev tK:=@Nat.and_two_pow_sub_one_eq_mod
abbrev tM:=@Nat.pow_add
abbrev tN:=@PySem.wpAny_standAt
abbrev tO:=@beq_eq_false_iff_ne
abbrev tP:=@PySem.wpAny_isSubtype_exc
abbrev tQ:=@Nat.shiftLeft_eq
abbrev tR:=@List.take_length
abbrev tS:=@List.all_eq_true
abbrev tT:=@List.getElem_mem
abbrev tU:=@PySem.Heap.size_push
abbrev tV:=@List.getElem?_set_self
abbrev tW:=@Nat.le_add_right_of_le
abbrev tX:=@Nat.lt_of_lt_of_eq
abbrev tY:=@Nat.lt_of_le_of_lt
abbrev tZ:=@PySem.W.callWith_K
abbrev ua:=@List.take_append_drop
abbrev ub:=@List.getElem?_eq_none
abbrev uc:=@Nat.ne_of_gt
abbrev ud:=@List.length_set
abbrev ue:=@PySem.wpAny_execs_nil
abbrev uf:=@List.flatten_cons
abbrev ug:=@PySem.wpAny_truthy_bool
abbrev ui:=@PySem.wpAny_newObj_type
abbrev uj:=@List.getElem?_append_right
abbrev uk:=@Nat.pow_lt_pow_right
abbrev ul:=@List.getElem?_set_ne
abbrev um:=@PySem.W.looks_findIn
abbrev uo:=@List.getElem?_append_left
abbrev uq:=@Decidable.byContradiction
abbrev ur:=@List.length_drop
abbrev ut:=@Nat.le_add_right
abbrev uu:=@Nat.lt_succ_self
abbrev uv:=@Int.lt_of_not_ge
abbrev uw:=@PySem.W.callWith_K0
abbrev ux:=@List.mem_cons_self
abbrev uy:=@Nat.pow_succ'
abbrev uz:=@Nat.min_eq_left
abbrev uA:=@mg_of
abbrev uB:=@Nat.le_antisymm
abbrev uC:=@PyProof.Rows.boot_tuple
abbrev uD:=@Bool.eq_iff_iff
abbrev uE:=@PySem.wpAny_callSpecial?_slot
abbrev uF:=@Nat.div_div_eq_div_mul
abbrev uG:=@Nat.testBit_lt_two_pow
abbrev uH:=@PyProof.Rows.bitAnd_pp
abbrev uI:=@List.take_of_length_le
abbrev uJ:=@Nat.le_of_succ_le_succ
abbrev uK:=@PySem.W.cellsFrom_some
abbrev uL:=@PySem.Heap.size_after_update
abbrev uM:=@List.append_assoc
abbrev uN:=@Bool.false_and
abbrev uO:=@PyProof.Rows.boot_int
abbrev uP:=@Nat.lt_or_ge
abbrev uQ:=@Nat.le_of_eq
abbrev uR:=@PySem.W.methodCall_KW
abbrev uS:=@Nat.le_of_not_lt
abbrev uT:=@PySem.W.any_some
abbrev uU:=@PySem.wpAny_call_entry
abbrev uV:=@PySem.wpAny_isInstance
abbrev uW:=@Nat.div_lt_of_lt_mul
abbrev uX:=@PySem.SeqAt.EqAt.bool_bool
abbrev uY:=@PySem.Calls.evalArgs_plain
abbrev uZ:=@PySem.wpAny_newFunctionEnv
abbrev u4:=@List.map_take
abbrev u5:=@PySem.Paired.length
abbrev u6:=@PySem.wpAny_attempt
abbrev u7:=@PySem.wpAny_call
abbrev u9:=@Nat.xor_mod_two_pow
abbrev va:=@Nat.testBit_xor
abbrev vc:=@Nat.div_add_mod
abbrev vd:=@List.take_left'
abbrev ve:=@List.of_mem_zip
abbrev vf:=@List.filterMap_cons
abbrev vg:=@PyProof.Rows.callWith_type1
abbrev vh:=@PySem.W.plainGet_of
abbrev vi:=@List.nodup_cons
abbrev vj:=@PySem.SeqAt.RcNeAt.tuples
abbrev vk:=@PySem.codeAny_builtin
abbrev vm:=@List.getD_eq_getElem?_getD
abbrev vn:=@Nat.mod_two_eq_zero_or_one
abbrev vo:=@Int.fdiv_eq_ediv_of_nonneg
abbrev vp:=@PySem.F.excBase_ValueError
abbrev vq:=@Nat.xor_self
abbrev vt:=@Int.natAbs_natCast
abbrev vv:=@Nat.le_of_lt
abbrev vw:=@PySem.Calls.Constant_str
abbrev vy:=@PySem.Calls.spliced_cons
abbrev vz:=@PySem.SeqAt.RcNeAt.lists
abbrev vA:=@List.contains_cons
abbrev vB:=@Nat.shiftLeft_xor_distrib
abbrev vC:=@List.drop_zero
abbrev vD:=@List.foldl_append
abbrev vE:=@beq_iff_eq
abbrev vF:=@PySem.Calls.spliced_nil
abbrev vG:=@Nat.lt_succ_of_lt
abbrev vH:=@List.map_cons
abbrev vI:=@Nat.le_succ
abbrev vJ:=@Nat.div_eq_of_lt
abbrev vK:=@PySem.W.makes_of
abbrev vL:=@Bool.and_eq_true
abbrev vM:=@Nat.zero_mul
abbrev vO:=@Nat.sub_zero
abbrev vP:=@Nat.xor_zero
abbrev vQ:=@Nat.zero_xor
namespace QQ
open PySem PyProof.Rows
variable {env:Env}{L e it t:vR}{base h h':vY}{Q:Unit->vT->Prop}{items vs:Array vS}{c cls:vS}{outer:List Env}{fp:List vR}
def Cx2 (h:vY)(a:vR)(vs:Array vS):Prop:=vs[2]?=some Value.none\/∃b ob us,vs[2]?=some (.ref b)/\b≠a/\h.get? b=some ob/\ob.data=.fields us/\6≤us.size/\us[2]?=some Value.none
def Hq (A:vX)(h:vY):Prop:=A.handled=none\/∃a o vs,A.handled=some (.ref a)/\h.get? a=some o/\o.data=.fields vs/\6≤vs.size/\Cx2 h a vs
theorem Hq.keep {A:vX}(q:Hq A h)(k:∀a o vs,h.get? a=some o->o.data=.fields vs->6≤vs.size->h'.get? a=some o):Hq A h':=by
 rcases q with q|⟨a,o,vs,e,g,d,z,c⟩
 ·exact .inl q
 ·refine .inr ⟨a,o,vs,e,k a o vs g d z,d,z,?_⟩;rcases c with c|⟨b,ob,us,e1,n,e2,e3,e4,e5⟩
  ·exact .inl c
  ·exact .inr ⟨b,ob,us,e1,n,k b ob us e2 e3 e4,e3,e4,e5⟩
theorem cY:entryFor table "proto.unchain"=some Builtin.«proto.unchain»:=entryFor_of_fast (by kernel_rfl)
section
variable {prog:vU}{w:vV}{A:vX}{E:vS -> vT -> Prop}{s:vT}
theorem gH {α:Type}{oe:v1}{h0:vY}{Q:α->vT->Prop}(hq:Hq A h0)(hk:∀b o,h0.get? b=some o->s.heap.get? b=some o/\b≠e)(he:s.heap.get? e=some oe)(hd:oe.data=.fields vs)(hz:2<vs.size)
  (h:∀h' o',h'.get? e=some o'->o'.cls=oe.cls->Heap.SameBut e s.heap h'->E (.ref e) {s with heap:=h'}):wpAny (model prog w) A (raiseNew (.ref e):Sem α) Q E s:=by
 unfold raiseNew;refine re (wpAny_handled ?_);rcases hq with q|⟨a,o,us,ea,ga,da,zz,za⟩
 ·rw [q];exact re (rA (wpAny_throw (h s.heap oe he rfl (Heap.SameBut.refl ..))))
 ·rw [ea];obtain⟨ga,nae⟩:=hk a o ga;have ne:(Value.ref a !=Value.ref e)=true:=by simp [bne,nae]
  show wpAny _ _ (if(Value.ref a !=Value.ref e)=true then _ else _) _ _ _;rw [se ne];have fin:wpAny (model prog w) A (updateField e 2 (.ref a)>>= λ _=>throw (.ref e)) Q E s:=by
   refine re (sk he hd hz ?_:wpAny _ _ (setField (.ref e) 2 (.ref a)) _ _ s);exact wpAny_throw (h _ _ (rG _ he (sj (rR hd _))) (Obj.cls_mapFields _ _) (sX ..))
  refine re (so (wpAny_runValue (vk cY ?_)));show wpAny _ _ (field (.ref a) 2>>= _) _ _ s;rcases za with za|⟨b,ob,vb,eb,nb,gb,db,sz,zb⟩
  ·refine re (rM ga da za ?_);show wpAny _ _ (if(Value.none==Value.none)=true then _ else _) _ _ s;rw [se Z7];refine re (rA (rA ?_));exact fin
  ·obtain⟨gb,nbe⟩:=hk b ob gb;refine re (rM ga da eb ?_);have n1:(Value.ref b==Value.none)=false:=rfl;have n2:(Value.ref b==Value.ref e)=false:=by simp [nbe]
   have n3:(Value.ref b==Value.ref a)=false:=by simp [nb]
   simp only [n1,n2,n3,sZ,if_false];refine re (rA (rA ⟨Code.quiet_builtin _ Z8,vk cY ?_⟩));show wpAny _ _ (field (.ref b) 2>>= _) _ _ s;refine re (rM gb db zb ?_);show wpAny _ _ (if(Value.none==Value.none)=true then _ else _) _ _ s;rw [se Z7];refine re (rA (rA ?_));exact fin
theorem cS {α:Type}{E':vS->vT->Prop}{R:α->vT->Prop}(hq:Hq A s.heap)
  (h:∀h' e,(∀b o,s.heap.get? b=some o->h'.get? b=some o)->(∃o,h'.get? e=some o/\o.cls=.type "StopIteration")->E' (.ref e) {s with heap:=h'}):
  wpAny (model prog w) A (newExc (.type "StopIteration") []>>= λ v=>(raiseNew v:Sem α)) R E' s:=by
 refine re ?_;simp only [newExc,newTuple];refine re (ui ?_ (by size_fits));refine re (m:=firstArgMember _ _) (wpAny_of_eq (a:=Value.none) (by first|rfl|(simp only [firstArgMember];rfl)) ?_);refine ui ?_ (by size_fits);have k2:∀b o,s.heap.get? b=some o->((s.heap.push {cls:=.type "tuple",data:=.seq ([]:List vS).toArray}).push {cls:=.type "StopIteration",data:=.fields (#[.ref s.heap.objs.size,.none,.none,.none,.bool false,.none]++ownMembersOf (.type "StopIteration") [])}).get? b=some o:=
  λ b o e=>rf _ (rf _ e)
 refine gH hq (λ b o e=>⟨k2 b o e,?_⟩) (rF _ rfl) rfl (by rw [Array.size_append];exact rj (show 2<6 by decide) (ut _ _)) λ h' o' ge ce sb=>?_
 ·intro z;have:=rk e;rw [z,tU] at this;exact absurd this (Nat.not_lt.mpr (vI _))
 ·refine h h' _ (λ b o e=>sb.extBut b o (λ z=>?_) (k2 b o e)) ⟨o',ge,ce⟩;have:=rk e;rw [z,tU] at this;exact absurd this (Nat.not_lt.mpr (vI _))
theorem lE {a:vR}{o o':v1}{us:Array vS}(g:h.get? it=some o)(d:o.data=.fields vs)(z:vs.size<6)(g':h.get? a=some o')(d':o'.data=.fields us)(z':6≤us.size):a≠it:=by
 rintro rfl;rw [g] at g';cases g';rw [d] at d';cases d';lia
theorem list_end_q {l:vR}{i:Nat}{items}{Q:Option vS->vT->Prop}(hq:Hq A s.heap)
  (hit:s.heap.IsListIter it l i) (hl:s.heap.IsList l items) (hx:items[i]?=none)
  (hQ:∀h',Heap.ExtBut it s.heap h'->Q none {s with heap:=h'}):wpAny (model prog w) A (pyNext (.ref it)) Q E s:=by
 obtain⟨o,ho,hc,hd⟩:=id hit;obtain⟨ol,hol,_,nl,hdl⟩:=hl;unfold pyNext;refine re (u6 (uE (name:=Str.ofString "__next__") hit.typeIs slot_listiter_next (uU slot_listiter_next hit.typeIs entry_listiter_next ?_ (args_listiter_next _))));show wpAny _ _ (field (.ref it) 0>>= _) _ _ s;refine re (rM ho hd (x:=.ref l) rfl ?_);show wpAny _ _ (if(Value.ref l==Value.none)=true then _ else _) _ _ s;rw [rO (show¬((Value.ref l==Value.none)=true) from rs)];show wpAny _ _ (field (.ref it) 1>>= _) _ _ s;refine re (rM ho hd (x:=.int i 0) rfl ?_);show wpAny _ _ (seqItems? (.ref l)>>= _) _ _ s;refine re (wpAny_seqItems hol hdl ?_);simp only [rD,hx];refine re (wpAny_rule (re (sk ho hd Z6 ?_)));have sb1:=sX (h:=s.heap) it (Obj.mapFields (·.setIfInBounds 0 Value.none));refine cS (A:=A.in1) (hq.keep λ a o' us e d' z'=>sb1.extBut a o' (lE ho hd Z6 e d' z') e) λ h' e k z9=>?_
 obtain⟨o',ge,ce⟩:=z9;refine re (uV (T:="StopIteration") (b:=true) ⟨_,ge,ce⟩ isSubtype_stop ?_);exact rA (hQ _ λ b ob hb e1=>k b ob (sb1.extBut b ob hb e1))
theorem ia {i:Nat}{items}{Q:Option vS->vT->Prop}(hq:Hq A s.heap)
  (hit:s.heap.IsTupleIter it t i) (ht:s.heap.IsTuple t items) (hx:items[i]?=none)
  (hQ:∀h',Heap.ExtBut it s.heap h'->Q none {s with heap:=h'}):wpAny (model prog w) A (pyNext (.ref it)) Q E s:=by
 obtain⟨o,ho,hc,hd⟩:=id hit;obtain⟨ol,hol,_,nl,hdl⟩:=ht;unfold pyNext;refine re (u6 (uE (name:=Str.ofString "__next__") hit.typeIs F.slot_tuple_iterator_next (uU F.slot_tuple_iterator_next hit.typeIs F.entry_tuple_iterator_next ?_ (F.args_tuple_iterator_next_1 _))));show wpAny _ _ (field (.ref it) 0>>= _) _ _ s;refine re (rM ho hd (x:=.ref t) rfl ?_);show wpAny _ _ (if(Value.ref t==Value.none)=true then _ else _) _ _ s;rw [rO (show¬((Value.ref t==Value.none)=true) from rs)];show wpAny _ _ (field (.ref it) 1>>= _) _ _ s;refine re (rM ho hd (x:=.int i 0) rfl ?_);show wpAny _ _ (seqItems? (.ref t)>>= _) _ _ s;refine re (wpAny_seqItems hol hdl ?_);simp only [rD,hx];refine re (wpAny_rule (re (sk ho hd Z6 ?_)));have sb1:=sX (h:=s.heap) it (Obj.mapFields (·.setIfInBounds 0 Value.none));refine cS (A:=A.in1) (hq.keep λ a o' us e d' z'=>sb1.extBut a o' (lE ho hd Z6 e d' z') e) λ h' e k z9=>?_
 obtain⟨o',ge,ce⟩:=z9;refine re (uV (T:="StopIteration") (b:=true) ⟨_,ge,ce⟩ isSubtype_stop ?_);exact rA (hQ _ λ b ob hb e1=>k b ob (sb1.extBut b ob hb e1))
theorem range_end_q {x left step:Int}{Q:Option vS->vT->Prop}(hq:Hq A s.heap)(hit:IsRangeIter s.heap it x left step)(hleft:left≤0)
  (hQ:∀h',Heap.ExtBut it s.heap h'->Q none {s with heap:=h'}):wpAny (model prog w) A (pyNext (.ref it)) Q E s:=by
 have hT:s.TypeIs (.ref it) "range_iterator":=⟨_,hit,rfl⟩;unfold pyNext;refine re (u6 (uE (name:=Str.ofString "__next__") hT F.slot_range_iterator_next (uU F.slot_range_iterator_next hT F.entry_range_iterator_next ?_ (F.args_range_iterator_next_1 _))));show wpAny _ _ (field (.ref it) 0>>= _) _ _ s;refine re (rM hit rfl (x:=rawInt x) rfl ?_);show wpAny _ _ (field (.ref it) 1>>= _) _ _ s;refine re (rM hit rfl (x:=rawInt left) rfl ?_);show wpAny _ _ (field (.ref it) 2>>= _) _ _ s;refine re (rM hit rfl (x:=rawInt step) rfl ?_);show wpAny _ _ (if left≤0 then _ else _) _ _ s;rw [se hleft];refine re (wpAny_rule (re ?_));refine cS (A:=A.in1) hq λ h' e k z9=>?_
 obtain⟨o',ge,ce⟩:=z9;refine re (uV (T:="StopIteration") (b:=true) ⟨_,ge,ce⟩ isSubtype_stop ?_);exact rA (hQ _ λ b ob hb e1=>k b ob e1)
theorem eI {Q:List vS->vT->Prop}(hq:Hq A s.heap)(ht:IsTup s.heap t items)
  (hQ:∀h',Heap.ExtBut s.heap.objs.size s.heap h'->Q items.toList {s with heap:=h'}):wpAny (model prog w) A (unpackItems (.ref t) items.size none) Q E s:=by
 have nt:t≠s.heap.objs.size:=by obtain⟨o,ho,_⟩:=ht;exact rL (rk ho)
 unfold unpackItems;refine re ?_;unfold notIterableAtAll;refine re (wpAny_specialOf ht.typeIs slot_tuple_iter.lookup (rA ?_));simp only [sZ,if_false];refine re (so (iter_tuple ht (re (so (draw_tuple nt items.size 0 _ _ ⟨_,rF _ rfl,rfl,rfl⟩ (ht.push _) Z5 λ g1 i1 b1=>?_)))));rw [show List.take items.size (List.drop 0 items.toList)=items.toList by rw [vC];exact uI Z6,rO Z6];have k1:∀b o,b≠s.heap.objs.size->s.heap.get? b=some o->g1.get? b=some o:=λ b o hb e=>b1.extBut b o hb (rf _ e)
 have q1:Hq A g1:=hq.keep λ a o _ e _ _=>k1 a o (rL (rk e)) e
 have t1:IsTup g1 t items:=(ht.push _).extBut b1.extBut nt;refine re (so (ia (s:={s with heap:=g1}) q1 (show g1.IsTupleIter _ t _ from i1) (show g1.IsTuple t items from t1) Z6 λ g2 x2=>?_));simp only [Option.isSome_none,sZ,if_false];exact rA (hQ g2 λ b o hb e=>x2 b o hb (k1 b o hb e))
theorem assign_Tuple_q {elts:List vZ}{x1}{pos:Pos}(hq:Hq A s.heap)(ht:IsTup s.heap t items)
  (hn:(assignEach elts env).length=items.size) (hstar:(assignEach elts env).findIdx? (·.1)=none)
  (h:∀h',Heap.ExtBut s.heap.objs.size s.heap h'->wpAny (model prog w) A (assignInOrder ((assignEach elts env).map (·.2)) items.toList) Q E {s with heap:=h'}):
  wpAny (model prog w) A (assign (.Tuple elts x1 pos) env (.ref t)) Q E s:=by
 rw [assign_Tuple];refine re (tN ?_);unfold unpack;rw [hn,hstar];exact re (so (eI hq ht h))
end
noncomputable def exO (cls:vS) (vs:Array vS):v1:={cls:=cls,data:=.fields vs}
def Fly (h:vY)(e:vR)(cls:vS)(fp:List vR)(c:vS):Prop:=
 ∃vs,h.get? e=some (exO cls vs)/\(vs[2]?=some c/\6≤vs.size)/\((vs[1]?=some Value.none/\fp=[e])\/
  ∃T oT ts,vs[1]?=some (.ref T)/\T≠e/\h.get? T=some oT/\oT.data=.fields ts/\ts[3]?=some Value.none/\fp=[e,T])
theorem Fly.here (F:Fly h e cls fp c):e∈fp:=by
 obtain⟨vs,_,_,⟨_,r⟩|⟨T,oT,ts,_,_,_,_,_,r⟩⟩:=F<;>simp [r]
theorem Fly.keep (F:Fly h e cls fp c)(k:∀b∈fp,∀o,h.get? b=some o->h'.get? b=some o):Fly h' e cls fp c:=by
 obtain⟨vs,g,z,⟨a,r⟩|⟨T,oT,ts,a,ne,gT,dT,zT,r⟩⟩:=F
 ·exact⟨vs,k e (by simp [r]) _ g,z,.inl ⟨a,r⟩⟩
 ·exact⟨vs,k e (by simp [r]) _ g,z,.inr ⟨T,oT,ts,a,ne,k T (by simp [r]) _ gT,dT,zT,r⟩⟩
theorem Fly.rec (F:Fly h e cls fp c):∀b∈fp,∃o vs,h.get? b=some o/\o.data=.fields vs:=by
 obtain⟨vs,g,z,⟨a,r⟩|⟨T,oT,ts,a,ne,gT,dT,zT,r⟩⟩:=F
 ·intro b hb;rw [r,rJ] at hb;subst hb;exact⟨_,vs,g,rfl⟩
 ·intro b hb;rw [r] at hb;rcases rY.mp hb with hb|hb
  ·subst hb;exact⟨_,vs,g,rfl⟩
  ·rw [rJ] at hb;subst hb;exact⟨oT,ts,gT,dT⟩
theorem Fly.made {args:List vS}(m:Heap.MadeExcOf h h' e cls args):Fly h' e cls [e] .none:=by
 obtain⟨t,ht,_⟩:=m.there;exact⟨_,ht,⟨rfl,by show(6:Nat)≤6;decide⟩,.inl ⟨rfl,rfl⟩⟩
section
variable {M:Model}{A:vX}{E:vS -> vT -> Prop}{s:vT}
theorem du {head:vS}{had:Bool}
    (hfr:A.frames=some (env::outer)) (hl:s.heap.FunFrames base (env::outer)) (hf:env.frame=some L)
    (he:s.heap.get? e=some (exO cls vs)) (h1:1<vs.size) (h2:vs[2]?=some c/\6≤vs.size)
    (h:∀h' T,Fly h' e cls [e,T] c->s.heap.objs.size≤T->(∀b o,s.heap.get? b=some o->b≠e->b∉(env::outer).filterMap (·.frame)->h'.get? b=some o)->
      (∀b o,s.heap.get? b=some o->b≠e->∃sl,h'.get? b=some {o with slots:=sl})->Q () {s with heap:=h'}):
    wpAny M A (do let a<-frameOf env;let pl<-entryPlaceOf L had;let b<-EntryCells.newEntry head a .none (rawInt L) .none pl;setField (.ref e) 1 b) (λ _ s'=>wpAny M A (setFlight (.ref e) none) Q E s') E s:=by
  have ne:e∉(env::outer).filterMap (·.frame):=λ hm=>by
    obtain⟨_,o,ho,hnf⟩:=hl.mem hm
    rw [he] at ho;cases ho
    exact hnf vs rfl
  refine re (wpAny_frameOf_fun hfr hl hf λ g1 s1=>?_)
  refine re (wpAny_entryPlaceOf λ pl hpl=>?_)
  unfold EntryCells.newEntry newFields
  refine re (ui ?_ (hpl.sizeOk5 _ _ _ _ _))
  have hsz:g1.objs.size=s.heap.objs.size:=s1.1
  have he1:g1.get? e=some (exO cls vs):=(s1.2.1 e ne).trans he
  generalize hO:({cls:=.type "traceback",dict:=none,data:=.fields ([head,.ref L,.none,rawInt L,.none]++(if pl.isEmpty then List.replicate 6 Value.none else pl)).toArray}:v1)=oT
  have e3:∃ts,oT.data=.fields ts/\3<ts.size:=⟨_,by rw [<-hO],by simp only [rh,rq,sr,List.length_nil];lia⟩
  have hfreed:oT.isFreed=false:=by rw [<-hO];rfl
  clear hO
  obtain⟨ts,hts,hz3⟩:=e3
  have he2:(g1.push oT).get? e=some (exO cls vs):=rf _ he1
  have hT2:(g1.push oT).get? g1.objs.size=some oT:=rF g1 hfreed
  have hTe:g1.objs.size≠e:=uc (rk he1)
  refine sk he2 rfl h1 ?_
  have he3:=rG (Obj.mapFields (·.setIfInBounds 1 (Value.ref g1.objs.size))) he2 rfl
  have hT3:=(rp (g1.push oT) (Obj.mapFields (·.setIfInBounds 1 (Value.ref g1.objs.size))) (sJ hTe)).trans hT2
  have he3':((g1.push oT).update e (Obj.mapFields (·.setIfInBounds 1 (Value.ref g1.objs.size)))).get? e=some (exO cls (vs.setIfInBounds 1 (Value.ref g1.objs.size))):=he3
  unfold setFlight
  refine re (rM he3' rfl (x:=.ref g1.objs.size) (by simp [h1]) ?_)
  rw [se (show(Value.ref g1.objs.size !=Value.none)=true from by simp)]
  refine sk hT3 hts hz3 ?_
  have keep:∀b o,b≠e->g1.get? b=some o->(((g1.push oT).update e (Obj.mapFields (·.setIfInBounds 1 (Value.ref g1.objs.size)))).update g1.objs.size (Obj.mapFields (·.setIfInBounds 3 ((none:Option vR).elim Value.none λ f=>rawInt f)))).get? b=some o:=λ b o hb q=>by
    rw [rp _ _ (uc (rk q)),rp _ _ (sJ hb)]
    exact rf _ q
  refine h _ g1.objs.size ⟨vs.setIfInBounds 1 (Value.ref g1.objs.size),?_,?_,.inr ⟨g1.objs.size,_,_,?_,hTe,rG _ hT3 (sj (rR hts _)),rR hts _,?_,rfl⟩⟩ (uQ hsz.symm) (λ b o q hb hn=>?_) λ b o q hb=>?_
  · rw [rp _ _ hTe];exact he3'
  · rw [tH (by decide),tI];exact h2
  · simp [h1]
  · simp [hz3]
  · exact keep b o hb ((s1.2.1 b hn).trans q)
  · obtain⟨sl,e'⟩:=s1.2.2 b o q
    exact⟨sl,keep b _ hb e'⟩
theorem land 
  (hfr:A.frames=some (env::outer)) (hl:s.heap.FunFrames base (env::outer)) (hf:env.frame=some L) (F:Fly s.heap e cls fp c)
  (h:∀h' T,Fly h' e cls [e,T] c->s.heap.objs.size≤T->(∀b o,s.heap.get? b=some o->b∉fp->b∉(env::outer).filterMap (·.frame)->h'.get? b=some o)->
   (∀b o,s.heap.get? b=some o->b∉fp->∃sl,h'.get? b=some {o with slots:=sl})->(∀b o,s.heap.get? b=some o->∃o',h'.get? b=some o')->Q () {s with heap:=h'}):
  wpAny M A (noteFrame (.ref e) env) (λ _ s'=>wpAny M A (setFlight (.ref e) none) Q E s') E s:=by
 obtain⟨vs,he,h2,⟨h1,r⟩|⟨T,oT,ts,h1,ne,gT,dT,zT,r⟩⟩:=F
 ·subst r;unfold noteFrame;simp only [hf];refine re (rM he rfl h1 ?_);rw [rO Z9];refine du hfr hl hf he (rK.mp h1).1 h2 λ h' T' f1 f2 f3 f4=>h h' T' f1 f2 (λ b o q hb hn=>f3 b o q (λ z=>hb (by simp [z])) hn) (λ b o q hb=>f4 b o q λ z=>hb (by simp [z])) λ b o q=>?_
  by_cases hb:b=e
  ·obtain⟨vs',g',_⟩:=f1;subst hb;exact⟨_,g'⟩
  ·obtain⟨sl,e'⟩:=f4 b o q hb;exact⟨_,e'⟩
 ·subst r;unfold noteFrame;simp only [hf];refine re (rM he rfl h1 ?_);rw [se (show(Value.ref T !=Value.none)=true from by simp)];refine re (rM gT dT zT ?_);rw [rO (show¬((Value.none==rawInt L)=true) from by simp [rawInt])];refine re (sk gT dT (rK.mp zT).1 ?_);have oth:∀b,b≠T->(s.heap.update T (Obj.mapFields (·.setIfInBounds 3 Value.none))).get? b=s.heap.get? b:=λ b hb=>rp _ _ (sJ hb)
  have gT':=rG (Obj.mapFields (·.setIfInBounds 3 Value.none)) gT (sj (rR dT _));have nT:∀b o,s.heap.get? b=some o->(∀us,o.data≠ .fields us)->b≠T:=λ b o q nf z=>by
   rw [z,gT] at q;cases q;exact nf ts dT
  have sz:(s.heap.update T (Obj.mapFields (·.setIfInBounds 3 Value.none))).objs.size=s.heap.objs.size:=uL ..;refine du hfr (hl.of_keeps λ b o q nf=>⟨o,(oth b (nT b o q nf)).trans q,rfl⟩) hf ((oth e (sJ ne)).trans he) (rK.mp h1).1 h2
   λ h' T' f1 f2 f3 f4=>h h' T' f1 (by rw [sz] at f2;exact f2) (λ b o q hb hn=>?_) (λ b o q hb=>?_) λ b o q=>?_
  ·have b1:b≠e:=λ z=>hb (by simp [z])
   have b2:b≠T:=λ z=>hb (by simp [z])
   exact f3 b o ((oth b b2).trans q) b1 hn
  ·have b1:b≠e:=λ z=>hb (by simp [z])
   have b2:b≠T:=λ z=>hb (by simp [z])
   exact f4 b o ((oth b b2).trans q) b1
  ·by_cases hb:b=e
   ·obtain⟨vs',g',_⟩:=f1;subst hb;exact⟨_,g'⟩
   ·by_cases hT:b=T
    ·subst hT;obtain⟨sl,e'⟩:=f4 b _ gT' hb;exact⟨_,e'⟩
    ·obtain⟨sl,e'⟩:=f4 b o ((oth b hT).trans q) hb;exact⟨_,e'⟩
theorem ed {T:vR}(F:Fly s.heap e cls [e,T] c)
  (h:∀h',Fly h' e cls [e,T] c->(∀b o,s.heap.get? b=some o->b≠T->h'.get? b=some o)->Q () {s with heap:=h'}):wpAny M A (setFlight (.ref e) none) Q E s:=by
 obtain⟨vs,he,h2,⟨h1,r⟩|⟨T',oT,ts,h1,ne,gT,dT,zT,r⟩⟩:=F
 ·cases r
 ·cases r;unfold setFlight;refine re (rM he rfl h1 ?_);rw [se (show(Value.ref T !=Value.none)=true from by simp)];have z3:=(rK.mp zT).1;refine sk gT dT z3 (h _ ⟨vs,?_,h2,.inr ⟨T,_,_,h1,ne,rG _ gT (sj (rR dT _)),rR dT _,by simp [z3],rfl⟩⟩ λ b o q hb=>?_)
  ·rw [rp _ _ ne];exact he
  ·rw [rp _ _ (sJ hb)];exact q
end
end QQ
namespace L2
open PySem PySem.Spec PyProof.Rows
variable {s s':vT}{A:vX}{Q:Unit->vT->Prop}{K:Frag}{r:R2}{CX:CXT}{j k t':Nat}{fp:List vR}{C a b dx f it:vR}{body:List v7}{v y:V}{o:HO}{base h:vY}{tc:TT}{qual x:Str}{N ps:List Str}{vs xs ys:List V}{g:TG}{outer:List Env}{scope:Scope}{tb:TS}{X:Cx}{c e tg:vZ}{t te:TE}{kindOf:Str->Option NameKind}{E:vS->vT->Prop}{H:Hp}{kw:List (Str×vS)}{es:List vZ}{v8:List (vR×v1)}{σ:St}{mA mg:Str->Option vS}{pos:Pos}{u:vS}{us:List vS}{lo:Int}{w:vV}{P:vU}
abbrev Key:=Sum Int Str
def om:Key->vS->Bool
 | .inl k,v=>Value.isInt k v
 | .inr x,v=>Value.isStrOf x v
def ra (w:vV):Key->Int
 | .inl k=>hashInt k
 | .inr x=>hashStr w x
theorem keyIs_shape:∀{k:Key} {v:vS},om k v=true->(∃i t,k=Sum.inl i/\v=Value.int i t)\/(∃x t,k=Sum.inr x/\v=Value.str x t)
 | .inl i,v,h=>by
  obtain⟨t,e⟩:=Value.isInt_shape (k:=i) (v:=v) h;exact .inl ⟨i,t,rfl,e⟩
 | .inr x,v,h=>by
  obtain⟨t,e⟩:=Value.isStrOf_shape (x:=x) (v:=v) h;exact .inr ⟨x,t,rfl,e⟩
theorem oY (a b:Int):decide ((Sum.inl a:Key)=Sum.inl b)=(a==b):=by
 by_cases e:a=b
 ·subst e;simp
 ·have h:¬(Sum.inl a:Key)=Sum.inl b:=λ q=>e (Sum.inl.inj q)
  rw [sf h];exact(tO.mpr e).symm
theorem o5 (a b:Str):decide ((Sum.inr a:Key)=Sum.inr b)=decide (a=b):=by
 by_cases e:a=b
 ·subst e;simp
 ·have h:¬(Sum.inr a:Key)=Sum.inr b:=λ q=>e (Sum.inr.inj q)
  rw [sf h,sf e]
theorem oB (a:Int)(b:Str):decide ((Sum.inl a:Key)=Sum.inr b)=false:=sf (λ q=>nomatch q)
theorem oQ (a:Str)(b:Int):decide ((Sum.inr a:Key)=Sum.inl b)=false:=sf (λ q=>nomatch q)
noncomputable def jy (prog:vU) (w:vV):PySem.KeyKind prog w Key where
 is:=om
 hash:=ra w
 inj:=λ v a b ha hb=>by
  rcases keyIs_shape ha with⟨i,t,rfl,rfl⟩|⟨x,t,rfl,rfl⟩
  ·rcases keyIs_shape hb with⟨j,u,rfl,e⟩|⟨y,u,rfl,e⟩
   ·injection e with e1 _;rw [e1]
   ·exact nomatch e
  ·rcases keyIs_shape hb with⟨j,u,rfl,e⟩|⟨y,u,rfl,e⟩
   ·exact nomatch e
   ·injection e with e1 _;rw [e1]
 byValue:=λ k v h=>by
  rcases keyIs_shape h with⟨i,t,rfl,rfl⟩|⟨x,t,rfl,rfl⟩<;>rfl
 pyHash:=λ hv h=>by
  rcases keyIs_shape hv with⟨i,t,rfl,rfl⟩|⟨x,t,rfl,rfl⟩
  ·exact wpAny_pyHash_int h
  ·exact wpAny_pyHash_str h
 eqBool:=λ hu hv h=>by
  rcases keyIs_shape hu with⟨i,t,rfl,rfl⟩|⟨x,t,rfl,rfl⟩
  ·rcases keyIs_shape hv with⟨j,u,rfl,rfl⟩|⟨y,u,rfl,rfl⟩
   ·rw [oY] at h;exact wpAny_eqBool_int h
   ·rw [oB] at h;exact SeqAt.EqAt.int_str i t y u _ _ _ _ h
  ·rcases keyIs_shape hv with⟨j,u,rfl,rfl⟩|⟨y,u,rfl,rfl⟩
   ·rw [oQ] at h;exact SeqAt.EqAt.str_int x t j u _ _ _ _ h
   ·rw [o5] at h;exact wpAny_eqBool_str h
 «strs»:=λ k x t v h=>by
  rcases keyIs_shape h with⟨i,u,rfl,e⟩|⟨y,u,rfl,e⟩
  ·exact nomatch e
  ·injection e with e1 _
   subst e1;cases v<;>rfl
inductive V where
 |non|bl (b:Bool)|int (i:Int)|str (x:Str)|byt (b:Array UInt8)|flt (b:UInt64)|ref (a:vR)|ty (n:String)
 deriving DecidableEq
def RelV:V->vS->Prop
 | .non,u=>u=Value.none
 | .bl b,u=>u=Value.bool b
 | .int i,u=>∃t,u=Value.int i t
 | .str x,u=>∃t,u=Value.str x t
 | .byt b,u=>∃t,u=Value.bytes b t
 | .flt b,u=>∃t,u=Value.float b t
 | .ref a,u=>u=Value.ref a
 | .ty n,u=>u=Value.type n
abbrev Vals:List V->List vS->Prop:=Paired RelV
theorem Vals.length (r:Vals xs us):xs.length=us.length:=u5 r
theorem Vals.get:∀{xs:List V} {us:List vS} {i:Nat} {x:V},Vals xs us->xs[i]?=some x->∃u,us[i]?=some u/\RelV x u
 |_,_,_,_,.nil,e=>by simp at e
 |_,_,0,_,.cons r _,e=>by simp at e;subst e;exact⟨_,rfl,r⟩
 |_,_,i+1,x,.cons _ t,e=>by
  obtain⟨u,h1,h2⟩:=Vals.get (i:=i) (x:=x) t (by simpa using e);exact⟨u,by simpa using h1,h2⟩
theorem Vals.set {x:V}(r:RelV x u):∀{xs:List V} {us:List vS} (i:Nat),Vals xs us->Vals (xs.set i x) (us.set i u)
 |_,_,_,.nil=>.nil
 |_,_,0,.cons _ t=>.cons r t
 |_,_,i+1,.cons q t=>.cons q (Vals.set r i t)
theorem Vals.append {ws:List vS}(h:Vals xs us)(s:Vals ys ws):Vals (xs++ys) (us++ws):=by
 induction h with
 |nil=>exact s
 |cons r _ ih=>exact .cons r ih
theorem Vals.take (n:Nat)(h:Vals xs us):Vals (xs.take n) (us.take n):=by
 induction h generalizing n with
 |nil=>cases n<;>exact .nil
 |cons r _ ih=>cases n with
  |zero=>exact .nil
  |succ n=>exact .cons r (ih n)
theorem Vals.drop:∀{xs:List V} {us:List vS} (n:Nat),Vals xs us->Vals (xs.drop n) (us.drop n)
 |_,_,0,r=>r
 |_,_,_+1,.nil=>.nil
 |_,_,n+1,.cons _ t=>Vals.drop n t
def RelO:Option V->Option vS->Prop
 |some v,some u=>RelV v u
 |none,none=>True
 |_,_=>False
def KV {κ:Type}:List (κ×V)->List (κ×vS)->Prop:=Paired λ(p:κ×V) (q:κ×vS)=>p.1=q.1/\RelV p.2 q.2
def kV:Key->V
 | .inl i=>.int i
 | .inr x=>.str x
inductive HO where
 |lst (xs:List V)
 |tup (xs:List V)
 |dK (kvs:List (Key×V))|dT (kvs:List (List Key×V))
 |set (S:Int->Bool) (n:Nat)
 |ins (C dx:vR) (fs:List (Str×V))
 |own (x:vR)
 |xd (fs:List (Str×V))
 |met (f x:vR)
 |rng (lo hi:Int)
 |frz (o:v1) (u:HO)
 |tbl (ps:Array vS)
 |ext (φ:vY->Prop)
abbrev Hp:=vR->Option HO
noncomputable def upd (H:Hp) (a:vR) (o:HO):Hp:=λ b=>if b=a then some o else H b
theorem ad:upd H a o a=some o:=by unfold upd;rw [se rfl]
theorem ao (h:b≠a):upd H a o b=H b:=by unfold upd;rw [rO h]
theorem eV {u:HO}(h:H a=some o)(h':H b=some u)(d:o≠u):a≠b:=by
 intro e;subst e;rw [h] at h';exact d (rH h')
theorem am (h:H a=some o)(h':H b=none):a≠b:=by
 intro e;subst e;rw [h] at h';cases h'
section
variable (P:vU)(w:vV)
def ObjOk (H:Hp)(h:vY)(a:vR):HO->Prop
 | .lst xs=>xs.length≤sizeLine/\∃(its:List vS) (n:Nat),Vals xs its/\h.get? a=some {cls:=.type "list",data:=.seq its.toArray n}
 | .tup xs=>xs.length≤sizeLine/\∃its:List vS,Vals xs its/\IsTup h a its.toArray
 | .dK kvs=>kvs.length≤sizeLine/\(a==sysModules)=false/\∃vs,KV kvs vs/\h.DictOf (jy P w) a vs
 | .dT kvs=>kvs.length≤sizeLine/\(a==sysModules)=false/\∃xs:List (List Key×vR×vS),
   Paired (λ(p:List Key×V) (q:List Key×vR×vS)=>p.1=q.1/\H q.2.1=some (.tup (p.1.map kV))/\RelV p.2 q.2.2) kvs xs/\
   ∃o es ep,h.get? a=some o/\o.ExactDict/\o.data=.dict es ep/\es.toList=xs.map (entryOfKey (tupleKind (jy P w)))/\(xs.map (·.1)).Nodup
 | .set S n=>h.SetOf (intKind P w) a S n
 | .ins C dx fs=>H dx=some (.own a)/\fs.length≤1000/\dx≠a/\h.get? a=some (instObj C dx)/\
   ∃mA,h.Ns1 dx mA/\(∀f,RelO (fs.lookup f) (mA f))/\PySem.Within mA (fs.map (·.1))
 | .own _=>∃o,h.get? a=some o
 | .xd fs=>∃mA,h.Ns1 a mA/\∀f,RelO (fs.lookup f) (mA f)
 | .rng lo hi=>∃t u v,h.get? a=some {cls:=.type "range",data:=.fields #[.int lo t,.int hi u,.int 1 v]}
 | .frz o u=>h.get? a=some o/\ObjOk H h a u
 | .tbl ps=>h.get? a=some {cls:=.none,data:=.fields ps}
 | .met f x=>h.get? a=some (methodObj (.ref f) (.ref x))
 | .ext φ=>φ h/\(∃o,h.get? a=some o)/\∀h1 h2:vY,φ h1->(∀o,h1.get? a=some o->h2.get? a=some o)->φ h2
def HOk (H:Hp)(h:vY):Prop:=∀a o,H a=some o->ObjOk P w H h a o
end
section
variable {P:vU}{w:vV}{H H':Hp}{h h':vY}{a:vR}{o:HO}
theorem ObjOk.lt (x:ObjOk P w H h a o):a<h.objs.size:=by
 cases o with
 |lst xs=>obtain⟨_,_,_,_,e⟩:=x;exact rk e
 |tup xs=>obtain⟨_,_,_,p⟩:=x;exact p.lt
 |dK kvs=>obtain⟨_,_,_,_,o,_,_,e,_⟩:=x;exact rk e
 |dT kvs=>obtain⟨_,_,_,_,o,_,_,e,_⟩:=x;exact rk e
 |set S n=>obtain⟨o,_,_,_,e,_⟩:=x;exact rk e
 |ins C dx fs=>obtain⟨_,_,_,e,_⟩:=x;exact rk e
 |own y=>obtain⟨_,e⟩:=x;exact rk e
 |xd fs=>obtain⟨_,⟨_,_,_,e,_⟩,_⟩:=x;exact rk e
 |rng lo hi=>obtain⟨_,_,_,e⟩:=x;exact rk e
 |frz ob u=>obtain⟨e,_⟩:=x;exact rk e
 |tbl ps=>exact rk (show h.get? a=some _ from x)
 |met f y=>exact rk (show h.get? a=some _ from x)
 |ext φ=>obtain⟨_,⟨_,e⟩,_⟩:=x;exact rk e
theorem Paired.mapP {α β:Type}{F G:α->β->Prop}{l₁:List α}{l₂:List β}(h:Paired F l₁ l₂)(f:∀a b,F a b->G a b):Paired G l₁ l₂:=by
 induction h with
 |nil=>exact .nil
 |cons r _ ih=>exact .cons (f _ _ r) ih
theorem ObjOk.stay (x:ObjOk P w H h a o)(k:∀b u,(b=a\/H b=some (.own a))->h.get? b=some u->h'.get? b=some u)
  (ho:∀b,H b=some (.own a)->H' b=some (.own a)) (ht:∀b xs,H b=some (.tup xs)->H' b=some (.tup xs)):ObjOk P w H' h' a o:=by
 induction o with
 |lst xs=>obtain⟨z,its,n,r,e⟩:=x;exact⟨z,its,n,r,k _ _ (.inl rfl) e⟩
 |tup xs=>obtain⟨z,its,r,ob,e,c⟩:=x;exact⟨z,its,r,ob,k _ _ (.inl rfl) e,c⟩
 |dK kvs=>obtain⟨z,y,vs,r,ob,es,ep,e,c⟩:=x;exact⟨z,y,vs,r,ob,es,ep,k _ _ (.inl rfl) e,c⟩
 |dT kvs=>
  obtain⟨z,y,xs,r,ob,es,ep,e,c⟩:=x;exact⟨z,y,xs,Paired.mapP r λ p q z=>⟨z.1,ht _ _ z.2.1,z.2.2⟩,ob,es,ep,k _ _ (.inl rfl) e,c⟩
 |set S n=>obtain⟨ob,es,ep,t,e,c⟩:=x;exact⟨ob,es,ep,t,k _ _ (.inl rfl) e,c⟩
 |ins C dx fs=>
  obtain⟨d,z,ne,e,mA,⟨od,es,ep,e2,c⟩,r⟩:=x;exact⟨ho _ d,z,ne,k _ _ (.inl rfl) e,mA,⟨od,es,ep,k _ _ (.inr d) e2,c⟩,r⟩
 |own y=>obtain⟨ob,e⟩:=x;exact⟨ob,k _ _ (.inl rfl) e⟩
 |xd fs=>obtain⟨mA,⟨od,es,ep,e,c⟩,r⟩:=x;exact⟨mA,⟨od,es,ep,k _ _ (.inl rfl) e,c⟩,r⟩
 |rng lo hi=>obtain⟨t,u,v,e⟩:=x;exact⟨t,u,v,k _ _ (.inl rfl) e⟩
 |frz ob u ih=>obtain⟨e,q⟩:=x;exact⟨k _ _ (.inl rfl) e,ih q⟩
 |tbl ps=>
  have e:h.get? a=some {cls:=.none,data:=.fields ps}:=x;show h'.get? a=some {cls:=.none,data:=.fields ps};exact k a _ (.inl rfl) e
 |met f y=>
  have e:h.get? a=some (methodObj (.ref f) (.ref y)):=x;show h'.get? a=some (methodObj (.ref f) (.ref y));exact k a _ (.inl rfl) e
 |ext φ=>obtain⟨p,⟨o,e⟩,st⟩:=x;exact⟨st _ _ p λ o q=>k _ _ (.inl rfl) q,⟨o,k _ _ (.inl rfl) e⟩,st⟩
theorem HOk.lt (x:HOk P w H h)(e:H a=some o):a<h.objs.size:=(x a o e).lt
theorem HOk.fresh (x:HOk P w H h)(e:h.objs.size≤a):H a=none:=by
 cases q:H a with
 |none=>rfl
 |some u=>exact absurd (rj (x.lt q) e) (su _)
theorem HOk.kept (x:HOk P w H h)(k:∀b u,h.get? b=some u->h'.get? b=some u):HOk P w H h':=λ a o e=>
 (x a o e).stay (λ b u _ q=>k b u q) (λ _ q=>q) λ _ _ q=>q
theorem HOk.laid (x:HOk P w H h)(k:∀b u,h.get? b=some u->h'.get? b=some u)(hp:h.objs.size≤a)(new:ObjOk P w (upd H a o) h' a o):HOk P w (upd H a o) h':=λ b u e=>by
 have hn:=x.fresh hp;by_cases hb:b=a
 ·subst hb;rw [ad] at e;cases e;exact new
 ·rw [ao hb] at e;exact(x b u e).stay (λ c v _ q=>k c v q) (λ c q=>by rw [ao (am q hn)];exact q) λ c xs q=>by rw [ao (am q hn)];exact q
end
def Rd (H:Hp)(a:vR)(u:HO):Prop:=H a=some u\/∃o,H a=some (.frz o u)
theorem Rd.ok {u:HO}(r:Rd H a u)(x:HOk P w H h):ObjOk P w H h a u:=by
 rcases r with r|⟨o,r⟩
 ·exact x a u r
 ·obtain⟨_,q⟩:=x a _ r;exact q
def Mut:Option HO->Prop
 |some (.lst _)=>True
 |some (.dK _)=>True
 |some (.dT _)=>True
 |some (.set _ _)=>True
 |some (.ins _ _ _)=>True
 |some (.ext _)=>True
 |_=>False
section
variable {P:vU}{w:vV}{H:Hp}{h h':vY}{x e:vR}{o':HO}
theorem HOk.write (ok:HOk P w H h)(mu:Mut (H x))(he:e=x\/H e=some (.own x))(k:∀b u,b≠e->h.get? b=some u->h'.get? b=some u)(heo:∃u,h'.get? e=some u)
  (new:ObjOk P w (upd H x o') h' x o'):HOk P w (upd H x o') h':=λ b u q=>by
 have nown:∀c y,H c=some (.own y)->c≠x:=λ c y r z=>by subst z;rw [r] at mu;exact mu
 have ntup:∀c xs,H c=some (.tup xs)->c≠x:=λ c xs r z=>by subst z;rw [r] at mu;exact mu
 by_cases hb:b=x
 ·subst hb;rw [ad] at q;cases q;exact new
 ·rw [ao hb] at q;by_cases hbe:b=e
  ·have q':H b=some (.own x):=by
    rcases he with z|z
    ·exact absurd (hbe.trans z) hb
    ·rw [hbe];exact z
   rw [q] at q';cases q';obtain⟨v,hv⟩:=heo;exact⟨v,by rw [hbe];exact hv⟩
  ·refine(ok b u q).stay (λ c v hc r=>k c v ?_ r) (λ c r=>by rw [ao (nown c b r)];exact r) λ c xs r=>by rw [ao (ntup c xs r)];exact r
   rcases hc with rfl|hc
   ·exact hbe
   ·rintro rfl;rcases he with z|z
    ·exact nown c b hc z
    ·rw [hc] at z;cases z;exact hb rfl
end
structure Un (fs ex:List vR)(H H':Hp)(h h':vY):Prop where
 keep:∀b o,h.get? b=some o->H b=none->b∉fs->b∉ex->h'.get? b=some o
 slot:∀b o,h.get? b=some o->H b=none->b∈fs->b∉ex->∃sl,h'.get? b=some {o with slots:=sl}
 free:∀b o,h.get? b=some o->H b=none->b∉ex->H' b=none
 there:∀b o,h.get? b=some o->b∉ex->∃o',h'.get? b=some o'
 tups:∀b xs,H b=some (.tup xs)->H' b=some (.tup xs)
 frzs:∀b o u,H b=some (.frz o u)->H' b=some (.frz o u)
 tbls:∀b ps,H b=some (.tbl ps)->∃more,H' b=some (.tbl (ps++more))
section
variable {fs fs' ex ex':List vR}{H H1 H2:Hp}{h h1 h2 h':vY}{a x e:vR}{o:HO}
theorem Un.any (u:Un fs ex H H1 h h1){ob:v1}(q:h.get? b=some ob)(n:H b=none)(hx:b∉ex):∃sl,h1.get? b=some {ob with slots:=sl}:=by
 by_cases hb:b∈fs
 ·exact u.slot b ob q n hb hx
 ·exact⟨ob.slots,u.keep b ob q n hb hx⟩
theorem Un.kept (k:∀b u,h.get? b=some u->h'.get? b=some u):Un fs ex H H h h':=
 ⟨λ b ob q _ _ _=>k b ob q,λ b ob q _ _ _=>⟨ob.slots,k b ob q⟩,λ _ _ _ n _=>n,λ b ob q _=>⟨ob,k b ob q⟩,λ _ _ q=>q,λ _ _ _ q=>q,λ _ ps q=>⟨#[],by rw [q];simp⟩⟩
theorem Un.refl:Un fs ex H H h h:=Un.kept λ _ _ q=>q
theorem Un.laid (k:∀b u,h.get? b=some u->h'.get? b=some u)(hp:h.objs.size≤a)(hn:H a=none):Un fs ex H (upd H a o) h h' where
 keep:=λ b u q _ _ _=>k b u q
 slot:=λ b u q _ _ _=>⟨u.slots,k b u q⟩
 free:=λ b u q n _=>by rw [ao (rL (rj (rk q) hp))];exact n
 there:=λ b u q _=>⟨u,k b u q⟩
 tups:=λ b xs q=>by rw [ao (am q hn)];exact q
 frzs:=λ b u xs q=>by rw [ao (am q hn)];exact q
 tbls:=λ b ps q=>⟨#[],by rw [ao (am q hn),q];simp⟩
theorem Un.write (mu:Mut (H x))(he:e=x\/H e=some (.own x))(k:∀b u,b≠e->h.get? b=some u->h'.get? b=some u)(heo:∃u,h'.get? e=some u):Un fs ex H (upd H x o) h h':=by
 have hx:∀b,H b=none->b≠x:=λ b n z=>by subst z;rw [n] at mu;exact mu
 have hb:∀b,H b=none->b≠e:=λ b n z=>by
  subst z;rcases he with r|r
  ·exact hx b n r
  ·rw [n] at r;cases r
 have hm:∀b u,H b=some u->¬Mut (some u)->b≠x:=λ b u q nm z=>by subst z;rw [q] at mu;exact nm mu
 refine⟨λ b u q n _ _=>k b u (hb b n) q,λ b u q n _ _=>⟨u.slots,k b u (hb b n) q⟩,λ b u q n _=>by rw [ao (hx b n)];exact n,λ b u q _=>?_,
  λ b xs q=>by rw [ao (hm b _ q λ z=>z)];exact q,λ b u xs q=>by rw [ao (hm b _ q λ z=>z)];exact q,λ b ps q=>⟨#[],by rw [ao (hm b _ q λ z=>z),q];simp⟩⟩
 by_cases hbe:b=e
 ·subst hbe;exact heo
 ·exact⟨u,k b u hbe q⟩
end
noncomputable def trk (h:vY) (H:Hp):List vR:=(List.range h.objs.size).filter λ a=>(H a).isSome
def hidT (h:vY)(H:Hp):vY:=PySem.W.hideAll h (trk h H)
theorem jz (h:vY)(H:Hp):(hidT h H).objs.size=h.objs.size:=PySem.W.hideAll_size _ _
theorem lP {o:v1}(e:h.get? b=some o)(n:H b=none):(hidT h H).get? b=some o:=
 PySem.W.hideAll_get _ e λ hm=>by
  have q:(H b).isSome=true:=(List.mem_filter.mp hm).2;rw [n] at q;simp at q
theorem nQ {o:v1}(e:(hidT h H).get? b=some o):h.get? b=some o/\H b=none:=by
 have e':h.get? b=some o:=PySem.W.of_hideAll (trk h H) e;refine⟨e',?_⟩;cases q:H b with
 |none=>rfl
 |some x=>
  have hm:b∈trk h H:=List.mem_filter.mpr ⟨List.mem_range.mpr (rk e'),by simp [q]⟩;have z:(hidT h H).get? b=none:=PySem.W.hideAll_none (trk h H) hm;rw [z] at e;cases e
structure Mod (K:Frag)(mg:Str->Option vS)(base:vY):Prop where
 kin:K.In base
 glob:base.Ns mainGlobals mg
 blt:∃mb,base.Ns builtinsNs mb/\∀x:Str,x≠ "__name__"->mb x=bootBuiltins x
 nolimit:base.NoLimit
structure Cx where
 prog:vU
 w:vV
 K:Frag
 mg:Str->Option vS
 base:vY
 A:vX
 N:List Str
 s₀:vT
 H₀:Hp
 env:Env
 outer:List Env
 stack:List Env
 ex:List vR
 fn:Str->Bool
 calm:Bool
 pn:List (vR×v1)
 xe:vS->vT->Prop
def BkH (H:Hp)(a:vR)(c:vS):Prop:=c=.none\/∃b ob us,c=.ref b/\b≠a/\H b=some (.frz ob (.own b))/\ob.data=.fields us/\6≤us.size/\us[2]?=some Value.none
def Qt (A:vX)(H:Hp):Prop:=A.handled=none\/∃a o vs c,A.handled=some (.ref a)/\H a=some (.frz o (.own a))/\o.data=.fields vs/\(vs[2]?=some c/\6≤vs.size)/\BkH H a c
def frs (l:List Env):List vR:=l.filterMap (·.frame)
abbrev Cx.fs (X:Cx):List vR:=frs X.outer
def Vis (sc:Scope)(x:Str):Prop:=sc.names.lookup x=some .local\/sc.names.lookup x=some .cell\/sc.names.lookup x=some .free
def Loc (sc:Scope)(x:Str):Prop:=sc.names.lookup x=some .local\/sc.names.lookup x=some .cell
def qD (env:Env)(h:vY)(m:Str->Option vS)(x:Str)(u:vS):Prop:=
 (env.kindOf x=some .local/\m x=some u)\/((env.kindOf x=some .cell\/env.kindOf x=some .free)/\∃c,env.cells.lookup x=some c/\h.IsCell c (some u))
structure Cx.Ok (X:Cx):Prop where
 mod:Mod X.K X.mg X.base
 kind:X.env.scope.kind=.function
 glob:X.env.globals=mainGlobals
 blt:X.env.builtins=builtinsNs
 above:X.s₀.heap.objs.size≤X.env.locals
 inj:∀x y c,X.env.cells.lookup x=some c->X.env.cells.lookup y=some c->x=y
 has:∀x,(X.env.kindOf x=some .cell\/X.env.kindOf x=some .free)->∃c,X.env.cells.lookup x=some c
 cab:∀x c,X.fn x=true->X.env.cells.lookup x=some c->X.s₀.heap.objs.size≤c
 hd:Qt X.A X.H₀
 frames:X.A.frames=some X.stack
 stk:X.stack=X.outer\/(X.stack=X.env::X.outer/\X.env.frame=some X.env.locals)
 exf:∀b∈X.ex,b≠X.env.locals/\∀x c,X.env.cells.lookup x=some c->c≠b
 bs:∀b o,X.base.get? b=some o->X.s₀.heap.get? b=some o/\X.H₀ b=none
 bsz:X.base.objs.size≤X.s₀.heap.objs.size
 noex:∀b o,X.base.get? b=some o->b∉X.ex
 exfs:∀b∈X.ex,b∉X.fs
 funs:X.s₀.heap.FunFrames X.base X.outer
 frf:∀b∈X.fs,X.H₀ b=none
structure Inv (X:Cx)(v8:List (vR×v1))(σ:List (Option V))(H:Hp)(s:vT):Prop where
 ok:X.Ok
 os:s.os=X.s₀.os
 bare:AllBare s.gens
 base:Un X.fs X.ex X.H₀ H X.s₀.heap s.heap
 loc:∃m,s.heap.Ns X.env.locals m/\∀(i:Nat) (x:Str) (v:V),X.N[i]?=some x->σ[i]?=some (some v)->Vis X.env.scope x->∃u,RelV v u/\qD X.env s.heap m x u
 cell:∀x c,X.env.cells.lookup x=some c->∃v,s.heap.IsCell c v
 free:H X.env.locals=none
 freeC:∀x c,X.env.cells.lookup x=some c->H c=none
 pin:∀p∈X.pn++v8,s.heap.get? p.1=some p.2/\H p.1=none/\p.1≠X.env.locals/\p.1∉X.fs/\∀v,p.2.data≠ .cell v
 hok:HOk X.prog X.w H s.heap
 len:σ.length=X.N.length
section
variable {X:Cx}{v8:List (vR × v1)}{σ:List (Option V)}{H H':Hp}{s:vT}{h':vY}
theorem Cx.Ok.nofr (ok:X.Ok){o:v1}(e:X.base.get? b=some o):b∉X.fs:=λ hb=>by
 have:=(ok.funs.mem hb).1;rw [e] at this;cases this
theorem Inv.bs (I:Inv X v8 σ H s):∀b o,X.base.get? b=some o->s.heap.get? b=some o/\H b=none:=λ b o e=>
 ⟨I.base.keep b o (I.ok.bs b o e).1 (I.ok.bs b o e).2 (I.ok.nofr e) (I.ok.noex b o e),I.base.free b o (I.ok.bs b o e).1 (I.ok.bs b o e).2 (I.ok.noex b o e)⟩
theorem Inv.bk (I:Inv X v8 σ H s):∀b o,X.base.get? b=some o->s.heap.get? b=some o:=λ b o e=>(I.bs b o e).1
theorem Inv.mod (I:Inv X v8 σ H s):Mod X.K X.mg X.base:=I.ok.mod
theorem BkH.keep {c:vS}(h:BkH H a c)(k:∀b o u,H b=some (.frz o u)->H' b=some (.frz o u)):BkH H' a c:=by
 rcases h with h|⟨b,ob,us,e,n,g,r⟩
 ·exact .inl h
 ·exact .inr ⟨b,ob,us,e,n,k _ _ _ g,r⟩
theorem Inv.qt (I:Inv X v8 σ H s):Qt X.A H:=by
 rcases I.ok.hd with q|⟨a,o,vs,c,e,f,d,z,b⟩
 ·exact .inl q
 ·exact .inr ⟨a,o,vs,c,e,I.base.frzs _ _ _ f,d,z,b.keep I.base.frzs⟩
theorem Inv.hq (I:Inv X v8 σ H s):QQ.Hq X.A s.heap:=by
 rcases I.qt with q|⟨a,o,vs,c,e,f,d,z,b⟩
 ·exact .inl q
 ·obtain⟨g,_⟩:=I.hok a _ f;refine .inr ⟨a,o,vs,e,g,d,z.2,?_⟩;rcases b with b|⟨b,ob,us,e1,n,f1,r⟩
  ·exact .inl (z.1.trans (sv some b))
  ·obtain⟨g1,_⟩:=I.hok b _ f1;exact .inr ⟨b,ob,us,z.1.trans (sv some e1),n,g1,r⟩
theorem Inv.kIn (I:Inv X v8 σ H s):X.K.In s.heap:=I.ok.mod.kin.keeps I.bk
theorem Inv.lt (I:Inv X v8 σ H s):X.env.locals<s.heap.objs.size:=let⟨_,hn,_⟩:=I.loc;hn.lt
theorem Inv.sz (I:Inv X v8 σ H s):X.s₀.heap.objs.size≤s.heap.objs.size:=rP I.ok.above (vv I.lt)
theorem Inv.nofs (I:Inv X v8 σ H s)(h:s.heap.objs.size≤a):a∉X.fs:=λ hb=>by
 obtain⟨_,o,ho,_⟩:=I.ok.funs.mem hb;exact absurd (rj (rk ho) (rP I.sz h)) (su _)
theorem Inv.cne (I:Inv X v8 σ H s):∀x c,X.env.cells.lookup x=some c->c≠X.env.locals:=λ x c e z=>by
 obtain⟨v,o,ho,hd⟩:=I.cell x c e;obtain⟨m,⟨o',es,ep,ho',hd',_⟩,_⟩:=I.loc;rw [z,ho'] at ho;cases ho;rw [hd'] at hd;cases hd
theorem Inv.funs (I:Inv X v8 σ H s):s.heap.FunFrames X.base X.outer:=by
 have all:∀(l:List Env),(∀b∈frs l,b∈X.fs)->X.s₀.heap.FunFrames X.base l->s.heap.FunFrames X.base l:=by
  intro l
  induction l with
  |nil=>intro _ _;trivial
  |cons env r ih=>
   intro hs hl;obtain⟨hk,⟨L,o,hf,hn,ho,hd⟩,hr⟩:=hl;have hL:L∈X.fs:=hs L (by unfold frs;rw [vf,hf];exact ux);obtain⟨sl,e⟩:=I.base.slot L o ho (I.ok.frf L hL) hL λ z=>I.ok.exfs L z hL
   exact⟨hk,⟨L,_,hf,hn,e,hd⟩,ih (λ b hb=>hs b (by unfold frs;rw [vf,hf];exact sN _ hb)) hr⟩
 exact all X.outer (λ _ hb=>hb) I.ok.funs
theorem Inv.stack (I:Inv X v8 σ H s):s.heap.FunFrames X.base X.stack:=by
 rcases I.ok.stk with e|⟨e,hf⟩
 ·rw [e];exact I.funs
 ·rw [e];obtain⟨m,hn,_⟩:=I.loc;refine .cons (by rw [I.ok.kind];decide) hf hn ?_ I.funs;exact Heap.get?_none_of_le (rP I.ok.bsz I.ok.above)
theorem Inv.stkSub (I:Inv X v8 σ H s):∀b∈frs X.stack,b∈X.env.locals::X.fs:=λ b hb=>by
 rcases I.ok.stk with e|⟨e,hf⟩
 ·rw [e] at hb;exact sN _ hb
 ·rw [e] at hb;unfold frs at hb;rw [vf,hf] at hb;exact hb
theorem Inv.stkFree (I:Inv X v8 σ H s):∀b∈frs X.stack,H b=none:=λ b hb=>by
 rcases rY.mp (I.stkSub b hb) with e|hb
 ·rw [e];exact I.free
 ·obtain⟨_,o,ho,_⟩:=I.ok.funs.mem hb;exact I.base.free b o ho (I.ok.frf b hb) λ z=>I.ok.exfs b z hb
theorem Inv.step {g':Array GenState}{d':Drawn}{ch:List vR}(I:Inv X v8 σ H s)
  (hch:∀b∈ch,(b∈X.ex\/X.s₀.heap.objs.size≤b)/\b≠X.env.locals/\(∀x c,X.env.cells.lookup x=some c->c≠b)/\∀p∈X.pn++v8,p.1≠b)
  (keep:∀b o,b≠X.env.locals->b∉X.fs->b∉ch->s.heap.get? b=some o->H b=none->h'.get? b=some o)
  (slot:∀b o,b≠X.env.locals->b∈X.fs->b∉ch->s.heap.get? b=some o->H b=none->∃sl,h'.get? b=some {o with slots:=sl}) (free:∀b o,b∉ch->s.heap.get? b=some o->H b=none->H' b=none)
  (there:∀b o,b∉ch->s.heap.get? b=some o->∃o',h'.get? b=some o')
  (tups:∀b xs,H b=some (.tup xs)->H' b=some (.tup xs)) (frzs:∀b o u,H b=some (.frz o u)->H' b=some (.frz o u)) (tbls:∀b ps,H b=some (.tbl ps)->∃more,H' b=some (.tbl (ps++more)))
  (ns:∀m,s.heap.Ns X.env.locals m->h'.Ns X.env.locals m) (hok:HOk X.prog X.w H' h') (hg:AllBare g'):
  Inv X v8 σ H' {s with heap:=h',gens:=g',drawn:=d',toks:=t'}:=by
 have neL:∀b o,X.s₀.heap.get? b=some o->b≠X.env.locals:=λ b o e=>rL (rj (rk e) I.ok.above)
 have neC:∀b o,X.s₀.heap.get? b=some o->b∉X.ex->b∉ch:=λ b o e hx hb=>by
  rcases(hch b hb).1 with z|z
  ·exact hx z
  ·exact absurd (rj (rk e) z) (su _)
 have cellK:∀x c,X.env.cells.lookup x=some c->∀v,s.heap.IsCell c v->h'.IsCell c v:=λ x c e v ⟨o,ho,hd⟩=>by
  have nch:c∉ch:=λ z=>(hch c z).2.2.1 x c e rfl
  by_cases hc:c∈X.fs
  ·obtain⟨sl,q⟩:=slot c o (I.cne x c e) hc nch ho (I.freeC x c e);exact⟨_,q,hd⟩
  ·exact⟨o,keep c o (I.cne x c e) hc nch ho (I.freeC x c e),hd⟩
 refine⟨I.ok,I.os,hg,⟨λ b o e n hb hx=>?_,λ b o e n hb hx=>?_,λ b o e n hx=>?_,λ b o e hx=>?_,λ b xs e=>tups b xs (I.base.tups b xs e),λ b o xs e=>frzs b o xs (I.base.frzs b o xs e),λ b ps e=>?_⟩,?_,λ x c e=>?_,?_,λ x c e=>?_,λ p hp=>?_,hok,I.len⟩
 ·exact keep b o (neL b o e) hb (neC b o e hx) (I.base.keep b o e n hb hx) (I.base.free b o e n hx)
 ·obtain⟨sl,e1⟩:=I.base.slot b o e n hb hx;obtain⟨sl',e2⟩:=slot b _ (neL b o e) hb (neC b o e hx) e1 (I.base.free b o e n hx);exact⟨sl',e2⟩
 ·obtain⟨o',e1⟩:=I.base.there b o e hx;exact free b o' (neC b o e hx) e1 (I.base.free b o e n hx)
 ·obtain⟨o',e1⟩:=I.base.there b o e hx;exact there b o' (neC b o e hx) e1
 ·obtain⟨m1,e1⟩:=I.base.tbls b ps e;obtain⟨m2,e2⟩:=tbls b _ e1;exact⟨m1++m2,by rw [e2,Array.append_assoc]⟩
 ·obtain⟨m,hn,hl⟩:=I.loc;refine⟨m,ns m hn,λ i x v e1 e2 e3=>?_⟩;obtain⟨u,r,l⟩:=hl i x v e1 e2 e3;refine⟨u,r,?_⟩;rcases l with l|⟨k,c,e,z⟩
  ·exact .inl l
  ·exact .inr ⟨k,c,e,cellK x c e _ z⟩
 ·obtain⟨v,z⟩:=I.cell x c e;exact⟨v,cellK x c e v z⟩
 ·obtain⟨m,⟨o,_,_,ho,_⟩,_⟩:=I.loc;exact free _ o (λ z=>(hch _ z).2.1 rfl) ho I.free
 ·obtain⟨v,o,ho,hd⟩:=I.cell x c e;exact free c o (λ z=>(hch c z).2.2.1 x c e rfl) ho (I.freeC x c e)
 ·obtain⟨e,n,ne,nf,d⟩:=I.pin p hp;have nch:p.1∉ch:=λ z=>(hch p.1 z).2.2.2 p hp rfl
  exact⟨keep p.1 p.2 ne nf nch e n,free p.1 p.2 nch e n,ne,nf,d⟩
theorem Inv.step0 {g':Array GenState}{d':Drawn}{ch:List vR}(I:Inv X v8 σ H s)
  (hch:∀b∈ch,(b∈X.ex\/X.s₀.heap.get? b=none)/\b≠X.env.locals/\(∀x c,X.env.cells.lookup x=some c->c≠b)/\∀p∈X.pn++v8,p.1≠b)
  (keep:∀b o,b≠X.env.locals->b∉X.fs->b∉ch->s.heap.get? b=some o->H b=none->h'.get? b=some o)
  (slot:∀b o,b≠X.env.locals->b∈X.fs->b∉ch->s.heap.get? b=some o->H b=none->∃sl,h'.get? b=some {o with slots:=sl}) (free:∀b o,b∉ch->s.heap.get? b=some o->H b=none->H' b=none)
  (there:∀b o,b∉ch->s.heap.get? b=some o->∃o',h'.get? b=some o')
  (tups:∀b xs,H b=some (.tup xs)->H' b=some (.tup xs)) (frzs:∀b o u,H b=some (.frz o u)->H' b=some (.frz o u)) (tbls:∀b ps,H b=some (.tbl ps)->∃more,H' b=some (.tbl (ps++more)))
  (ns:∀m,s.heap.Ns X.env.locals m->h'.Ns X.env.locals m) (hok:HOk X.prog X.w H' h') (hg:AllBare g'):
  Inv X v8 σ H' {s with heap:=h',gens:=g',drawn:=d',toks:=t'}:=by
 have neL:∀b o,X.s₀.heap.get? b=some o->b≠X.env.locals:=λ b o e=>rL (rj (rk e) I.ok.above)
 have neC:∀b o,X.s₀.heap.get? b=some o->b∉X.ex->b∉ch:=λ b o e hx hb=>by
  rcases(hch b hb).1 with z|z
  ·exact hx z
  ·rw [e] at z;cases z
 have cellK:∀x c,X.env.cells.lookup x=some c->∀v,s.heap.IsCell c v->h'.IsCell c v:=λ x c e v ⟨o,ho,hd⟩=>by
  have nch:c∉ch:=λ z=>(hch c z).2.2.1 x c e rfl
  by_cases hc:c∈X.fs
  ·obtain⟨sl,q⟩:=slot c o (I.cne x c e) hc nch ho (I.freeC x c e);exact⟨_,q,hd⟩
  ·exact⟨o,keep c o (I.cne x c e) hc nch ho (I.freeC x c e),hd⟩
 refine⟨I.ok,I.os,hg,⟨λ b o e n hb hx=>?_,λ b o e n hb hx=>?_,λ b o e n hx=>?_,λ b o e hx=>?_,λ b xs e=>tups b xs (I.base.tups b xs e),λ b o xs e=>frzs b o xs (I.base.frzs b o xs e),λ b ps e=>?_⟩,?_,λ x c e=>?_,?_,λ x c e=>?_,λ p hp=>?_,hok,I.len⟩
 ·exact keep b o (neL b o e) hb (neC b o e hx) (I.base.keep b o e n hb hx) (I.base.free b o e n hx)
 ·obtain⟨sl,e1⟩:=I.base.slot b o e n hb hx;obtain⟨sl',e2⟩:=slot b _ (neL b o e) hb (neC b o e hx) e1 (I.base.free b o e n hx);exact⟨sl',e2⟩
 ·obtain⟨o',e1⟩:=I.base.there b o e hx;exact free b o' (neC b o e hx) e1 (I.base.free b o e n hx)
 ·obtain⟨o',e1⟩:=I.base.there b o e hx;exact there b o' (neC b o e hx) e1
 ·obtain⟨m1,e1⟩:=I.base.tbls b ps e;obtain⟨m2,e2⟩:=tbls b _ e1;exact⟨m1++m2,by rw [e2,Array.append_assoc]⟩
 ·obtain⟨m,hn,hl⟩:=I.loc;refine⟨m,ns m hn,λ i x v e1 e2 e3=>?_⟩;obtain⟨u,r,l⟩:=hl i x v e1 e2 e3;refine⟨u,r,?_⟩;rcases l with l|⟨k,c,e,z⟩
  ·exact .inl l
  ·exact .inr ⟨k,c,e,cellK x c e _ z⟩
 ·obtain⟨v,z⟩:=I.cell x c e;exact⟨v,cellK x c e v z⟩
 ·obtain⟨m,⟨o,_,_,ho,_⟩,_⟩:=I.loc;exact free _ o (λ z=>(hch _ z).2.1 rfl) ho I.free
 ·obtain⟨v,o,ho,hd⟩:=I.cell x c e;exact free c o (λ z=>(hch c z).2.2.1 x c e rfl) ho (I.freeC x c e)
 ·obtain⟨e,n,ne,nf,d⟩:=I.pin p hp;have nch:p.1∉ch:=λ z=>(hch p.1 z).2.2.2 p hp rfl
  exact⟨keep p.1 p.2 ne nf nch e n,free p.1 p.2 nch e n,ne,nf,d⟩
theorem Inv.un (I:Inv X v8 σ H s)(u:Un X.fs [] H H' s.heap h')(hok:HOk X.prog X.w H' h'):Inv X v8 σ H' {s with heap:=h',toks:=t'}:=by
 obtain⟨m,⟨o,es,ep,ho,r⟩,_⟩:=id I.loc;obtain⟨sl,hL⟩:=u.any ho I.free Z6;exact I.step (g':=s.gens) (d':=s.drawn) (ch:=[]) (λ _ z=>nomatch z) (λ b o _ hb _ e n=>u.keep b o e n hb Z6) (λ b o _ hb _ e n=>u.slot b o e n hb Z6) (λ b o _ e n=>u.free b o e n Z6) (λ b o _ e=>u.there b o e Z6) u.tups u.frzs u.tbls (λ m' hm=>by
  obtain⟨o',es',ep',ho',r'⟩:=hm;rw [ho] at ho';cases ho';exact⟨_,es',ep',hL,r'⟩) hok I.bare
theorem Inv.call {g':Array GenState}{d':Drawn}{ch:List vR}(I:Inv X v8 σ H s)(u:Un (frs X.stack) ch H H' s.heap h')(hok:HOk X.prog X.w H' h')(hg:AllBare g')
  (hch:∀b∈ch,(b∈X.ex\/X.s₀.heap.objs.size≤b)/\b≠X.env.locals/\(∀x c,X.env.cells.lookup x=some c->c≠b)/\∀p∈X.pn++v8,p.1≠b):
  Inv X v8 σ H' {s with heap:=h',gens:=g',drawn:=d',toks:=t'}:=by
 obtain⟨m,⟨o,es,ep,ho,r⟩,_⟩:=id I.loc;obtain⟨sl,hL⟩:=u.any ho I.free λ z=>(hch _ z).2.1 rfl
 exact I.step (ch:=ch) hch (λ b o hL hb hc e n=>u.keep b o e n (λ z=>(rY.mp (I.stkSub b z)).elim hL hb) hc) (λ b o _ _ hc e n=>u.any e n hc) (λ b o hc e n=>u.free b o e n hc) (λ b o hc e=>u.there b o e hc) u.tups u.frzs u.tbls (λ m' hm=>by
  obtain⟨o',es',ep',ho',r'⟩:=hm;rw [ho] at ho';cases ho';exact⟨_,es',ep',hL,r'⟩) hok hg
theorem Inv.turned (I:Inv X v8 σ H s)(k:∀b o,b≠it->s.heap.get? b=some o->h'.get? b=some o)(hn:H it=none)(hL:it≠X.env.locals)
  (h1:it∈X.ex\/X.s₀.heap.objs.size≤it) (h2:∀x c,X.env.cells.lookup x=some c->c≠it) (h3:∀p∈X.pn++v8,p.1≠it):Inv X v8 σ H {s with heap:=h',toks:=t'}:=by
 have nit:∀b u,H b=some u->b≠it:=λ b u e z=>by rw [z,hn] at e;cases e
 refine I.step (g':=s.gens) (d':=s.drawn) (ch:=[it]) (λ b hb=>?_) (λ b o _ _ hc e _=>k b o (λ z=>hc (by simp [z])) e) (λ b o _ _ hc e _=>⟨o.slots,k b o (λ z=>hc (by simp [z])) e⟩) (λ _ _ _ _ n=>n)
  (λ b o hc e=>⟨o,k b o (λ z=>hc (by simp [z])) e⟩) (λ _ _ e=>e) (λ _ _ _ e=>e) (λ b ps e=>⟨#[],by rw [e];simp⟩) (λ m hm=>?_) (λ b u e=>?_) I.bare
 ·have e:b=it:=by simpa using hb
  subst e;exact⟨h1,hL,h2,h3⟩
 ·obtain⟨o,es,ep,ho,r⟩:=hm;exact⟨o,es,ep,k _ o (sJ hL) ho,r⟩
 ·refine(I.hok b u e).stay (λ c v hc q=>k c v ?_ q) (λ _ q=>q) λ _ _ q=>q
  rcases hc with z|z
  ·rw [z];exact nit b u e
  ·exact nit c _ z
theorem Inv.tok (I:Inv X v8 σ H s)(t:Nat):Inv X v8 σ H {s with toks:=t}:=I.un (h':=s.heap) (t':=t) Un.refl I.hok
theorem Inv.kept (I:Inv X v8 σ H s)(k:∀b u,s.heap.get? b=some u->h'.get? b=some u):Inv X v8 σ H {s with heap:=h',toks:=t'}:=I.un (Un.kept k) (I.hok.kept k)
theorem Inv.laid (I:Inv X v8 σ H s)(k:∀b u,s.heap.get? b=some u->h'.get? b=some u)(hp:s.heap.objs.size≤a)(new:ObjOk X.prog X.w (upd H a o) h' a o):
  Inv X v8 σ (upd H a o) {s with heap:=h',toks:=t'}:=I.un (Un.laid k hp (I.hok.fresh hp)) (I.hok.laid k hp new)
theorem Inv.write {x e:vR}(I:Inv X v8 σ H s)(mu:Mut (H x))(he:e=x\/H e=some (.own x))(k:∀b u,b≠e->s.heap.get? b=some u->h'.get? b=some u)(heo:∃u,h'.get? e=some u)
  (new:ObjOk X.prog X.w (upd H x o) h' x o):Inv X v8 σ (upd H x o) {s with heap:=h',toks:=t'}:=I.un (Un.write mu he k heo) (I.hok.write mu he k heo new)
theorem Inv.pins_of {pins':List (vR×v1)}(I:Inv X v8 σ H s)(h:∀p∈pins',s.heap.get? p.1=some p.2/\H p.1=none/\p.1≠X.env.locals/\p.1∉X.fs/\∀v,p.2.data≠ .cell v):Inv X pins' σ H s:=
 ⟨I.ok,I.os,I.bare,I.base,I.loc,I.cell,I.free,I.freeC,λ p hp=>(sL.mp hp).elim (λ z=>I.pin p (sg _ z)) (h p),I.hok,I.len⟩
theorem nodup_ix (hN:N.Nodup){i:Nat}(a:N[i]?=some x)(b:N[j]?=some x):i=j:=by
 obtain⟨h1,e1⟩:=rm.mp a;obtain⟨h2,e2⟩:=rm.mp b;exact(List.getElem_inj hN).mp (e1.trans e2.symm)
theorem fD {M:Model}{i:Nat}(I:Inv X v8 σ H s)(hN:X.N.Nodup)(hi:X.N[i]?=some x)(hx:Loc X.env.scope x)(r:RelV v u)
  (h:∀s',Inv X v8 (σ.set i (some v)) H s'->(∃a,Heap.SameBut a s.heap s'.heap/\(a=X.env.locals\/X.env.cells.lookup x=some a))->Q () s') (hf:autoParam (X.fn x=true\/X.env.scope.names.lookup x=some .local) ZW):wpAny M A (storeName X.env x u) Q E s:=by
 obtain⟨m,hn,hl⟩:=id I.loc;have hcls:(X.env.scope.kind== .class||(X.env.scope.kind== .module&&X.env.locals !=X.env.globals))=false:=by rw [I.ok.kind];rfl
 have hiσ:i<σ.length:=by rw [I.len];exact(rm.mp hi).1
 have cne:=I.cne;have tracked:∀{a:vR} {h':vY},(∃o,s.heap.get? a=some o/\H a=none)->Heap.SameBut a s.heap h'->HOk X.prog X.w H h':=λ {a h'} ha hs b ob e=>by
  obtain⟨_,_,hfree⟩:=ha;refine(I.hok b ob e).stay (λ c w' hc q=>(hs.2 c ?_).trans q) (λ _ q=>q) λ _ _ q=>q
  rintro rfl;rcases hc with rfl|hc
  ·rw [hfree] at e;cases e
  ·rw [hfree] at hc;cases hc
 rcases hx with hk|hk
 ·refine wpAny_storeName_local hk hn (λ h' hn' hs=>?_) hcls;obtain⟨oL,_,_,hoL,_⟩:=id hn;refine h _ ⟨I.ok,I.os,I.bare,⟨λ b o e n hb hx=>?_,λ b o e n hb hx=>?_,I.base.free,λ b o e hx=>?_,I.base.tups,I.base.frzs,I.base.tbls⟩,⟨_,hn',λ j y v' e1 e2 e3=>?_⟩,λ y c e=>?_,I.free,I.freeC,λ p hp=>?_,tracked ⟨oL,hoL,I.free⟩ hs,by simpa using I.len⟩ ⟨_,hs,.inl rfl⟩
  ·exact(hs.2 b (rL (rj (rk e) I.ok.above))).trans (I.base.keep b o e n hb hx)
  ·obtain⟨sl,e1⟩:=I.base.slot b o e n hb hx;exact⟨sl,(hs.2 b (rL (rj (rk e) I.ok.above))).trans e1⟩
  ·obtain⟨o',e1⟩:=I.base.there b o e hx;exact⟨o',(hs.2 b (rL (rj (rk e) I.ok.above))).trans e1⟩
  ·by_cases hj:j=i
   ·subst hj;rw [hi] at e1;cases e1;rw [tV hiσ] at e2;cases e2;exact⟨u,r,.inl ⟨hk,Z6⟩⟩
   ·rw [ul (sJ hj)] at e2;obtain⟨u',r',q⟩:=hl j y v' e1 e2 e3;refine⟨u',r',?_⟩;rcases q with⟨k,e⟩|⟨k,c,e,z⟩
    ·refine .inl ⟨k,?_⟩;have:y≠x:=λ e=>hj (nodup_ix hN e1 (e▸hi))
     simp [this,e]
    ·exact .inr ⟨k,c,e,z.sameBut hs (cne y c e)⟩
  ·obtain⟨w',z⟩:=I.cell y c e;exact⟨w',z.sameBut hs (cne y c e)⟩
  ·obtain⟨e,n,ne,nf,d⟩:=I.pin p hp;exact⟨(hs.2 p.1 ne).trans e,n,ne,nf,d⟩
 ·have hfn:X.fn x=true:=by
   rcases hf with z|z
   ·exact z
   ·rw [z] at hk;cases hk
  obtain⟨c,hc⟩:=I.ok.has x (.inl hk);obtain⟨w',z⟩:=I.cell x c hc;refine wpAny_storeName_cell I.ok.kind hk hc z (λ h' hc' hs=>?_);obtain⟨oc,hoc,hocd⟩:=id z;refine h {s with heap:=h'} ⟨I.ok,I.os,I.bare,⟨λ b o e n hb hx=>?_,λ b o e n hb hx=>?_,I.base.free,λ b o e hx=>?_,I.base.tups,I.base.frzs,I.base.tbls⟩,⟨m,hn.sameBut hs (sJ (cne x c hc)),λ j y v' e1 e2 e3=>?_⟩,λ y c' e=>?_,I.free,I.freeC,λ p hp=>?_,tracked ⟨oc,hoc,I.freeC x c hc⟩ hs,by simpa using I.len⟩ ⟨c,hs,.inr hc⟩
  ·exact(hs.2 b (rL (rj (rk e) (I.ok.cab x c hfn hc)))).trans (I.base.keep b o e n hb hx)
  ·obtain⟨sl,e1⟩:=I.base.slot b o e n hb hx;exact⟨sl,(hs.2 b (rL (rj (rk e) (I.ok.cab x c hfn hc)))).trans e1⟩
  ·obtain⟨o',e1⟩:=I.base.there b o e hx;exact⟨o',(hs.2 b (rL (rj (rk e) (I.ok.cab x c hfn hc)))).trans e1⟩
  ·by_cases hj:j=i
   ·subst hj;rw [hi] at e1;cases e1;rw [tV hiσ] at e2;cases e2;exact⟨u,r,.inr ⟨.inl hk,c,hc,hc'⟩⟩
   ·rw [ul (sJ hj)] at e2;obtain⟨u',r',q⟩:=hl j y v' e1 e2 e3;refine⟨u',r',?_⟩;rcases q with q|⟨k,c',e,z'⟩
    ·exact .inl q
    ·refine .inr ⟨k,c',e,z'.sameBut hs ?_⟩;rintro rfl;exact hj (nodup_ix hN e1 (I.ok.inj _ _ _ e hc▸hi))
  ·by_cases hcc:c'=c
   ·subst hcc;exact⟨_,hc'⟩
   ·obtain⟨w2,z2⟩:=I.cell y c' e;exact⟨w2,z2.sameBut hs hcc⟩
  ·obtain⟨e,n,ne,nf,d⟩:=I.pin p hp;refine⟨(hs.2 p.1 ?_).trans e,n,ne,nf,d⟩;intro q;rw [q,hoc] at e;have q':oc=p.2:=rH e;exact d w' (by rw [<-q'];exact hocd)
theorem store_ok {M:Model}{i:Nat}(I:Inv X v8 σ H s)(hN:X.N.Nodup)(hi:X.N[i]?=some x)(hx:Loc X.env.scope x)(r:RelV v u)
  (h:∀s',Inv X v8 (σ.set i (some v)) H s'->Q () s') (hf:autoParam (X.fn x=true\/X.env.scope.names.lookup x=some .local) ZW):wpAny M A (storeName X.env x u) Q E s:=
 fD I hN hi hx r (λ s' I' _=>h s' I') hf
theorem Inv.call' {ch:List vR}(I:Inv X v8 σ H s)(ho:s'.os=s.os)(u:Un (frs X.stack) ch H H' s.heap s'.heap)(hok:HOk X.prog X.w H' s'.heap)(hg:AllBare s'.gens)
  (hch:∀b∈ch,(b∈X.ex\/X.s₀.heap.objs.size≤b)/\b≠X.env.locals/\(∀x c,X.env.cells.lookup x=some c->c≠b)/\∀p∈X.pn++v8,p.1≠b):Inv X v8 σ H' s':=by
 obtain⟨h',g',d',t',o'⟩:=s';have e:o'=s.os:=ho;subst e;exact I.call (g':=g') (t':=t') (d':=d') u hok hg hch
end
abbrev XK:=vS->Option vR->Hp->Prop
abbrev St:=List (Option V)
abbrev VK:=V->Hp->Prop
abbrev TE:=St->Hp->VK->Prop
abbrev TT:=St->Hp->(Bool->Hp->Prop)->Prop
abbrev TA:=St->Hp->(List V->Hp->Prop)->Prop
structure Ends where
 nx:St->Hp->Prop
 rt:VK
 bk:St->Hp->Prop:=λ _ _=>False
 ct:St->Hp->Prop:=λ _ _=>False
abbrev TS:=Ends->St->Hp->Prop
def EP (X:Cx)(v8:List (vR×v1))(σ:St)(Q:VK)(u:vS)(s':vT):Prop:=∃v H',Inv X v8 σ H' s'/\RelV v u/\Q v H'
def TP (X:Cx)(v8:List (vR×v1))(σ:St)(Q:Bool->Hp->Prop)(b:Bool)(s':vT):Prop:=∃H',Inv X v8 σ H' s'/\Q b H'
def AP (X:Cx)(v8:List (vR×v1))(σ:St)(Q:List V->Hp->Prop)(us:List vS)(s':vT):Prop:=∃vs H',Inv X v8 σ H' s'/\Vals vs us/\Q vs H'
def SP (X:Cx)(v8:List (vR×v1))(D:Ends)(f:Flow)(s':vT):Prop:=
 match f with
 | .next=>∃σ' H',Inv X v8 σ' H' s'/\D.nx σ' H'
 | .brk=>∃σ' H',Inv X v8 σ' H' s'/\D.bk σ' H'
 | .cont=>∃σ' H',Inv X v8 σ' H' s'/\D.ct σ' H'
 | .ret u=>∃v σ' H',Inv X v8 σ' H' s'/\RelV v u/\D.rt v H'
def PE (X:Cx)(e:vZ)(t:TE):Prop:=
 ∀(v8:List (vR×v1)) (s:vT) (σ:St) (H:Hp) (Q:VK),Inv X v8 σ H s->t σ H Q->wpAny (model X.prog X.w) X.A (eval e X.env) (EP X v8 σ Q) X.xe s
def PT (X:Cx)(e:vZ)(t:TT):Prop:=
 ∀(v8:List (vR×v1)) (s:vT) (σ:St) (H:Hp) (Q:Bool->Hp->Prop),Inv X v8 σ H s->t σ H Q->wpAny (model X.prog X.w) X.A (isTrue e X.env (eval e X.env)) (TP X v8 σ Q) X.xe s
def PW (X:Cx)(e:vZ)(t:TT):Prop:=
 ∀(whole:Sem vS) (v8:List (vR×v1)) (s:vT) (σ:St) (H:Hp) (Q:Bool->Hp->Prop),Inv X v8 σ H s->t σ H Q->wpAny (model X.prog X.w) X.A (isTrue e X.env whole) (TP X v8 σ Q) X.xe s
theorem PW.pt {t:TT}(h:PW X e t):PT X e t:=h _
def PA (X:Cx)(es:List vZ)(t:TA):Prop:=
 ∀(pos:Pos) (v8:List (vR×v1)) (s:vT) (σ:St) (H:Hp) (Q:List V->Hp->Prop),Inv X v8 σ H s->t σ H Q->wpAny (model X.prog X.w) X.A (spliced (backTo pos (starEach es X.env))) (AP X v8 σ Q) X.xe s
def PS (X:Cx)(st:v7)(t:TS):Prop:=
 ∀(v8:List (vR×v1)) (s:vT) (σ:St) (H:Hp) (D:Ends),Inv X v8 σ H s->t D σ H->wpAny (model X.prog X.w) X.A (exec st X.env) (SP X v8 D) X.xe s
def PSs (X:Cx)(st:List v7)(t:TS):Prop:=
 ∀(v8:List (vR×v1)) (s:vT) (σ:St) (H:Hp) (D:Ends),Inv X v8 σ H s->t D σ H->wpAny (model X.prog X.w) X.A (execs st X.env) (SP X v8 D) X.xe s
theorem thn {α:Type}{t:Sem α}{Q Q':α->vT->Prop}{M:Model}(h:wpAny M A t Q E s)(hQ:∀a s,Q a s->Q' a s):wpAny M A t Q' E s:=rV h hQ λ _ _ x=>x
section
variable {X:Cx}
def d9 (i:Nat):TE:=λ σ H Q=>∃v,σ[i]?=some (some v)/\Q v H
def tC (v:V):TE:=λ _ H Q=>Q v H
theorem lq {i:Nat}(hN:X.N[i]?=some x)(hv:Vis X.env.scope x)(hd:autoParam ((x==("__debug__":Str))=false) ZZ)(hcd:autoParam ((x==("__classdict__":Str))=false) ZZ):PE X (.Name x pos) (d9 i):=by
 intro v8 s σ H Q I h;obtain⟨v,e,h⟩:=h;obtain⟨m,hn,hl⟩:=I.loc;obtain⟨u,r,l⟩:=hl i x v hN e hv;have fin:EP X v8 σ Q u s:=⟨v,H,I,r,h⟩;rcases l with⟨hk,hm⟩|⟨hk,c,hc,hcell⟩
 ·exact wpAny_Name (wpAny_loadName_local I.ok.kind hk hn hm fin) hd
 ·rcases hk with hk|hk
  ·exact wpAny_Name (wpAny_loadName_cell I.ok.kind hk hc hcell fin) hd
  ·exact wpAny_Name (wpAny_loadName_free I.ok.kind hk hc hcell fin hcd) hd
theorem ag {i j pos}:PE X (.Constant (.int i) j pos) (tC (.int i)):=λ _ _ _ H _ I h=>wpAny_Constant_int ⟨.int i,H,I.tok _,⟨_,rfl⟩,h⟩
theorem cj {b j pos}:PE X (.Constant (.bool b) j pos) (tC (.bl b)):=λ _ _ _ H _ I h=>Constant_bool ⟨.bl b,H,I,rfl,h⟩
theorem bf {j pos}:PE X (.Constant .none j pos) (tC .non):=λ _ _ _ H _ I h=>Constant_none ⟨.non,H,I,rfl,h⟩
theorem aB {x j pos}:PE X (.Constant (.str x) j pos) (tC (.str x)):=λ _ _ _ H _ I h=>vw ⟨.str x,H,I.tok _,⟨_,rfl⟩,h⟩
def Gl (X:Cx)(x:Str):Prop:=X.env.kindOf x=some .globalImplicit
theorem ld_glob {Q:vS->vT->Prop}(I:Inv X v8 σ H s)(hg:Gl X x)(hm:X.mg x=some u)(h:Q u s)
  (hd:autoParam ((x==("__debug__":Str))=false) ZZ):wpAny (model X.prog X.w) X.A (eval (.Name x pos) X.env) Q E s:=
 Calls.Name_function_global I.ok.kind hg (Calls.loadGlobal_global (by rw [I.ok.glob];exact I.mod.glob.keeps I.bk) hm h) hd
theorem ld_blt {Q:vS->vT->Prop}(I:Inv X v8 σ H s)(hg:Gl X x)(hm:X.mg x=none)(hv:bootBuiltins x=some u)(h:Q u s)
  (hn:autoParam (x≠ "__name__") ZZ) (hd:autoParam ((x==("__debug__":Str))=false) ZZ):wpAny (model X.prog X.w) X.A (eval (.Name x pos) X.env) Q E s:=by
 obtain⟨mb,h1,h2⟩:=I.mod.blt;exact Calls.Name_function_global I.ok.kind hg (Calls.loadGlobal_builtin (by rw [I.ok.glob];exact I.mod.glob.keeps I.bk) hm (by rw [I.ok.blt];exact h1.keeps I.bk) ((h2 x hn).trans hv) h) hd
theorem aR (hg:Gl X x)(hm:X.mg x=some u)(r:RelV v u)(hd:autoParam ((x==("__debug__":Str))=false) ZZ):PE X (.Name x pos) (tC v):=
 λ _ _ _ H _ I h=>ld_glob I hg hm ⟨v,H,I,r,h⟩ hd
theorem bG (hg:Gl X x)(hm:X.mg x=none)(hv:bootBuiltins x=some u)(r:RelV v u)(hn:autoParam (x≠ "__name__") ZZ)(hd:autoParam ((x==("__debug__":Str))=false) ZZ):PE X (.Name x pos) (tC v):=
 λ _ _ _ H _ I h=>ld_blt I hg hm hv ⟨v,H,I,r,h⟩ hn hd
variable {a b:vZ}{ta tb:TE}{pos:Pos}
theorem lz (b:vZ){op:CmpOp}(h:op≠ .In)(h2:op≠ .NotIn):behindInMarks op b=false:=by
 have e1:(op==CmpOp.In)=false:=by cases op<;>first|rfl|exact absurd rfl h
 have e2:(op==CmpOp.NotIn)=false:=by cases op<;>first|rfl|exact absurd rfl h2
 cases b
 case Set l k _=>show(k==0&&(op== .In||op== .NotIn)&&l.all (constantsAlone 8))=false;rw [e1,e2,Bool.or_self,Bool.and_false,uN]
 all_goals rfl
def tB (t:TE):TT:=λ σ H Q=>t σ H λ x H1=>∃c,x=.bl c/\Q c H1
theorem ba (h:PE X e t)(he:autoParam (∀whole,isTrue e X.env whole=(do let v<-whole;standAt e.pos;holding [v] (truthy v))) ZX):PT X e (tB t):=by
  intro v8 s σ H Q I hw
  refine isTrue_plain (thn (h v8 s σ H _ I hw) λ v s1 z9=>?_) (he _)
  obtain⟨x,H1,I1,r1,q1⟩:=z9
  obtain⟨d,rfl,q⟩:=q1
  cases r1
  exact ug ⟨H1,I1,q⟩
variable {tA tB':TT}{rest:List vZ}
def qF (t u:TT):TT:=λ σ H Q=>t σ H λ c H1=>if c=true then u σ H1 Q else Q false H1
def tOr (t u:TT):TT:=λ σ H Q=>t σ H λ c H1=>if c=true then Q true H1 else u σ H1 Q
def qb (t:TT):TT:=λ σ H Q=>t σ H λ c H1=>Q (!c) H1
theorem f8 (ha:PT X a tA):PW X (.BoolOp .And [a] pos) tA:=by
 intro wh v8 s σ H Q I h;refine isTrue_and (thn (ha v8 s σ H Q I h) λ c s1 e=>?_);cases c with
 |true=>exact isTrue_and_nil e
 |false=>exact e
theorem eB (ha:PT X a tA):PW X (.BoolOp .Or [a] pos) tA:=by
 intro wh v8 s σ H Q I h;refine isTrue_or (thn (ha v8 s σ H Q I h) λ c s1 e=>?_);cases c with
 |false=>exact isTrue_or_nil e
 |true=>exact e
theorem iM (ha:PT X a tA)(hb:PW X (.BoolOp .And (b::rest) pos) tB'):PW X (.BoolOp .And (a::b::rest) pos) (qF tA tB'):=by
 intro wh v8 s σ H Q I h;refine isTrue_and (thn (ha v8 s σ H _ I h) λ c s1 z9=>?_);obtain⟨H1,I1,q1⟩:=z9;cases c with
 |true=>exact hb wh v8 s1 σ H1 Q I1 q1
 |false=>exact⟨H1,I1,q1⟩
theorem fc (ha:PT X a tA)(hb:PW X (.BoolOp .Or (b::rest) pos) tB'):PW X (.BoolOp .Or (a::b::rest) pos) (tOr tA tB'):=by
 intro wh v8 s σ H Q I h;refine isTrue_or (thn (ha v8 s σ H _ I h) λ c s1 z9=>?_);obtain⟨H1,I1,q1⟩:=z9;cases c with
 |true=>exact⟨H1,I1,q1⟩
 |false=>exact hb wh v8 s1 σ H1 Q I1 q1
theorem bD (ha:PT X a tA):PT X (.UnaryOp .Not a pos) (qb tA):=by
 intro v8 s σ H Q I h;exact isTrue_not (ha v8 s σ H (λ c H1=>Q (!c) H1) I h)
def qB (ta tb:TE):TE:=λ σ H Q=>ta σ H λ x H1=>∃c,x=.bl c/\if c=true then tb σ H1 Q else Q (.bl false) H1
def pM (ta:TE):TE:=λ σ H Q=>ta σ H λ x H1=>∃c,x=.bl c/\Q (.bl (!c)) H1
theorem cU {op}(h:PE X a t):PE X (.BoolOp op [a] pos) t:=λ v8 s σ H Q I hw=>BoolOp_one (h v8 s σ H Q I hw)
theorem cn (ha:PE X a ta)(hb:PE X (.BoolOp .And (b::rest) pos) tb):PE X (.BoolOp .And (a::b::rest) pos) (qB ta tb):=by
 intro v8 s σ H Q I h;refine BoolOp_and (thn (ha v8 s σ H _ I h) λ v s1 z9=>?_);obtain⟨x,H1,I1,r1,q1⟩:=z9;obtain⟨c,rfl,q1⟩:=q1;cases r1;refine ug ?_;cases c with
 |true=>exact hb v8 s1 σ H1 Q I1 q1
 |false=>exact⟨.bl false,H1,I1,rfl,q1⟩
theorem kB (ha:PE X a ta):PE X (.UnaryOp .Not a pos) (pM ta):=by
 intro v8 s σ H Q I h;refine UnaryOp_ (thn (ha v8 s σ H _ I h) λ v s1 z9=>?_);obtain⟨x,H1,I1,r1,q1⟩:=z9;obtain⟨c,rfl,q1⟩:=q1;cases r1;exact not_of (ug ⟨.bl (!c),H1,I1,rfl,q1⟩)
def tIf (t:TT)(ta tb:TE):TE:=λ σ H Q=>t σ H λ c H1=>if c=true then ta σ H1 Q else tb σ H1 Q
theorem dn (hc:PT X c tA)(ha:PE X a ta)(hb:PE X b tb):PE X (.IfExp c a b pos) (tIf tA ta tb):=by
 intro v8 s σ H Q I h;refine wpAny_IfExp (thn (hc v8 s σ H _ I h) λ d s1 z9=>?_);obtain⟨H1,I1,q1⟩:=z9;cases d with
 |true=>exact ha v8 s1 σ H1 Q I1 q1
 |false=>exact hb v8 s1 σ H1 Q I1 q1
end
def SqL (K:Frag)(H:Hp)(a:vR)(xs:List V):Prop:=
 Rd H a (.lst xs)\/
  ∃(o:v1) (its:Array vS) (n:Nat),K.lookup a=some o/\o.cls=.type "list"/\o.dict=none/\o.data=.seq its n/\its.size≤sizeLine/\Vals xs its.toList
def SqT (K:Frag)(H:Hp)(a:vR)(xs:List V):Prop:=
 Rd H a (.tup xs)\/
  ∃(o:v1) (its:Array vS) (n:Nat),K.lookup a=some o/\o.cls=.type "tuple"/\o.data=.seq its n/\its.size≤sizeLine/\Vals xs its.toList
noncomputable def rc:vS->Option V
 | .none=>some .non
 | .bool b=>some (.bl b)
 | .int i _=>some (.int i)
 | .str x _=>some (.str x)
 | .bytes b _=>some (.byt b)
 | .float b _=>some (.flt b)
 | .ref a=>some (.ref a)
 | .type n=>some (.ty n)
 |_=>none
theorem RelV.abs {x:V}(r:RelV x u):rc u=some x:=by
 cases x with
 |non=>cases r;rfl
 |bl _=>cases r;rfl
 |int _=>obtain⟨t,rfl⟩:=r;rfl
 |str _=>obtain⟨t,rfl⟩:=r;rfl
 |byt _=>obtain⟨t,rfl⟩:=r;rfl
 |flt _=>obtain⟨t,rfl⟩:=r;rfl
 |ref _=>cases r;rfl
 |ty _=>cases r;rfl
theorem RelV.inj {x:V}(r:RelV x u)(q:RelV y u):x=y:=rH (r.abs.symm.trans q.abs)
theorem Vals.inj (h:Vals xs us)(g:Vals ys us):xs=ys:=by
 induction h generalizing ys with
 |nil=>cases g;rfl
 |cons r _ ih=>cases g with
  |cons r' t'=>rw [r.inj r',ih t']
section
variable {X:Cx}{v8:List (vR × v1)}{σ:St}{H:Hp}{s:vT}{a:vR}{xs ys:List V}
theorem SqL.of (h:H a=some (.lst xs)):SqL K H a xs:=.inl (.inl h)
theorem SqT.of (h:H a=some (.tup xs)):SqT K H a xs:=.inl (.inl h)
theorem Inv.list (I:Inv X v8 σ H s)(h:SqL X.K H a xs):∃its:List vS,Vals xs its/\PlainL s.heap a its.toArray/\xs.length≤sizeLine:=by
 rcases h with h|⟨o,its,n,hk,hc,hd,hs,hz,r⟩
 ·obtain⟨z,its,n,r,e⟩:=h.ok I.hok;exact⟨its,r,⟨_,n,e,rfl,rfl,rfl⟩,z⟩
 ·refine⟨its.toList,r,⟨o,n,I.kIn a o hk,hc,hd,by simpa using hs⟩,?_⟩;have e:=r.length;simp only [Array.length_toList] at e;exact tj e hz
theorem Inv.tuple (I:Inv X v8 σ H s)(h:SqT X.K H a xs):∃its:List vS,Vals xs its/\IsTup s.heap a its.toArray/\xs.length≤sizeLine:=by
 rcases h with h|⟨o,its,n,hk,hc,hs,hz,r⟩
 ·obtain⟨z,its,r,p⟩:=h.ok I.hok;exact⟨its,r,p,z⟩
 ·refine⟨its.toList,r,⟨o,I.kIn a o hk,hc,n,by simpa using hs⟩,?_⟩;have e:=r.length;simp only [Array.length_toList] at e;exact tj e hz
theorem Inv.list_inj (I:Inv X v8 σ H s)(h:SqL X.K H a xs)(h':SqL X.K H a ys):xs=ys:=by
 obtain⟨its,r,⟨o,n,e,_,_,d⟩,_⟩:=I.list h;obtain⟨its',r',⟨o',n',e',_,_,d'⟩,_⟩:=I.list h';rw [e] at e';cases e';rw [d] at d';injection d' with d1 _
 have:its=its':=by simpa using sv Array.toList d1
 subst this;exact r.inj r'
end
noncomputable abbrev Cx.wish (X:Cx) (E:vS->vT->Prop):Cx:={X with xe:=E}
noncomputable abbrev Cx.nox (X:Cx):Cx:=X.wish λ _ _=>False
theorem Cx.Ok.wish (ok:X.Ok)(E:vS->vT->Prop):(X.wish E).Ok:=
 ⟨ok.mod,ok.kind,ok.glob,ok.blt,ok.above,ok.inj,ok.has,ok.cab,ok.hd,ok.frames,ok.stk,ok.exf,ok.bs,ok.bsz,ok.noex,ok.exfs,ok.funs,ok.frf⟩
theorem Cx.Ok.unwish (ok:(X.wish E).Ok):X.Ok:=
 ⟨ok.mod,ok.kind,ok.glob,ok.blt,ok.above,ok.inj,ok.has,ok.cab,ok.hd,ok.frames,ok.stk,ok.exf,ok.bs,ok.bsz,ok.noex,ok.exfs,ok.funs,ok.frf⟩
section
variable {X:Cx}{v8:List (vR × v1)}{σ:St}{H:Hp}{s:vT}{E:vS -> vT -> Prop}
theorem Inv.wish (I:Inv X v8 σ H s)(E:vS->vT->Prop):Inv (X.wish E) v8 σ H s:=⟨I.ok.wish E,I.os,I.bare,I.base,I.loc,I.cell,I.free,I.freeC,I.pin,I.hok,I.len⟩
theorem Inv.unwish (I:Inv (X.wish E) v8 σ H s):Inv X v8 σ H s:=⟨I.ok.unwish,I.os,I.bare,I.base,I.loc,I.cell,I.free,I.freeC,I.pin,I.hok,I.len⟩
theorem SP.unwish {D:Ends}{f:Flow}(h:SP (X.wish E) v8 D f s'):SP X v8 D f s':=by
 cases f with
 |next=>obtain⟨σ',H',I,q⟩:=h;exact⟨σ',H',I.unwish,q⟩
 |brk=>obtain⟨σ',H',I,q⟩:=h;exact⟨σ',H',I.unwish,q⟩
 |cont=>obtain⟨σ',H',I,q⟩:=h;exact⟨σ',H',I.unwish,q⟩
 |ret u=>obtain⟨v,σ',H',I,r,q⟩:=h;exact⟨v,σ',H',I.unwish,r,q⟩
theorem PSs.nox {st:List v7}{t:TS}(h:PSs X.nox st t):PSs X st t:=λ v8 s σ H D I hw=>
 rV (h v8 s σ H D (I.wish _) hw) (λ _ _ q=>q.unwish) λ _ _ z=>False.elim z
end
section
variable {X:Cx}{st:v7}{rest:List v7}{t u:TS}{e:vZ}{te:TE}{pos:Pos}
def on:TS:=λ D σ H=>D.nx σ H
def pF (t u:TS):TS:=λ D σ H=>t {D with nx:=u D} σ H
theorem ay:PSs X [] on:=λ _ _ σ H _ I h=>ue ⟨σ,H,I,h⟩
theorem ah (h1:PS X st t)(h2:PSs X rest u):PSs X (st::rest) (pF t u):=by
 intro v8 s σ H D I h;refine wpAny_execs_cons (thn (h1 v8 s σ H {D with nx:=u D} I h) λ f s1 q=>?_);cases f with
 |next=>
  obtain⟨σ',H',I',q⟩:=q;exact h2 v8 s1 σ' H' D I' q
 |ret v=>exact q
 |brk=>exact q
 |cont=>exact q
theorem ai (h1:PS X st t):PSs X [st] t:=by
 intro v8 s σ H D I h;refine wpAny_execs_cons (thn (h1 v8 s σ H D I h) λ f s1 q=>?_);cases f with
 |next=>exact ue q
 |ret v=>exact q
 |brk=>exact q
 |cont=>exact q
theorem Inv.quiet (I:Inv X v8 σ H s):interactive X.env=false:=by simp [interactive,I.ok.kind]
def pU (te:TE):TS:=λ D σ H=>te σ H λ _ H1=>D.nx σ H1
theorem cF (he:PE X e te)(hs:autoParam (swapsWith e none pos.line X.env=pure false) Z0):PS X (.Expr e pos) (pU te):=by
 intro v8 s σ H D I h;exact wpAny_Expr_any (thn (he v8 s σ H _ I h) λ v s1 z9=>by obtain⟨x,H1,I1,r1,q1⟩:=z9;exact⟨σ,H1,I1,q1⟩) I.quiet hs
def pJ (te:TE):TS:=λ D σ H=>te σ H D.rt
theorem au (he:PE X e te):PS X (.Return (some e) pos) (pJ te):=by
 intro v8 s σ H D I h;exact wpAny_Return_some (thn (he v8 s σ H _ I h) λ v s1 z9=>by obtain⟨x,H1,I1,r1,q1⟩:=z9;exact⟨x,σ,H1,I1,r1,q1⟩)
def qk (c:TT)(t u:TS):TS:=λ D σ H=>c σ H λ b H1=>if b=true then t D σ H1 else u D σ H1
theorem aI {a b:List v7}(hc:PT X c tc)(ha:PSs X a t)(hb:PSs X b u):PS X (.If c a b pos) (qk tc t u):=by
 intro v8 s σ H D I h;refine wpAny_If (thn (hc v8 s σ H _ I h) λ d s1 z9=>?_);obtain⟨H1,I1,q1⟩:=z9;cases d with
 |true=>exact ha v8 s1 σ H1 D I1 q1
 |false=>exact hb v8 s1 σ H1 D I1 q1
def lh:TS:=λ _ _ _=>False
theorem bR:PS X st lh:=λ _ _ _ _ _ _ h=>h.elim
theorem fk {sts:List v7}:PSs X sts lh:=λ _ _ _ _ _ _ h=>h.elim
end
abbrev TG:=V->St->Hp->(St->Hp->Prop)->Prop
abbrev TGs:=List V->St->Hp->(St->Hp->Prop)->Prop
def PG (X:Cx)(wb:vZ)(t:TG):Prop:=
 ∀(v8:List (vR×v1)) (s:vT) (σ:St) (H:Hp) (v:V) (u:vS) (Q:St->Hp->Prop),Inv X v8 σ H s->RelV v u->t v σ H Q->
  wpAny (model X.prog X.w) X.A (assign wb X.env u) (λ _ s'=>∃σ' H',Inv X v8 σ' H' s'/\Q σ' H') X.xe s
def PGs (X:Cx)(ts:List vZ)(t:TGs):Prop:=
 ∀(v8:List (vR×v1)) (s:vT) (σ:St) (H:Hp) (vs:List V) (us:List vS) (Q:St->Hp->Prop),Inv X v8 σ H s->Vals vs us->t vs σ H Q->
  wpAny (model X.prog X.w) X.A (assignInOrder ((assignEach ts X.env).map (·.2)) us) (λ _ s'=>∃σ' H',Inv X v8 σ' H' s'/\Q σ' H') X.xe s
abbrev pi:=V->V->V->Hp->(Hp->Prop)->Prop
def qq (X:Cx)(t:pi):Prop:=
 ∀(v8:List (vR×v1)) (s:vT) (σ:St) (H:Hp) (o i v:V) (ov iv u:vS) (Q:Hp->Prop),Inv X v8 σ H s->RelV o ov->RelV i iv->RelV v u->t o i v H Q->
  wpAny (model X.prog X.w) X.A (setItem ov iv u) (λ _ s'=>∃H',Inv X v8 σ H' s'/\Q H') X.xe s
section
variable {X:Cx}{pos:Pos}
def bE (i:Nat):TG:=λ v σ H Q=>Q (σ.set i (some v)) H
theorem a8 {i:Nat}(hN:X.N.Nodup)(hi:autoParam (X.N[i]?=some x) Z0)(hx:autoParam (Loc X.env.scope x) ZW)(hf:autoParam (X.fn x=true\/X.env.scope.names.lookup x=some .local) ZW):PG X (.Name x pos) (bE i):=by
 intro v8 s σ H v u Q I r h;exact wpAny_assign_Name (store_ok I hN hi hx r (λ s' I'=>⟨_,H,I',h⟩) hf)
def mY:TGs:=λ vs σ H Q=>vs=[]/\Q σ H
def dX (t:TG)(u:TGs):TGs:=λ vs σ H Q=>∃v r,vs=v::r/\t v σ H λ σ' H'=>u r σ' H' Q
theorem ju:PGs X [] mY:=by
 intro v8 s σ H vs us Q I r h;obtain⟨e,h⟩:=h;subst e;cases r;exact assignInOrder_nil ⟨σ,H,I,h⟩
theorem dl {t:TG}{u:TGs}(h1:PG X e t)(h2:PGs X es u)
  (hs:autoParam ((assignEach (e::es) X.env).map (·.2)=assign e X.env::(assignEach es X.env).map (·.2)) Z0):PGs X (e::es) (dX t u):=by
 intro v8 s σ H vs us Q I r h;obtain⟨v,vr,e1,h⟩:=h;subst e1;cases r with
 |cons r rr=>
  rw [hs];refine assignInOrder_cons (thn (h1 v8 s σ H _ _ _ I r h) λ _ s1 z9=>?_);obtain⟨σ1,H1,I1,q1⟩:=z9;exact h2 v8 s1 σ1 H1 _ _ Q I1 rr q1
def nM (K:Frag)(n:Nat)(t:TGs):TG:=λ v σ H Q=>∃a xs,v=.ref a/\SqT K H a xs/\xs.length=n/\t xs σ H Q
theorem lR {t:TGs}{n:Nat}(hc:X.calm=true)(h:PGs X es t)
  (hn:autoParam ((assignEach es X.env).length=n) Z0) (hst:autoParam ((assignEach es X.env).findIdx? (·.1)=none) Z0):PG X (.Tuple es k pos) (nM X.K n t):=by
 intro v8 s σ H v u Q I r hw;obtain⟨a,xs,e1,hq,hl,hw⟩:=hw;subst e1;cases r;obtain⟨its,rv,ht,hz⟩:=I.tuple hq;refine QQ.assign_Tuple_q I.hq ht (by simp [hn,<-hl,rv.length]) hst λ h' hx=>?_
 have I1:Inv X v8 σ H {s with heap:=h'}:=I.kept (t':=s.toks) λ b o e=>hx b o (rL (rk e)) e
 exact h v8 _ σ H xs _ Q I1 (by simpa using rv) hw
def qO (to ti:TE)(t:pi):TG:=λ v σ H Q=>to σ H λ o H1=>ti σ H1 λ i H2=>t o i v H2 λ H3=>Q σ H3
theorem ou {o i:vZ}{to ti:TE}{t:pi}(ho:PE X o to)(hi:PE X i ti)(hs:qq X t)
    (ha:autoParam (∀v,assign (.Subscript o i pos) X.env v=(do
      let ov<-holding [v] (eval o X.env)
      let iv<-holding [v,ov] (eval i X.env)
      standAt pos
      holding [v,ov,iv] (setItem ov iv v)
      release [v,ov,iv] [])) ZX):PG X (.Subscript o i pos) (qO to ti t):=by
  intro v8 s σ H v u Q I r h
  rw [ha]
  refine re (so (thn (ho v8 s σ H _ I h) λ ov s1 z9=>?_))
  obtain⟨x,H1,I1,r1,q1⟩:=z9
  refine re (so (thn (hi v8 s1 σ H1 _ I1 q1) λ iv s2 z9=>?_))
  obtain⟨y,H2,I2,r2,q2⟩:=z9
  refine re (tN (re (so (thn (hs v8 s2 σ H2 x y v ov iv u _ I2 r1 r2 r q2) λ _ s3 z9=>?_))))
  obtain⟨H3,I3,q3⟩:=z9
  exact wpAny_release ⟨σ,H3,I3,q3⟩
def nP (te:TE)(g:TG):TS:=λ D σ H=>te σ H λ x H1=>g x σ H1 D.nx
theorem lF (he:PE X e te)(hg:PG X tg g)(hs:autoParam (swapsWithSole [tg] e pos.line X.env=pure false) Z0)(hw:autoParam (swappedStores [tg] e X.env=pure none) Z0)
  (h1:autoParam ((assignEach [tg] X.env).map (·.2)=[assign tg X.env]) Z0):PS X (.Assign [tg] e pos) (nP te g):=by
 intro v8 s σ H D I h;refine wpAny_Assign_stores (thn (he v8 s σ H _ I h) λ v s1 z9=>?_) hs hw;obtain⟨x,H1,I1,r1,q1⟩:=z9;rw [h1];exact thn (hg v8 s1 σ H1 x v _ I1 r1 q1) λ _ s2 q=>q
theorem av {i:Nat}{pos':Pos}(hN:X.N.Nodup)(he:PE X e te)(hi:autoParam (X.N[i]?=some x) Z0)(hx:autoParam (Loc X.env.scope x) ZW)(hs:autoParam (swapsWith e (some (.Name x pos')) pos.line X.env=pure false) Z0)(hf:autoParam (X.fn x=true\/X.env.scope.names.lookup x=some .local) ZW):
  PS X (.Assign [.Name x pos'] e pos) (nP te (bE i)):=by
 intro v8 s σ H D I h;refine wpAny_Assign_Name (thn (he v8 s σ H _ I h) λ v s1 z9=>?_) hs;obtain⟨y,H1,I1,r1,q1⟩:=z9;exact store_ok I1 hN hi hx r1 (λ s2 I2=>⟨_,H1,I2,q1⟩) hf
def oN (c:TT)(tb:TS):TS:=λ D σ H=>∃W:Nat->St->Hp->Prop,(∃m,W m σ H)/\∀m σ H,W m σ H->
 c σ H λ b H1=>if b=true then∃N:St->Hp->Prop,(∀σ' H',N σ' H'->∃m',m'<m/\W m' σ' H')/\tb {D with nx:=N,ct:=N,bk:=D.nx} σ H1 else D.nx σ H1
theorem kN (hp:PassesOwn (model X.prog X.w) X.A X.env X.xe)(hc:PT X c tc)(hb:PSs X body tb):PS X (.While c body [] pos) (oN tc tb):=by
 intro v8 s σ H D I h;obtain⟨W,⟨m0,w0⟩,turn⟩:=h;refine wpAny_While (codeAny_whileLoop (λ n s'=>∃σ' H',Inv X v8 σ' H' s'/\W n σ' H') ?_ m0 ⟨σ,H,I,w0⟩);rintro n s1 ⟨σ1,H1,I1,w1⟩;refine tF hp (thn (hc v8 s1 σ1 H1 _ I1 (turn n σ1 H1 w1)) λ b s2 z9=>?_);obtain⟨H2,I2,q2⟩:=z9;cases b with
 |true=>
  obtain⟨N,hN,q2⟩:=q2;rw [se rfl];refine tF hp (thn (hb v8 s2 σ1 H2 _ I2 q2) λ f s3 q3=>?_);cases f with
  |next=>
   obtain⟨σ3,H3,I3,n3⟩:=q3;obtain⟨m',hm,w3⟩:=hN σ3 H3 n3;exact⟨m',hm,σ3,H3,I3,w3⟩
  |cont=>
   obtain⟨σ3,H3,I3,n3⟩:=q3;obtain⟨m',hm,w3⟩:=hN σ3 H3 n3;exact⟨m',hm,σ3,H3,I3,w3⟩
  |brk=>exact q3
  |ret v=>exact q3
 |false=>
  rw [rO rs];exact ue ⟨σ1,H2,I2,q2⟩
end
structure It where
 go:Nat->Hp->Prop
 yld:Nat->Hp->V->Hp->Prop
 stop:Nat->Hp->Prop
def FpOk (X:Cx)(v8:List (vR×v1))(H:Hp)(b:vR):Prop:=
 H b=none/\b≠X.env.locals/\b∉X.fs/\(b∈X.ex\/X.s₀.heap.objs.size≤b)/\(∀x c,X.env.cells.lookup x=some c->c≠b)/\∀p∈X.pn++v8,p.1≠b
theorem Inv.fpOk {H':Hp}(I:Inv X v8 σ H s)(hb:s.heap.objs.size≤b)(hn:H' b=none):FpOk X v8 H' b:=by
 refine⟨hn,uc (rj I.lt hb),I.nofs hb,.inr (rP I.sz hb),λ x c e z=>?_,λ p hp z=>?_⟩
 ·obtain⟨v,q⟩:=I.cell x c e;exact absurd (rj q.lt (by rw [z];exact hb)) (su _)
 ·exact absurd (rj (rk (I.pin p hp).1) (by rw [z];exact hb)) (su _)
structure Turn (P:vU)(w:vV)(K:Frag)(tg:vZ)(J:It)(fp:List vR)(it:vR)(tn:Nat->vY->Prop):Prop where
 mem:it∈fp
 obj:∀i h,tn i h->∀b∈fp,∃o,h.get? b=some o/\∀v,o.data≠ .cell v
 keep:∀i h h',tn i h->(∀b∈fp,∀o,h.get? b=some o->h'.get? b=some o)->tn i h'
 item:∀(X:Cx),X.prog=P->X.w=w->X.K=K->X.calm=true->∀(i:Nat) (v8:List (vR×v1)) (s:vT) (σ:St) (H:Hp) (E:vS->vT->Prop),Inv X v8 σ H s->(∀b∈fp,FpOk X v8 H b)->tn i s.heap->J.go i H->
  wpAny (model P w) X.A (pyNext (.ref it)) (λ r s1=>∃u,r=some u/\
   wpAny (model P w) X.A (letOwnedTupleGo tg (.ref it) u) (λ _ s2=>∃x H',Inv X v8 σ H' s2/\RelV x u/\J.yld i H x H'/\tn (i+1) s2.heap/\∀b∈fp,H' b=none) E s1) E s
 done:∀(X:Cx),X.prog=P->X.w=w->X.K=K->X.calm=true->∀(i:Nat) (v8:List (vR×v1)) (s:vT) (σ:St) (H:Hp) (E:vS->vT->Prop),Inv X v8 σ H s->(∀b∈fp,FpOk X v8 H b)->tn i s.heap->J.stop i H->
  wpAny (model P w) X.A (pyNext (.ref it)) (λ r s1=>r=none/\Inv X v8 σ H s1) E s
 self:∀(A:vX) (i:Nat) (s:vT) (Q:vS->vT->Prop) (E:vS->vT->Prop),tn i s.heap->Q (.ref it) s->wpAny (model P w) A (pyIter (.ref it)) Q E s
abbrev TI:=St->Hp->(It->Hp->Prop)->Prop
def PIE (X:Cx)(v8:List (vR×v1))(σ:St)(tg:vZ)(R:It->Hp->Prop)(itv:vS)(s2:vT):Prop:=
 ∃(it:vR) (fp:List vR) (tn:Nat->vY->Prop) (J:It) (H':Hp),itv=.ref it/\Inv X v8 σ H' s2/\Turn X.prog X.w X.K tg J fp it tn/\tn 0 s2.heap/\(∀b∈fp,FpOk X v8 H' b)/\R J H'
def PI (X:Cx)(tg iter:vZ)(wi:TI):Prop:=
 ∀(v8:List (vR×v1)) (s:vT) (σ:St) (H:Hp) (R:It->Hp->Prop),Inv X v8 σ H s->wi σ H R->
  wpAny (model X.prog X.w) X.A (eval iter X.env) (λ v s1=>wpAny (model X.prog X.w) X.A (pyIter v) (PIE X v8 σ tg R) X.xe s1) X.xe s
theorem oj {M:Model}{o:v1}{n:String}{vs:Array vS}(ho:s.heap.get? it=some o)(hc:o.cls=.type n)(hd:o.data=.fields vs)
  (hn: ["enumerate","zip","dict_itemiterator","dict_reverseitemiterator","odict_iterator","itertools.zip_longest","itertools.pairwise"].contains n=false) (hQ:Q () s):wpAny M A (letOwnedTupleGo tg (.ref it) u) Q E s:=by
 unfold letOwnedTupleGo;cases tg<;>first
  |exact rA hQ
  |(cases u<;>first
    |exact rA hQ
    |(refine re (wpAny_load ho ?_)
      rw [hc,hd];show wpAny M A (if(["enumerate","zip","dict_itemiterator","dict_reverseitemiterator","odict_iterator","itertools.zip_longest","itertools.pairwise"].contains n&&vs[0]?==some (rawInt _))=true then _ else _) Q E s;rw [rO (by intro h;rw [hn,uN] at h;cases h)];exact rA hQ))
def Itl (K:Frag)(a:vR):It:=
 ⟨λ i H=>∃xs x,SqL K H a xs/\xs[i]?=some x,λ i H x H'=>H'=H/\∀xs,SqL K H a xs->xs[i]?=some x,λ i H=>∃xs,SqL K H a xs/\xs.length≤i⟩
def Itr (lo:Int)(n:Nat):It:=⟨λ i _=>i<n,λ i H x H'=>H'=H/\x=.int (lo+i),λ i _=>n≤i⟩
theorem jG (a it:vR):Turn P w K tg (Itl K a) [it] it (λ i h=>h.IsListIter it a i) where
 mem:=Z6
 obj:=λ i h st b hb=>by
  have e:b=it:=by simpa using hb
  subst e;obtain⟨o,e,c,d⟩:=st;exact⟨o,e,λ v z=>by rw [d] at z;cases z⟩
 keep:=λ i h h' st k=>st.at λ o e=>k it Z6 o e
 item:=by
  intro X hP hw hK hc i v8 s σ H E I hf st hg;subst hP hw hK;obtain⟨xs,x,hq,hx⟩:=hg;obtain⟨its,rv,p,hz⟩:=I.list hq;obtain⟨u,hu,ru⟩:=rv.get hx;obtain⟨f0,f1,f2,f3,f4,f5⟩:=hf it Z6;refine wpAny_pyNext_list_item st p.isList (x:=u) (by simpa using hu) λ h' st' sb=>?_
  have I1:Inv X v8 σ H {s with heap:=h'}:=I.turned (t':=s.toks) (λ b o hb e=>(sb.2 b hb).trans e) f0 f1 f3 f4 f5;obtain⟨o,e,c,d⟩:=id st';exact⟨u,rfl,oj (s:={s with heap:=h'}) e c d Z9 ⟨x,H,I1,ru,⟨rfl,λ ys hy=>by rw [I.list_inj hy hq];exact hx⟩,st',λ b hb=>(hf b hb).1⟩⟩
 done:=by
  intro X hP hw hK hc i v8 s σ H E I hf st hg;subst hP hw hK;obtain⟨xs,hq,hx⟩:=hg;obtain⟨its,rv,p,hz⟩:=I.list hq;obtain⟨f0,f1,f2,f3,f4,f5⟩:=hf it Z6;have hl:=rv.length;exact QQ.list_end_q I.hq st p.isList (by simp;exact tj hl.symm hx) λ h' eb=>⟨rfl,I.turned (t':=s.toks) (λ b o hb e=>eb b o hb e) f0 f1 f3 f4 f5⟩
 self:=λ _ _ _ _ _ st h=>wpAny_pyIter_listiter st h
theorem iG (it:vR)(lo:Int)(n:Nat):Turn P w K tg (Itr lo n) [it] it (λ i h=>IsRangeIter h it (lo+(i:Nat)*1) ((n:Int)-(i:Nat)) 1) where
 mem:=Z6
 obj:=λ i h st b hb=>by
  have e:b=it:=by simpa using hb
  subst e;exact⟨_,st,λ v z=>by
   have z':Data.fields _=Data.cell v:=z;cases z'⟩
 keep:=λ i h h' st k=>k it Z6 _ st
 item:=by
  intro X hP hw hK hc i v8 s σ H E I hf st hg;subst hP hw hK;obtain⟨f0,f1,f2,f3,f4,f5⟩:=hf it Z6;refine wpAny_pyNext_range_item st (by have:i<n:=hg;lia) λ h' st1 sb=>?_
  have st':IsRangeIter h' it (lo+((i+1:Nat):Int)*1) ((n:Int)-((i+1:Nat):Int)) 1:=by
   have e1:lo+((i+1:Nat):Int)*1=lo+(i:Int)*1+1:=Z5;have e2:(n:Int)-((i+1:Nat):Int)=(n:Int)-(i:Int)-1:=Z5;rw [e1,e2];exact st1
  have I1:Inv X v8 σ H {s with heap:=h',toks:=s.toks+1}:=I.turned (λ b o hb e=>sb.extBut b o hb e) f0 f1 f3 f4 f5;refine⟨_,rfl,oj (s:={s with heap:=h',toks:=s.toks+1}) (n:="range_iterator") st' rfl rfl Z9 ⟨.int (lo+i),H,I1,⟨s.toks,?_⟩,⟨rfl,rfl⟩,st',λ b hb=>(hf b hb).1⟩⟩;rw [Int.mul_one]
 done:=by
  intro X hP hw hK hc i v8 s σ H E I hf st hg;subst hP hw hK;obtain⟨f0,f1,f2,f3,f4,f5⟩:=hf it Z6;exact QQ.range_end_q I.hq st (by have:n≤i:=hg;lia) λ h' eb=>⟨rfl,I.turned (t':=s.toks) (λ b o hb e=>eb b o hb e) f0 f1 f3 f4 f5⟩
 self:=λ _ _ _ _ _ st h=>wpAny_pyIter_rangeiter st h
section
variable {X:Cx}{tg:vZ}
def pH (K:Frag)(tl:TE):TI:=λ σ H R=>tl σ H λ x H1=>∃a,x=.ref a/\(∃xs,SqL K H1 a xs)/\R (Itl K a) H1
theorem bS {l:vZ}{tl:TE}(hl:PE X l tl):PI X tg l (pH X.K tl):=by
 intro v8 s σ H R I h;refine thn (hl v8 s σ H _ I h) λ v s1 z9=>?_
 obtain⟨x,H1,I1,r1,q1⟩:=z9;obtain⟨a,e,⟨xs,hq⟩,q⟩:=q1;subst e;cases r1;obtain⟨its,rv,p,hz⟩:=I1.list hq;refine wpAny_pyIter_list p.isList ?_;refine⟨s1.heap.objs.size,[s1.heap.objs.size],_,_,H1,rfl,I1.kept (t':=s1.toks) λ b o e=>rf _ e,jG a _,⟨_,rF _ rfl,rfl,rfl⟩,λ b hb=>?_,q⟩;have e:b=s1.heap.objs.size:=by simpa using hb
 subst e;exact I1.fpOk (rB _) (I1.hok.fresh (rB _))
theorem kA {R:It->Hp->Prop}{hi:Int}{t u v:Tok}{tk:Nat}(I:Inv X v8 σ H s)(h1:-(2^62)≤lo)(h2:lo<2^62)(h3:-(2^62)≤hi)(h4:hi<2^62)
  (q:R (Itr lo (hi-lo).toNat) H):wpAny (model X.prog X.w) X.A (pyIter (.ref s.heap.objs.size)) (PIE X v8 σ tg R) E {s with heap:=s.heap.push {cls:=.type "range",data:=.fields #[.int lo t,.int hi u,.int 1 v]},toks:=tk}:=by
 refine wpAny_pyIter_range (IsRange.new ..) (small_one h1 h2 h3 h4) ?_;have I1:Inv X v8 σ H {s with heap:=s.heap.push {cls:=.type "range",data:=.fields #[.int lo t,.int hi u,.int 1 v]},toks:=tk}:=I.kept λ b o e=>rf _ e
 refine⟨(s.heap.push {cls:=.type "range",data:=.fields #[.int lo t,.int hi u,.int 1 v]}).objs.size,[(s.heap.push {cls:=.type "range",data:=.fields #[.int lo t,.int hi u,.int 1 v]}).objs.size],_,_,H,rfl,
  I1.kept (t':=tk) λ b o e=>rf _ e,iG _ lo (hi-lo).toNat,?_,λ b hb=>?_,q⟩
 ·have e1:lo+((0:Nat):Int)*1=lo:=Z6;have e2:(((hi-lo).toNat:Nat):Int)-((0:Nat):Int)=Builtin.Range.rangeSize lo hi 1:=by rw [rangeSize_one];split<;>lia
  show IsRangeIter _ _ (lo+((0:Nat):Int)*1) ((((hi-lo).toNat:Nat):Int)-((0:Nat):Int)) 1;rw [e1,e2];exact rF _ rfl
 ·have e:b=(s.heap.push {cls:=.type "range",data:=.fields #[.int lo t,.int hi u,.int 1 v]}).objs.size:=by simpa using hb
  subst e;exact I1.fpOk (rB _) (I1.hok.fresh (rB _))
def p8 (ta:TA):TI:=λ σ H R=>ta σ H λ vs H1=>∃j:Int,vs=[.int j]/\-(2^62)≤j/\j<2^62/\R (Itr 0 j.toNat) H1
theorem cL {a:vZ}{ta:TA}{p:Pos}(hg:Gl X "range")(hm:X.mg "range"=none)(ha:PA X [a] ta)(hs:autoParam (starEach [a] X.env=[(false,eval a X.env)]) Z0):PI X tg (.Call (.Name "range" p) [a] [] pos) (p8 ta):=by
 intro v8 s σ H R I h;refine Call_ (ld_blt I hg hm boot_range (vg (thn (ha pos v8 s σ H _ I h) λ us s1 z9=>?_) hs rfl));obtain⟨vs,H1,I1,r1,q1⟩:=z9;obtain⟨j,e,q1,q2,q⟩:=q1;subst e;cases r1 with
 |cons r rr=>
  cases rr;obtain⟨t,rfl⟩:=r;exact call_range_1 (kA I1 Z5 Z5 q1 q2 (by simpa using q))
def qG (wi:TI)(g:TG)(tb:TS):TS:=λ D σ H=>wi σ H λ J H1=>∃W:Nat->Nat->St->Hp->Prop,(∃m,W 0 m σ H1)/\∀i m σ H,W i m σ H->
 (J.stop i H/\D.nx σ H)\/(J.go i H/\∃N:St->Hp->Prop,(∀σ' H',N σ' H'->∃m',m'<m/\W (i+1) m' σ' H')/\∀x H',J.yld i H x H'->g x σ H' λ σ2 H2=>tb {D with nx:=N,ct:=N,bk:=D.nx} σ2 H2)
noncomputable def dY (fp:List vR) (h:vY):List (vR×v1):=fp.filterMap λ b=>(h.get? b).map λ o=>(b,o)
theorem aX {o:v1}(hb:b∈fp)(e:h.get? b=some o):(b,o)∈dY fp h:=List.mem_filterMap.mpr ⟨b,hb,by rw [e];rfl⟩
theorem jX {p:vR×v1}(hp:p∈dY fp h):p.1∈fp/\h.get? p.1=some p.2:=by
 obtain⟨b,hb,e⟩:=List.mem_filterMap.mp hp;cases q:h.get? b with
 |none=>rw [q] at e;cases e
 |some o=>
  rw [q] at e;have e':(b,o)=p:=rH e;subst e';exact⟨hb,q⟩
theorem Inv.pinned (I:Inv X v8 σ H s)(hf:∀b∈fp,FpOk X v8 H b)(ho:∀b∈fp,∃o,s.heap.get? b=some o/\∀v,o.data≠ .cell v):Inv X (v8++dY fp s.heap) σ H s:=
 I.pins_of λ p hp=>(sL.mp hp).elim (λ z=>I.pin p (rz _ z)) λ z=>by
  obtain⟨hb,e⟩:=jX z;obtain⟨f0,f1,f2,_⟩:=hf p.1 hb;obtain⟨o,e',d⟩:=ho p.1 hb;rw [e] at e';cases e';exact⟨e,f0,f1,f2,d⟩
theorem Inv.unpinned {pl:List (vR×v1)}(I:Inv X (v8++pl) σ H s):Inv X v8 σ H s:=I.pins_of λ p hp=>I.pin p (rz _ (sg _ hp))
theorem cm {iter:vZ}{wi:TI}(hp:PassesOwn (model X.prog X.w) X.A X.env X.xe)(hc:X.calm=true)(hi:PI X tg iter wi)(hg:PG X tg g)(hb:PSs X body tb)
  (hs:autoParam (∀x,foldedSetIterable iter X.env x=pure x) ZX):PS X (.For tg iter body [] pos) (qG wi g tb):=by
 intro v8 s σ H D I h;refine wpAny_For (thn (hi v8 s σ H _ I h) λ v s1 h1=>thn h1 λ itv s2 h2=>?_) hs;obtain⟨it,fp,tn,J,H2,e,I2,T,st2,f2,W,⟨m0,w0⟩,turn⟩:=h2;subst e;have stat:∀{H':Hp},(∀b∈fp,H' b=none)->∀b∈fp,FpOk X v8 H' b:=λ hn b hb=>⟨hn b hb,(f2 b hb).2⟩
 refine codeAny_forLoop_any (λ n s'=>∃i σ' H',Inv X v8 σ' H' s'/\tn i s'.heap/\(∀b∈fp,H' b=none)/\W i n σ' H') ?_ m0 ⟨0,σ,H2,I2,st2,λ b hb=>(f2 b hb).1,w0⟩;rintro n s3 ⟨i,σ3,H3,I3,st3,fr3,w3⟩;rcases turn i n σ3 H3 w3 with⟨stop,qn⟩|⟨go,N,hN,step⟩
 ·refine tF hp (thn (T.done X rfl rfl rfl hc i v8 s3 σ3 H3 X.xe I3 (stat fr3) st3 stop) λ r s4 z9=>?_);obtain⟨hr,I4⟩:=z9;subst hr;exact ue ⟨σ3,H3,I4,qn⟩
 ·refine tF hp (thn (T.item X rfl rfl rfl hc i v8 s3 σ3 H3 X.xe I3 (stat fr3) st3 go) λ r s4 z9=>?_);obtain⟨u,hr,h4⟩:=z9;subst hr;refine tF hp (thn h4 λ _ s5 z9=>?_);obtain⟨x,H5,I5,r5,y5,st5,fr5⟩:=z9;have I5':=I5.pinned (stat fr5) (T.obj _ _ st5);refine tF hp (thn (hg _ s5 σ3 H5 x u _ I5' r5 (step x H5 y5)) λ _ s6 z9=>?_);obtain⟨σ6,H6,I6,q6⟩:=z9;refine tF hp (thn (hb _ s6 σ6 H6 _ I6 q6) λ f s7 q7=>?_);have again:∀{σ7:St} {H7:Hp},Inv X (v8++dY fp s5.heap) σ7 H7 s7->N σ7 H7->∃m,m<n/\∃i σ' H',Inv X v8 σ' H' s7/\tn i s7.heap/\(∀b∈fp,H' b=none)/\W i m σ' H':=λ {σ7 H7} I7 n7=>by
   obtain⟨m',hm,w7⟩:=hN σ7 H7 n7;refine⟨m',hm,i+1,σ7,H7,I7.unpinned,T.keep _ _ _ st5 λ b hb o e=>(I7.pin (b,o) (rz _ (rz _ (aX hb e)))).1,λ b hb=>?_,w7⟩;obtain⟨o,e,d⟩:=T.obj _ _ st5 b hb;exact(I7.pin (b,o) (rz _ (rz _ (aX hb e)))).2.1
  cases f with
  |next=>obtain⟨σ7,H7,I7,n7⟩:=q7;exact again I7 n7
  |cont=>obtain⟨σ7,H7,I7,n7⟩:=q7;exact again I7 n7
  |brk=>obtain⟨σ7,H7,I7,q7⟩:=q7;exact⟨σ7,H7,I7.unpinned,q7⟩
  |ret v=>obtain⟨x7,σ7,H7,I7,r7,q7⟩:=q7;exact⟨x7,σ7,H7,I7.unpinned,r7,q7⟩
end
theorem bL {D:Ends}(Pv:Nat->St->Hp->Prop)(h0:Pv 0 σ H)(hl:∀i σ H,i≤xs.length->Pv i σ H->SqL K H a xs)
  (hs:∀i x σ H,xs[i]?=some x->Pv i σ H->g x σ H λ σ2 H2=>tb {D with nx:=Pv (i+1),ct:=Pv (i+1),bk:=D.nx} σ2 H2) (hd:∀σ H,Pv xs.length σ H->D.nx σ H):
  ∃W:Nat->Nat->St->Hp->Prop,(∃m,W 0 m σ H)/\∀i m σ H,W i m σ H->
   ((Itl K a).stop i H/\D.nx σ H)\/((Itl K a).go i H/\∃N:St->Hp->Prop,(∀σ' H',N σ' H'->∃m',m'<m/\W (i+1) m' σ' H')/\∀x H',(Itl K a).yld i H x H'->g x σ H' λ σ2 H2=>tb {D with nx:=N,ct:=N,bk:=D.nx} σ2 H2):=by
 refine⟨λ i m σ H=>m=xs.length-i/\i≤xs.length/\Pv i σ H,⟨xs.length,Z6,sy _,h0⟩,?_⟩;rintro i m σ H ⟨rfl,hi,p⟩;have q:=hl i σ H hi p;by_cases wa:i<xs.length
 ·refine .inr ⟨⟨xs,xs[i],q,by simp [wa]⟩,Pv (i+1),λ σ' H' p'=>⟨xs.length-(i+1),tz _ _ wa,rfl,wa,p'⟩,λ x H' y=>?_⟩;obtain⟨e,y⟩:=y;subst e;exact hs i x σ _ (y xs q) p
 ·have e:i=xs.length:=uB hi (Nat.not_lt.1 wa);subst e;exact .inl ⟨⟨xs,q,rB _⟩,hd σ H p⟩
theorem fj {n:Nat}{D:Ends}(Pv:Nat->St->Hp->Prop)(h0:Pv 0 σ H)
  (hs:∀i σ H,i<n->Pv i σ H->g (.int (lo+i)) σ H λ σ2 H2=>tb {D with nx:=Pv (i+1),ct:=Pv (i+1),bk:=D.nx} σ2 H2) (hd:∀σ H,Pv n σ H->D.nx σ H):
  ∃W:Nat->Nat->St->Hp->Prop,(∃m,W 0 m σ H)/\∀i m σ H,W i m σ H->
   ((Itr lo n).stop i H/\D.nx σ H)\/((Itr lo n).go i H/\∃N:St->Hp->Prop,(∀σ' H',N σ' H'->∃m',m'<m/\W (i+1) m' σ' H')/\∀x H',(Itr lo n).yld i H x H'->g x σ H' λ σ2 H2=>tb {D with nx:=N,ct:=N,bk:=D.nx} σ2 H2):=by
 refine⟨λ i m σ H=>m=n-i/\i≤n/\Pv i σ H,⟨n,Z6,sy _,h0⟩,?_⟩;rintro i m σ H ⟨rfl,hi,p⟩;by_cases wa:i<n
 ·refine .inr ⟨wa,Pv (i+1),λ σ' H' p'=>⟨n-(i+1),tz _ _ wa,rfl,wa,p'⟩,λ x H' y=>?_⟩;obtain⟨e,y⟩:=y;subst e y;exact hs i σ _ wa p
 ·have e:i=n:=uB hi (Nat.not_lt.1 wa);subst e;exact .inl ⟨rB _,hd σ H p⟩
abbrev R2:=V->V->Hp->VK->Prop
def OpR (X:Cx)(f:vS->vS->Sem vS)(r:R2):Prop:=
 ∀(v8:List (vR×v1)) (s:vT) (σ:St) (H:Hp) (x y:V) (v u:vS) (Q:VK),Inv X v8 σ H s->RelV x v->RelV y u->r x y H Q->
  wpAny (model X.prog X.w) X.A (f v u) (EP X v8 σ Q) X.xe s
def UnR (X:Cx)(f:vS->Sem vS)(r:V->Hp->VK->Prop):Prop:=
 ∀(v8:List (vR×v1)) (s:vT) (σ:St) (H:Hp) (x:V) (v:vS) (Q:VK),Inv X v8 σ H s->RelV x v->r x H Q->
  wpAny (model X.prog X.w) X.A (f v) (EP X v8 σ Q) X.xe s
def dE (X:Cx)(f:vS)(r:List V->Hp->VK->Prop):Prop:=
 ∀(v8:List (vR×v1)) (s:vT) (σ:St) (H:Hp) (xs:List V) (us:List vS) (Q:VK),Inv X v8 σ H s->Vals xs us->r xs H Q->
  wpAny (model X.prog X.w) X.A (call f us) (EP X v8 σ Q) X.xe s
def tOp (r:R2)(ta tb:TE):TE:=λ σ H Q=>ta σ H λ x H1=>tb σ H1 λ y H2=>r x y H2 Q
def tUn (r:V->Hp->VK->Prop)(ta:TE):TE:=λ σ H Q=>ta σ H λ x H1=>r x H1 Q
def rI (C:Int->Int->Prop)(g:Int->Int->V):R2:=λ x y H Q=>∃i j,x=.int i/\y=.int j/\C i j/\Q (g i j) H
def rI0 (g:Int->Int->V):R2:=λ x y H Q=>∃i j,x=.int i/\y=.int j/\Q (g i j) H
def rU (g:Int->V):V->Hp->VK->Prop:=λ x H Q=>∃i,x=.int i/\Q (g i) H
section
variable {X:Cx}{a b c:vZ}{ta tb tc:TE}{pos:Pos}
theorem binT (ha:PE X a ta)(hb:PE X b tb){R:V->V->Hp->Prop}(I:Inv X v8 σ H s)
  (h:ta σ H λ x H1=>tb σ H1 λ y H2=>R x y H2) {Q:vS->vT->Prop} {f:vS->vS->Sem vS}
  (hf:∀v u s2 x y H2,Inv X v8 σ H2 s2->RelV x v->RelV y u->R x y H2->wpAny (model X.prog X.w) X.A (f v u) Q X.xe s2):
  wpAny (model X.prog X.w) X.A (eval a X.env) (λ v s₁=>wpAny (model X.prog X.w) X.A (eval b X.env) (λ u s₂=>wpAny (model X.prog X.w) X.A (f v u) Q X.xe s₂) X.xe s₁) X.xe s:=by
 refine thn (ha v8 s σ H _ I h) λ v s1 z9=>?_
 obtain⟨x,H1,I1,r1,q1⟩:=z9;refine thn (hb v8 s1 σ H1 _ I1 q1) λ u s2 z9=>?_
 obtain⟨y,H2,I2,r2,q2⟩:=z9;exact hf v u s2 x y H2 I2 r1 r2 q2
theorem ak {op:Operator}(ho:OpR X (binaryOp op) r)(ha:PE X a ta)(hb:PE X b tb):PE X (.BinOp a op b pos) (tOp r ta tb):=by
 intro v8 s σ H Q I h;exact wpAny_BinOp (binT ha hb I h λ v u s2 x y H2 I2 rx ry q=>ho v8 s2 σ H2 x y v u Q I2 rx ry q)
theorem gz {op:UnaryOp}{r:V->Hp->VK->Prop}(ho:UnR X (unaryOp op) r)(ha:PE X a ta):PE X (.UnaryOp op a pos) (tUn r ta):=by
 intro v8 s σ H Q I h;exact UnaryOp_ (thn (ha v8 s σ H _ I h) λ v s1 z9=>by obtain⟨x,H1,I1,r1,q1⟩:=z9;exact ho v8 s1 σ H1 x v Q I1 r1 q1)
theorem opI {f:vS->vS->Sem vS}{C:Int->Int->Prop}{g:Int->Int->Int}
  (rule:∀(i j:Int) (t u:Tok) (s:vT) (Q:vS->vT->Prop) (E:vS->vT->Prop),C i j->Q (.int (g i j) s.toks) {s with toks:=s.toks+1}->wpAny (model X.prog X.w) X.A (f (.int i t) (.int j u)) Q E s):
  OpR X f (rI C λ i j=>.int (g i j)):=by
 intro v8 s σ H x y v u Q I rx ry h;obtain⟨i,j,rfl,rfl,hc,q⟩:=h;obtain⟨t,rfl⟩:=rx;obtain⟨t',rfl⟩:=ry;exact rule i j t t' s _ _ hc ⟨.int (g i j),H,I.tok _,⟨_,rfl⟩,q⟩
theorem kq {f:vS->vS->Sem vS}{g:Int->Int->Int}
  (rule:∀(i j:Int) (t u:Tok) (s:vT) (Q:vS->vT->Prop) (E:vS->vT->Prop),Q (.int (g i j) s.toks) {s with toks:=s.toks+1}->wpAny (model X.prog X.w) X.A (f (.int i t) (.int j u)) Q E s):
  OpR X f (rI0 λ i j=>.int (g i j)):=by
 intro v8 s σ H x y v u Q I rx ry h;obtain⟨i,j,rfl,rfl,q⟩:=h;obtain⟨t,rfl⟩:=rx;obtain⟨t',rfl⟩:=ry;exact rule i j t t' s _ _ ⟨.int (g i j),H,I.tok _,⟨_,rfl⟩,q⟩
theorem pG {f:vS->vS->Sem vS}{g:Int->Int->Bool}
  (rule:∀(i j:Int) (t u:Tok) (s:vT) (Q:vS->vT->Prop) (E:vS->vT->Prop),Q (.bool (g i j)) s->wpAny (model X.prog X.w) X.A (f (.int i t) (.int j u)) Q E s):
  OpR X f (rI0 λ i j=>.bl (g i j)):=by
 intro v8 s σ H x y v u Q I rx ry h;obtain⟨i,j,rfl,rfl,q⟩:=h;obtain⟨t,rfl⟩:=rx;obtain⟨t',rfl⟩:=ry;exact rule i j t t' s _ _ ⟨.bl (g i j),H,I,rfl,q⟩
def pI (i j:Int):Prop:=0<j/\j<1073741824
def qU (i j:Int):Prop:=0≤j/\j≤1000000/\i.natAbs<2^64
def CMul (i j:Int):Prop:=(-(2^64)<i/\i<2^64)\/(-(2^64)<j/\j<2^64)
theorem CMul.ok {i j:Int}(h:CMul i j):IntMulOk i j:=by
 rcases h with⟨h1,h2⟩|⟨h1,h2⟩
 ·exact .of_left (intBits_le_64 h1 h2)
 ·exact .of_right (intBits_le_64 h1 h2)
theorem iC (k:Nat):(0:Int)≤2^k:=by
 rw [two_pow_cast];exact rN _
theorem aM:OpR X (binaryOp .Add) (rI0 λ i j=>.int (i+j)):=kq λ _ _ _ _ _ _ _ q=>add_int q
theorem bA:OpR X (binaryOp .Sub) (rI0 λ i j=>.int (i-j)):=kq λ _ _ _ _ _ _ _ q=>sub_int q
theorem bj:OpR X (binaryOp .Mult) (rI CMul λ i j=>.int (i*j)):=opI λ _ _ _ _ _ _ _ hc q=>mul_int q hc.ok
theorem aN:OpR X (binaryOp .FloorDiv) (rI pI λ i j=>.int (i/j)):=opI λ i j _ _ _ _ _ hc q=>by
 have h1:(0:Int)<j:=hc.1;have h2:j<1073741824:=hc.2;exact floordiv_int Z5 (by rw [vo i (Int.le_of_lt h1)];exact q) (.inl (PyProof.noPylong_small Z4))
theorem aK:OpR X (binaryOp .Mod) (rI (λ _ j=>0<j) λ i j=>.int (i%j)):=opI λ i j _ _ _ _ _ hc q=>by
 have h1:(0:Int)<j:=hc;exact mod_int' (sJ (Int.ne_of_lt hc)) (by rw [Int.fmod_eq_emod_of_nonneg i (Int.le_of_lt hc)];exact q)
theorem bK:OpR X (binaryOp .LShift) (rI qU λ i j=>.int (i*2^j.toNat)):=opI λ _ _ _ _ _ _ _ hc q=>lshift_int_small hc.1 hc.2.1 hc.2.2 q
theorem fZ:OpR X (binaryOp .RShift) (rI (λ _ j=>0≤j) λ i j=>.int (i/2^j.toNat)):=opI λ i j _ _ _ _ _ hc q=>
 rshift_int hc (by rw [vo i (iC _)];exact q)
theorem iN:OpR X (binaryOp .BitAnd) (rI0 λ i j=>.int (Builtin.bitAnd i j)):=kq λ _ _ _ _ _ _ _ q=>and_int q
theorem pL:OpR X (binaryOp .BitOr) (rI0 λ i j=>.int (Builtin.bitOr i j)):=kq λ _ _ _ _ _ _ _ q=>or_int q
theorem dy:OpR X (binaryOp .BitXor) (rI0 λ i j=>.int (Builtin.bitXor i j)):=kq λ _ _ _ _ _ _ _ q=>xor_int q
theorem unI {f:vS->Sem vS}{g:Int->Int}
  (rule:∀(i:Int) (t:Tok) (s:vT) (Q:vS->vT->Prop) (E:vS->vT->Prop),Q (.int (g i) s.toks) {s with toks:=s.toks+1}->wpAny (model X.prog X.w) X.A (f (.int i t)) Q E s):
  UnR X f (rU λ i=>.int (g i)):=by
 intro v8 s σ H x v Q I rx h;obtain⟨i,rfl,q⟩:=h;obtain⟨t,rfl⟩:=rx;exact rule i t s _ _ ⟨.int (g i),H,I.tok _,⟨_,rfl⟩,q⟩
theorem ef:UnR X (unaryOp .USub) (rU λ i=>.int (-i)):=unI λ _ _ _ _ _ q=>neg_int q
end
noncomputable def qi:V->V->Bool
 | .non,.non=>true| .non,.int _=>true| .int _,.non=>true| .non,.bl _=>true| .bl _,.non=>true| .non,.str _=>true| .str _,.non=>true
 | .int _,.int _=>true| .bl _,.bl _=>true| .str _,.str _=>true| .byt _,.byt _=>true
 | .int _,.str _=>true| .str _,.int _=>true| .bl _,.str _=>true| .str _,.bl _=>true
 |_,_=>false
def rEq:R2:=λ x y H Q=>qi x y=true/\Q (.bl (decide (x=y))) H
def rNe:R2:=λ x y H Q=>qi x y=true/\Q (.bl (!decide (x=y))) H
theorem iZ {i j:Int}:decide (V.int i=V.int j)=(i==j):=by
 rw [uD];simp
theorem lB {i j:Bool}:decide (V.bl i=V.bl j)=(i==j):=by
 rw [uD];simp
theorem iX {i j:Str}:decide (V.str i=V.str j)=(i==j):=by
 rw [uD];simp
theorem jt {i j:Array UInt8}:decide (V.byt i=V.byt j)=(i.toList==j.toList):=by
 rw [uD];cases i;cases j;simp
section
variable {X:Cx}{a b c:vZ}{ta tb tc:TE}{pos:Pos}
theorem aJ {Q:VK}{k k':Bool}(I:Inv X v8 σ H s)(q:Q (.bl k) H)(e:k=k'):EP X v8 σ Q (.bool k') s:=by
 subst e;exact⟨.bl k,H,I,rfl,q⟩
theorem bg:OpR X (compareOp .Eq) rEq:=by
 intro v8 s σ H x y v u Q I rx ry h;obtain⟨hs,q⟩:=h;cases x with
 |non=>
  cases rx;cases y with
  |non=>cases ry;exact PySem.EqNone.eq_none_none (aJ I q Z6)
  |bl j=>cases ry;exact PySem.EqNone.eq_none_bool (aJ I q Z6)
  |int j=>obtain⟨t',rfl⟩:=ry;exact PySem.EqNone.eq_none_int (aJ I q Z6)
  |str j=>obtain⟨t',rfl⟩:=ry;exact PySem.EqNone.eq_none_str (aJ I q Z6)
  |_=>exact absurd (show false=true from hs) rs
 |bl i=>
  cases rx;cases y with
  |non=>cases ry;exact PySem.EqNone.eq_bool_none (aJ I q Z6)
  |bl j=>cases ry;exact eq_bool (aJ I q lB)
  |str j=>obtain⟨t',rfl⟩:=ry;exact PySem.EqMixed.eq_bool_str (aJ I q Z6)
  |_=>exact absurd (show false=true from hs) rs
 |int i=>
  obtain⟨t,rfl⟩:=rx;cases y with
  |non=>cases ry;exact PySem.EqNone.eq_int_none (aJ I q Z6)
  |int j=>obtain⟨t',rfl⟩:=ry;exact eq_int (aJ I q iZ)
  |str j=>obtain⟨t',rfl⟩:=ry;exact PySem.EqMixed.eq_int_str (aJ I q Z6)
  |_=>exact absurd (show false=true from hs) rs
 |str i=>
  obtain⟨t,rfl⟩:=rx;cases y with
  |non=>cases ry;exact PySem.EqNone.eq_str_none (aJ I q Z6)
  |bl j=>cases ry;exact PySem.EqMixed.eq_str_bool (aJ I q Z6)
  |int j=>obtain⟨t',rfl⟩:=ry;exact PySem.EqMixed.eq_str_int (aJ I q Z6)
  |str j=>obtain⟨t',rfl⟩:=ry;exact eq_str (aJ I q iX)
  |_=>exact absurd (show false=true from hs) rs
 |byt i=>
  obtain⟨t,rfl⟩:=rx;cases y with
  |byt j=>obtain⟨t',rfl⟩:=ry;exact PySem.W.eq_bytes (aJ I q jt)
  |_=>exact absurd (show false=true from hs) rs
 |_=>cases y<;>exact absurd (show false=true from hs) rs
theorem jl:OpR X (compareOp .NotEq) rNe:=by
 intro v8 s σ H x y v u Q I rx ry h;obtain⟨hs,q⟩:=h;cases x with
 |non=>
  cases rx;cases y with
  |non=>cases ry;exact PySem.EqNone.ne_none_none (aJ I q Z6)
  |bl j=>cases ry;exact PySem.EqNone.ne_none_bool (aJ I q Z6)
  |int j=>obtain⟨t',rfl⟩:=ry;exact PySem.EqNone.ne_none_int (aJ I q Z6)
  |str j=>obtain⟨t',rfl⟩:=ry;exact PySem.EqNone.ne_none_str (aJ I q Z6)
  |_=>exact absurd (show false=true from hs) rs
 |bl i=>
  cases rx;cases y with
  |non=>cases ry;exact PySem.EqNone.ne_bool_none (aJ I q Z6)
  |bl j=>cases ry;exact ne_bool (aJ I q (sv not lB))
  |str j=>obtain⟨t',rfl⟩:=ry;exact PySem.EqMixed.ne_bool_str (aJ I q Z6)
  |_=>exact absurd (show false=true from hs) rs
 |int i=>
  obtain⟨t,rfl⟩:=rx;cases y with
  |non=>cases ry;exact PySem.EqNone.ne_int_none (aJ I q Z6)
  |int j=>obtain⟨t',rfl⟩:=ry;exact ne_int (aJ I q (sv not iZ))
  |str j=>obtain⟨t',rfl⟩:=ry;exact PySem.EqMixed.ne_int_str (aJ I q Z6)
  |_=>exact absurd (show false=true from hs) rs
 |str i=>
  obtain⟨t,rfl⟩:=rx;cases y with
  |non=>cases ry;exact PySem.EqNone.ne_str_none (aJ I q Z6)
  |bl j=>cases ry;exact PySem.EqMixed.ne_str_bool (aJ I q Z6)
  |int j=>obtain⟨t',rfl⟩:=ry;exact PySem.EqMixed.ne_str_int (aJ I q Z6)
  |str j=>obtain⟨t',rfl⟩:=ry;exact ne_str (aJ I q (sv not iX))
  |_=>exact absurd (show false=true from hs) rs
 |byt i=>
  obtain⟨t,rfl⟩:=rx;cases y with
  |byt j=>obtain⟨t',rfl⟩:=ry;exact PySem.W.ne_bytes (aJ I q (sv not jt))
  |_=>exact absurd (show false=true from hs) rs
 |_=>cases y<;>exact absurd (show false=true from hs) rs
theorem gF:OpR X (compareOp .Lt) (rI0 λ i j=>.bl (decide (i<j))):=pG λ _ _ _ _ _ _ _ q=>lt_int q
theorem iW:OpR X (compareOp .LtE) (rI0 λ i j=>.bl (decide (i≤j))):=pG λ _ _ _ _ _ _ _ q=>le_int q
theorem ek:OpR X (compareOp .Gt) (rI0 λ i j=>.bl (decide (j<i))):=pG λ _ _ _ _ _ _ _ q=>gt_int q
theorem ic:OpR X (compareOp .Is) (λ x y H Q=>y=.non/\Q (.bl (decide (x=.non))) H):=by
 intro v8 s σ H x y v u Q I rx ry h;obtain⟨rfl,q⟩:=h;cases ry;refine is_none_gen (aJ I q ?_);cases x<;>first
  |(cases rx;rfl)
  |(obtain⟨t,rfl⟩:=rx;rfl)
theorem jk:OpR X (compareOp .IsNot) (λ x y H Q=>y=.non/\Q (.bl (!decide (x=.non))) H):=by
 intro v8 s σ H x y v u Q I rx ry h;obtain⟨rfl,q⟩:=h;cases ry;refine isnot_none_gen (aJ I q ?_);cases x<;>first
  |(cases rx;rfl)
  |(obtain⟨t,rfl⟩:=rx;rfl)
theorem az (b:vZ){op:CmpOp}(h:autoParam (op≠ .In) ZZ)(h2:autoParam (op≠ .NotIn) ZZ):behindInMarks op b=false:=lz b h h2
theorem bx {op:CmpOp}(ho:OpR X (compareOp op) r)(ha:PE X a ta)(hb:PE X b tb)(hm:behindInMarks op b=false):PE X (.Compare a [op] [b] pos) (tOp r ta tb):=by
 intro v8 s σ H Q I h;exact wpAny_Compare1 (binT ha hb I h λ v u s2 x y H2 I2 rx ry q=>ho v8 s2 σ H2 x y v u Q I2 rx ry q) hm
def qA (t:TE):TT:=λ σ H Q=>t σ H λ x H'=>∃k,x=.bl k/\Q k H'
theorem ax {op:CmpOp}(ho:OpR X (compareOp op) r)(ha:PE X a ta)(hb:PE X b tb)(hm:behindInMarks op b=false):PT X (.Compare a [op] [b] pos) (qA (tOp r ta tb)):=by
 intro v8 s σ H Q I h;refine wpAny_isTrue_Compare1 (thn (ha v8 s σ H _ I h) λ v s1 ⟨x,H1,I1,r1,q1⟩=>thn (hb v8 s1 σ H1 _ I1 q1) λ u s2 ⟨y,H2,I2,r2,q2⟩=>
  thn (ho v8 s2 σ H2 x y v u _ I2 r1 r2 q2) λ c s3 ⟨z,H3,I3,r3,k,e,q3⟩=>?_) hm
 subst e;cases r3;exact ug ⟨H3,I3,q3⟩
def pD (r r':R2)(ta tb tc:TE):TE:=λ σ H Q=>ta σ H λ x H1=>tb σ H1 λ y H2=>r x y H2 λ z H3=>∃k,z=.bl k/\
 (if k=true then tc σ H3 λ w' H4=>r' y w' H4 Q else Q (.bl false) H3)
theorem gP {op op':CmpOp}{r':R2}(ho:OpR X (compareOp op) r)(ho':OpR X (compareOp op') r')(ha:PE X a ta)(hb:PE X b tb)(hc:PE X c tc)
  (hm:lastMarks [op,op'] [b,c]=false:=by with_unfolding_all rfl):PE X (.Compare a [op,op'] [b,c] pos) (pD r r' ta tb tc):=by
 intro v8 s σ H Q I h;refine Compare_chain (thn (ha v8 s σ H _ I h) λ v s1 ⟨x,H1,I1,r1,q1⟩=>chain_link (thn (hb v8 s1 σ H1 _ I1 q1) λ u s2 ⟨y,H2,I2,r2,q2⟩=>
  thn (ho v8 s2 σ H2 x y v u _ I2 r1 r2 q2) λ d s3 ⟨z,H3,I3,r3,k,e,q3⟩=>?_)) hm
 subst e;cases r3;refine ug ?_;cases k with
 |false=>exact ite_ff ⟨.bl false,H3,I3,rfl,q3⟩
 |true=>exact ite_tt (chain_last (thn (hc v8 s3 σ H3 _ I3 q3) λ w' s4 z9=>by obtain⟨z',H4,I4,r4,q4⟩:=z9;exact ho' v8 s4 σ H4 y z' u w' Q I4 r2 r4 q4))
theorem iF:(sizeLine:Nat)<2^63:=by rw [sizeLine_eq];decide
theorem fo {x:V}(r:Vals [x] us):∃u,us=[u]/\RelV x u:=by
 cases r with
 |cons r1 r2=>cases r2;exact⟨_,rfl,r1⟩
theorem ot {x:V}(r:Vals [x,y] us):∃u w',us=[u,w']/\RelV x u/\RelV y w':=by
 cases r with
 |cons r1 r2=>
  cases r2 with
  |cons r3 r4=>cases r4;exact⟨_,_,rfl,r1,r3⟩
theorem jO:dE X (.type "int") (λ xs H Q=>(∃i,xs=[.int i]/\Q (.int i) H)\/∃k,xs=[.bl k]/\Q (.int (if k then 1 else 0)) H):=by
 intro v8 s σ H xs us Q I r h;rcases h with⟨i,rfl,q⟩|⟨k,rfl,q⟩
 ·obtain⟨u,rfl,t,rfl⟩:=fo r;exact call_int_int ⟨.int i,H,I,⟨_,rfl⟩,q⟩
 ·obtain⟨u,rfl,r1⟩:=fo r;cases r1;exact call_int_bool ⟨.int (if k then 1 else 0),H,I.tok _,⟨_,rfl⟩,q⟩
end
structure ObjM (h:vY)(x dx C:vR)(mA:Str->Option vS):Prop where
 obj:h.get? x=some (instObj C dx)
 ns:h.Ns1 dx mA
 ne:dx≠x
theorem jZ (n:h.Ns1 dx mA):∃od,h.get? dx=some od/\∀name,lookIn name od=some (mA name):=by
 obtain⟨o,es,ep,ho,hd,hk,_,hm⟩:=n;refine⟨o,ho,λ name=>?_⟩;have e:=hm name;unfold nsFind findBy at e;rw [<-Array.find?_toList] at e;unfold lookIn;rw [hd];dsimp only
 split
 ·rename_i y q
  rw [q] at e;exact sv some e
 ·rename_i q
  rw [q] at e;have a:es.toList.any (·.refKey)=false:=by
   rw [List.any_eq_false];intro y hy;obtain⟨z,t,hkey⟩:=hk y (Array.mem_toList_iff.mp hy);simp [DictEntry.refKey,hkey]
  have a':¬es.toList.any (·.refKey)=true:=by rw [a];exact rs
  rw [rO a'];exact sv some e
theorem ObjM.look {x:vR}(I:ObjM h x dx C mA):∃od,InstAt h x (instObj C dx) C (some od)/\∀name,lookIn name od=some (mA name):=
 let⟨od,ho,hl⟩:=jZ I.ns
 ⟨od,⟨I.obj,rfl,rfl,ho⟩,hl⟩
section
variable {prog:vU}{w:vV}{A:vX}{E:vS -> vT -> Prop}{s:vT}{K:Frag}{x dx C f:vR}{mA:Str -> Option vS}{name:Str}{v:vS}
theorem nN {expr:Bool}{Q:vS->vT->Prop}(X:K.In s.heap)(I:ObjM s.heap x dx C mA)(hg:plainGet K C name=true)(hh:hasDictIn K C=true)
  (ha:findIn K (.ref C) name=some none) (hv:mA name=some v) (hv':handedIn v=true) (h:Q v {s with toks:=s.toks+1}):
  wpAny (model prog w) A (getAttr (.ref x) name expr) Q E s:=by
 obtain⟨od,J,hl⟩:=I.look;exact PySem.W.get_value X J (vh hg).1 (PySem.W.findObj_own hh ha rfl (by rw [hl,hv])) hv' h
theorem k6 {pl:Sem Bool}{Q:vS×List vS->vT->Prop}(X:K.In s.heap)(I:ObjM s.heap x dx C mA)(hg:plainGet K C name=true)
  (hf:findIn K (.ref C) name=some (some (.ref f))) (ht:isFn K (.ref f)=true) (hv:mA name=none) (h:Q (.ref f,[.ref x]) s):
  wpAny (model prog w) A (getMethod (.ref x) name pl) Q E s:=by
 obtain⟨od,J,hl⟩:=I.look;exact PySem.W.method_fn X J (vh hg).1 (vh hg).2 hf (vE.mp ht) (by show(lookIn name od).map (·.isSome)=some false;rw [hl,hv];rfl) h
theorem mJ {ns:List Str}(X:K.In s.heap)(I:ObjM s.heap x dx C mA)
  (hs:findIn K (.ref C) "__setattr__"=some (some (.builtin "object.__setattr__"))) (hp:plainOver K C=true) (ht:takerIn K C name=some none) (hh:hasDictIn K C=true)
  (hw:PySem.Within mA ns) (hsz:ns.length≤sizeLine)
  (h:∀h',ObjM h' x dx C (λ y=>if y=name then some v else mA y)->Heap.SameBut dx s.heap h'->Q () {s with heap:=h',toks:=s.toks+2}):
  wpAny (model prog w) A (setAttr (.ref x) name v) Q E s:=by
 obtain⟨od,J,hl⟩:=I.look;refine PySem.W.set_plain X J hs (PySem.W.osa_open (s:={s with toks:=s.toks+1}) (r:=none) X J hp ht λ b=>?_);obtain⟨cd,hc,hd'⟩:=uT hh;have hx:s.heap.get? x=some ⟨.ref C,some dx,.plain,#[]⟩:=I.obj;refine re (rA (re (re (wpAny_loadPart hx (re (Looks.here (s:={s with toks:=s.toks+1}) (PySem.W.looks_clsIn X hc) ?_))))));rw [hd'];refine rA (a:=some dx) (re (rA (re ?_)));refine wpAny_nsSet1 (s:={s with toks:=s.toks+1}) I.ns λ h' hn2 hs2=>?_
 obtain⟨oD,esD,epD,hoD,hdD,hcD⟩:=hn2.count (PySem.Within.cons name v hw);refine re (wpAny_lookBehind hoD (by rw [hdD];exact pastItsLine_dict (rP hcD (by rw [sr];exact Nat.add_le_add_right hsz 1))) ?_);exact rA (h _ ⟨(hs2.2 _ (sJ I.ne)).trans I.obj,hn2,I.ne⟩ hs2)
theorem kZ {R:Result->vT->Prop}{vs:List vS}(X:K.In s.heap)(hm:makesIn K C=true)
  (hi:findIn K (.ref C) "__init__"=some (some (.ref f))) (hf:typeIn K (.ref f)=some (.type "function"))
  (h:codeAny (model prog w) (A.under (.builtin "type.__call__" ⟨.ref C::vs,kw⟩)) (.call (.ref f) ⟨.ref (s.heap.objs.size+1)::vs,kw⟩) (InitBack (s.heap.objs.size+1) R)
   {s with heap:=(s.heap.push emptyDict).push (instObj C s.heap.objs.size)}):
  codeAny (model prog w) A (.call (.ref C) ⟨vs,kw⟩) R s:=by
 obtain⟨hh,g,d,t,os⟩:=s;exact make_core (vK X hm) (um X hi) (λ self=>PySem.W.bind_fn X self hf) (.inl rfl) h
theorem jF {R:Result->vT->Prop}(X:K.In s.heap)(hm:makesIn K C=true)
  (hi:findIn K (.ref C) "__init__"=some (some (.builtin "object.__init__")))
  (hb:∀self,Looks (model prog w) s.heap (bindSpecial (.builtin "object.__init__") self) (.builtin "object.__init__",[self]))
  (h:codeAny (model prog w) (A.under (.builtin "type.__call__" ⟨[.ref C],[]⟩)) (.call (.builtin "object.__init__") ⟨[.ref (s.heap.objs.size+1)],[]⟩) (InitBack (s.heap.objs.size+1) R)
   {s with heap:=(s.heap.push emptyDict).push (instObj C s.heap.objs.size)}):
  codeAny (model prog w) A (.call (.ref C) ⟨[],[]⟩) R s:=by
 obtain⟨hh,g,d,t,os⟩:=s;exact make_core (vK X hm) (um X hi) hb (.inr ⟨rfl,rfl⟩) h
end
noncomputable def aY (f:Str) (v:V):List (Str×V)->List (Str×V)
 | []=>[(f,v)]
 |(g,x)::r=>if g=f then(g,v)::r else(g,x)::aY f v r
theorem aA (f g:Str)(v:V):∀fs:List (Str×V),(aY f v fs).lookup g=if g=f then some v else fs.lookup g
 | []=>by
  show List.lookup g [(f,v)]=_;by_cases h:g=f
  ·have hb:(g==f)=true:=vE.mpr h;simp only [List.lookup,hb,se h]
  ·have hb:(g==f)=false:=tO.mpr h;simp only [List.lookup,hb,rO h]
 |(k,x)::r=>by
  have ih:=aA f g v r;rw [show aY f v ((k,x)::r)=(if k=f then(k,v)::r else(k,x)::aY f v r) from rfl];by_cases hk:k=f
  ·rw [se hk];by_cases h:g=k
   ·have hb:(g==k)=true:=vE.mpr h;simp only [List.lookup,hb,se (h.trans hk)]
   ·have hb:(g==k)=false:=tO.mpr h;simp only [List.lookup,hb,rO (λ e:g=f=>h (e.trans hk.symm))]
  ·rw [rO hk];by_cases h:g=k
   ·have hb:(g==k)=true:=vE.mpr h;simp only [List.lookup,hb,rO (λ e:g=f=>hk (h.symm.trans e))]
   ·have hb:(g==k)=false:=tO.mpr h;simp only [List.lookup,hb];exact ih
theorem dC (f:Str)(v:V):∀fs:List (Str×V),f∈(aY f v fs).map (·.1)/\∀g,g∈fs.map (·.1)->g∈(aY f v fs).map (·.1)
 | []=>⟨by simp [aY],λ g h=>by simp at h⟩
 |(k,x)::r=>by
  obtain⟨i1,i2⟩:=dC f v r;rw [show aY f v ((k,x)::r)=(if k=f then(k,v)::r else(k,x)::aY f v r) from rfl];by_cases hk:k=f
  ·rw [se hk];subst hk;exact⟨Z6,λ g h=>by simpa using h⟩
  ·rw [rO hk];refine⟨?_,λ g h=>?_⟩
   ·rw [vH];exact sN _ i1
   ·rw [vH] at h ⊢;rcases rY.mp h with e|e
    ·exact rY.mpr (.inl e)
    ·exact sN _ (i2 g e)
theorem dG (f:Str)(v:V):∀fs:List (Str×V),(aY f v fs).length≤fs.length+1
 | []=>by simp [aY]
 |(k,x)::r=>by
  have ih:=dG f v r;rw [show aY f v ((k,x)::r)=(if k=f then(k,v)::r else(k,x)::aY f v r) from rfl];by_cases hk:k=f
  ·rw [se hk,sr,sr];exact ut _ 1
  ·rw [rO hk,sr,sr];exact Nat.add_le_add_right ih 1
theorem RelO.some_of {o:Option vS}(r:RelO (some v) o):∃u,o=some u/\RelV v u:=by
 cases o with
 |none=>exact(show False from r).elim
 |some u=>exact⟨u,rfl,r⟩
theorem RelO.none_of {o:Option vS}(r:RelO none o):o=none:=by
 cases o with
 |none=>rfl
 |some u=>exact(show False from r).elim
theorem jU (r:RelV v u):handedIn u=true:=by
 cases v with
 |non=>cases(show u=Value.none from r);rfl
 |bl b=>cases(show u=Value.bool b from r);rfl
 |int i=>obtain⟨t,e⟩:=(show∃t,u=Value.int i t from r);cases e;rfl
 |str x=>obtain⟨t,e⟩:=(show∃t,u=Value.str x t from r);cases e;rfl
 |byt b=>obtain⟨t,e⟩:=(show∃t,u=Value.bytes b t from r);cases e;rfl
 |flt b=>obtain⟨t,e⟩:=(show∃t,u=Value.float b t from r);cases e;rfl
 |ref a=>cases(show u=Value.ref a from r);rfl
 |ty n=>cases(show u=Value.type n from r);rfl
section
variable {P:vU}{w:vV}{H H':Hp}{h h':vY}{a C dx:vR}{fs fs':List (Str × V)}
theorem dI (hok:HOk P w H h)(e:H a=some (.ins C dx fs)):∃mA,ObjM h a dx C mA/\(∀f,RelO (fs.lookup f) (mA f))/\PySem.Within mA (fs.map (·.1))/\fs.length≤1000/\H dx=some (.own a):=by
 obtain⟨d,z,ne,ob,mA,n,r,q⟩:=(show ObjOk P w H h a (.ins C dx fs) from hok a _ e);exact⟨mA,⟨ob,n,ne⟩,r,q,z,d⟩
end
structure Cls (K:Frag)(C:vR):Prop where
 pg:plainGet K C Str.empty=true
 hd:hasDictIn K C=true
 po:plainOver K C=true
 sa:findIn K (.ref C) "__setattr__"=some (some (.builtin "object.__setattr__"))
theorem Cls.get (c:Cls K C)(f:Str):plainGet K C f=true:=c.pg
def NoAttr (K:Frag)(C:vR)(f:Str):Prop:=findIn K (.ref C) f=some none
theorem NoAttr.taker {f:Str}(n:NoAttr K C f):takerIn K C f=some none:=by
 unfold takerIn;rw [show findIn K (.ref C) f=some none from n];rfl
structure Meth (K:Frag)(C:vR)(m:Str)(f:vR):Prop where
 at_:findIn K (.ref C) m=some (some (.ref f))
 fn:isFn K (.ref f)=true
 kp:keepIn K (.ref f)=true
section
variable {X:Cx}{v8:List (vR × v1)}{σ:St}{H:Hp}{s:vT}{a C dx:vR}{fs:List (Str × V)}{f:Str}{v:V}{A:vX}{E:vS -> vT -> Prop}
theorem il {b:Bool}{Q:vS->vT->Prop}(I:Inv X v8 σ H s)(e:H a=some (.ins C dx fs))(c:Cls X.K C)(n:NoAttr X.K C f)(l:fs.lookup f=some v)
  (h:∀u s',Inv X v8 σ H s'->RelV v u->Q u s'):wpAny (model X.prog X.w) A (getAttr (.ref a) f b) Q E s:=by
 obtain⟨mA,O,r,_,_,_⟩:=dI I.hok e;obtain⟨u,hu,ru⟩:=RelO.some_of (v:=v) (o:=mA f) (by rw [<-l];exact r f);exact nN I.kIn O (c.get f) c.hd n hu (jU ru) (h u _ (I.tok _) ru)
theorem cX {m:Str}{g:vR}{pl:Sem Bool}{Q:vS×List vS->vT->Prop}(I:Inv X v8 σ H s)(e:H a=some (.ins C dx fs))(c:Cls X.K C)(k:Meth X.K C m g)(l:fs.lookup m=none)
  (h:Q (.ref g,[.ref a]) s):wpAny (model X.prog X.w) A (getMethod (.ref a) m pl) Q E s:=by
 obtain⟨mA,O,r,_,_,_⟩:=dI I.hok e;have hn:mA m=none:=RelO.none_of (by rw [<-l];exact r m);exact k6 I.kIn O (c.get m) k.at_ k.fn hn h
theorem iL (I:Inv X v8 σ H s)(e:H a=some (.ins C dx fs))(c:Cls X.K C)(n:NoAttr X.K C f)(hl:fs.length<1000)(ry:RelV y u)
  (h:∀s',Inv X v8 σ (upd H a (.ins C dx (aY f y fs))) s'->Q () s'):wpAny (model X.prog X.w) A (setAttr (.ref a) f u) Q E s:=by
 obtain⟨mA,O,r,wi,_,ho⟩:=dI I.hok e;have hz:(fs.map (·.1)).length≤sizeLine:=by rw [rg,sizeLine_eq];exact rP (vv hl) Z9
 refine mJ I.kIn O c.sa c.po n.taker c.hd wi hz λ h' O' sb=>h _ ?_
 have hd:∃o,h'.get? dx=some o:=let⟨o,_,_,e',_⟩:=O'.ns;⟨o,e'⟩;refine I.write (x:=a) (e:=dx) (by rw [e];exact True.intro) (.inr ho) (λ b q hb z=>(sb.2 b hb).trans z) hd ?_;refine⟨by rw [ao O.ne];exact ho,?_,O.ne,O'.obj,_,O'.ns,λ g=>?_,λ g hg=>?_⟩
 ·have:=dG f y fs;exact rP this hl
 ·show RelO ((aY f y fs).lookup g) (if g=f then some u else mA g);rw [aA];by_cases q:g=f
  ·rw [se q,se q];exact ry
  ·rw [rO q,rO q];exact r g
 ·by_cases q:g=f
  ·rw [q];exact(dC f y fs).1
  ·refine(dC f y fs).2 g (wi g λ z=>hg ?_);show(if g=f then some u else mA g)=none;rw [rO q];exact z
theorem Inv.made (I:Inv X v8 σ H s):Inv X v8 σ (upd (upd H s.heap.objs.size (.own (s.heap.objs.size+1))) (s.heap.objs.size+1) (.ins C s.heap.objs.size []))
  {s with heap:=(s.heap.push emptyDict).push (instObj C s.heap.objs.size)}:=by
 have e1:(s.heap.push emptyDict).get? s.heap.objs.size=some emptyDict:=rF s.heap rfl;have e2:((s.heap.push emptyDict).push (instObj C s.heap.objs.size)).get? (s.heap.objs.size+1)=some (instObj C s.heap.objs.size):=by
  have:=rF (s.heap.push emptyDict) (o:=instObj C s.heap.objs.size) rfl
  rwa [tU] at this
 have e3:(s.heap.push emptyDict).Ns s.heap.objs.size (λ _=>none):=⟨emptyDict,#[],_,e1,rfl,(λ e he=>absurd he Z6),λ _=>rfl⟩;have I1:=I.laid (a:=s.heap.objs.size) (o:=.own (s.heap.objs.size+1)) (h':=s.heap.push emptyDict) (t':=s.toks) (λ b u q=>rf _ q) (rB _) ⟨_,e1⟩;refine I1.laid (a:=s.heap.objs.size+1) (o:=.ins C s.heap.objs.size []) (t':=s.toks) (λ b u q=>rf _ q) (uQ (tU _ _)) ?_;have ne:s.heap.objs.size≠s.heap.objs.size+1:=rL (uu _);refine⟨by rw [ao ne,ad],sy _,ne,e2,λ _=>none,(Heap.Ns1.of_empty e3).at λ o q=>rf _ q,λ _=>True.intro,λ y hy=>absurd rfl hy⟩
theorem attr_of {prog:vU}{env:Env}{Q:vS->vT->Prop}(hb:attributeBase e f env (eval e env)=eval e env)
  (h:wpAny (model prog w) A (eval e env) (λ o s₁=>wpAny (model prog w) A (getAttr o f true) Q E s₁) E s):wpAny (model prog w) A (eval (.Attribute e f pos) env) Q E s:=
 Attribute_any_ h (by rw [arm_eval_Attribute,hb])
end
def pW (K:Frag)(ta:TE)(f:Str):TE:=λ σ H Q=>ta σ H λ x H1=>∃a C dx fs v,x=.ref a/\H1 a=some (.ins C dx fs)/\Cls K C/\NoAttr K C f/\fs.lookup f=some v/\Q v H1
def qZ (K:Frag)(ta tv:TE)(f:Str):TS:=λ D σ H=>tv σ H λ y H1=>ta σ H1 λ x H2=>∃a C dx fs,x=.ref a/\H2 a=some (.ins C dx fs)/\Cls K C/\NoAttr K C f/\fs.length<1000/\
 D.nx σ (upd H2 a (.ins C dx (aY f y fs)))
section
variable {X:Cx}{o e value:vZ}{f:Str}{pos pos' tpos:Pos}{ta tv:TE}
theorem bd (he:PE X e ta)(hb:attributeBase e f X.env (eval e X.env)=eval e X.env):PE X (.Attribute e f pos) (pW X.K ta f):=by
 intro v8 s σ H Q I h;refine attr_of hb (thn (he v8 s σ H _ I h) λ u s1 z9=>?_);obtain⟨x,H1,I1,rx,a,C,dx,fs,v,ex,ea,c,n,l,q⟩:=z9;subst ex;obtain rfl:u=Value.ref a:=rx;exact il I1 ea c n l λ u' s2 I2 ru=>⟨v,H1,I2,ru,q⟩
theorem bu (ha:PE X o ta)(hv:PE X value tv)(hs:swapsWith value (some (.Attribute o f pos')) pos.line X.env=pure false):PS X (.Assign [.Attribute o f pos'] value pos) (qZ X.K ta tv f):=by
 intro v8 s σ H D I h;refine plainObj_wpAny_Assign_Attribute (thn (hv v8 s σ H _ I h) λ u s1 ⟨y,H1,I1,ry,q⟩=>thn (ha v8 s1 σ H1 _ I1 q) λ ov s2 z9=>?_) hs;obtain⟨x,H2,I2,rx,a,C,dx,fs,ex,ea,c,n,l,q2⟩:=z9;subst ex;obtain rfl:ov=Value.ref a:=rx;exact iL I2 ea c n l ry λ s3 I3=>⟨σ,_,I3,q2⟩
end
section
variable {X:Cx}{v8:List (vR × v1)}{σ:St}{H:Hp}{s:vT}{A:vX}{E:vS -> vT -> Prop}{Q:vS -> vT -> Prop}{c:vS}{b:Bool}
inductive TyOf (K:Frag) (H:Hp):V->vS->Prop where
 |non:TyOf K H .non (.type "NoneType")
 |bl (x:Bool):TyOf K H (.bl x) (.type "bool")
 |int (i:Int):TyOf K H (.int i) (.type "int")
 |str (x:Str):TyOf K H (.str x) (.type "str")
 |flt (x:UInt64):TyOf K H (.flt x) (.type "float")
 |lst {a:vR} {xs:List V} (e:H a=some (.lst xs)):TyOf K H (.ref a) (.type "list")
 |frz {a:vR} {o:v1} {xs:List V} (e:H a=some (.frz o (.lst xs))):TyOf K H (.ref a) (.type "list")
 |tup {a:vR} {xs:List V} (e:H a=some (.tup xs)):TyOf K H (.ref a) (.type "tuple")
 |dK {a:vR} {kvs:List (Key×V)} (e:H a=some (.dK kvs)):TyOf K H (.ref a) (.type "dict")
 |dT {a:vR} {kvs:List (List Key×V)} (e:H a=some (.dT kvs)):TyOf K H (.ref a) (.type "dict")
 |ins {a C dx:vR} {fs:List (Str×V)} (e:H a=some (.ins C dx fs)) (cl:Cls K C) (ha:findIn K (.ref C) "__class__"=some (some (.builtin "object.__class__")))
   (hn:specialIn K (.builtin "object.__class__") "__get__"=some (some (.builtin "getset_descriptor.__get__"))) (htk:takesIn K (.builtin "object.__class__")=some true)
   (hm:mroIn K C (.type "object")=some true):TyOf K H (.ref a) (.ref C)
theorem jQ {x:V}{t:vS}(I:Inv X v8 σ H s)(rx:RelV x u)(ty:TyOf X.K H x t)(e:kitOne X.K t c=some b)(h:∀tk,Q (.bool b) {s with toks:=tk}):
  wpAny (model X.prog X.w) A (call (.builtin "isinstance") [u,c]) Q E s:=by
 cases ty with
 |non=>cases(show u=Value.none from rx);exact sE PySem.W.kitx_none I.kIn True.intro e (λ z=>nomatch z) h
 |bl y=>cases(show u=Value.bool y from rx);exact sE PySem.W.kitx_bool I.kIn True.intro e (λ z=>nomatch z) h
 |int i=>obtain⟨t,q⟩:=(show∃t,u=Value.int i t from rx);cases q;exact sE PySem.W.kitx_int I.kIn True.intro e (λ z=>nomatch z) h
 |str y=>obtain⟨t,q⟩:=(show∃t,u=Value.str y t from rx);cases q;exact sE PySem.W.kitx_str I.kIn True.intro e (λ z=>nomatch z) h
 |flt y=>obtain⟨t,q⟩:=(show∃t,u=Value.float y t from rx);cases q;exact sE PySem.W.kitx_float I.kIn True.intro e (λ z=>nomatch z) h
 | @lst a xs ea=>
  cases(show u=Value.ref a from rx);obtain⟨_,_,n,_,h1⟩:=(show ObjOk X.prog X.w H s.heap a (.lst xs) from I.hok a _ ea);exact sE kitx_list I.kIn ⟨_,h1,rfl⟩ e (λ z=>nomatch z) h
 | @frz a ob xs ea=>
  cases(show u=Value.ref a from rx);obtain⟨_,_,_,n,_,h1⟩:=(show ObjOk X.prog X.w H s.heap a (.frz ob (.lst xs)) from I.hok a _ ea);exact sE kitx_list I.kIn ⟨_,h1,rfl⟩ e (λ z=>nomatch z) h
 | @tup a xs ea=>
  cases(show u=Value.ref a from rx);obtain⟨_,_,_,p⟩:=(show ObjOk X.prog X.w H s.heap a (.tup xs) from I.hok a _ ea);obtain⟨o,h1,h2,_⟩:=p;exact sE PySem.W.kitx_tuple I.kIn ⟨o,h1,h2⟩ e (λ z=>nomatch z) h
 | @dK a kvs ea=>
  cases(show u=Value.ref a from rx);obtain⟨_,_,vs,_,p⟩:=(show ObjOk X.prog X.w H s.heap a (.dK kvs) from I.hok a _ ea);obtain⟨o,es,ep,h1,h2,_⟩:=p;exact sE kitx_dict I.kIn ⟨o,h1,h2.1⟩ e (λ z=>nomatch z) h
 | @dT a kvs ea=>
  cases(show u=Value.ref a from rx);obtain⟨_,_,xs,_,o,es,ep,h1,h2,_⟩:=(show ObjOk X.prog X.w H s.heap a (.dT kvs) from I.hok a _ ea);exact sE kitx_dict I.kIn ⟨o,h1,h2.1⟩ e (λ z=>nomatch z) h
 | @ins a C dx fs ea cl ha hn htk hm=>
  cases(show u=Value.ref a from rx);obtain⟨mA,O,_⟩:=dI I.hok ea;obtain⟨od,J,_⟩:=O.look;exact sE (PySem.W.kitx_own (cl.get _) cl.hd ha hn htk hm) I.kIn J e (λ z=>nomatch z) h
end
structure Room (k:Nat)(A:vX):Prop where
 hd:30≤k->A.handled=none
 dp:A.depth+3*k+5<recursionLimit
 un:A.units+16*k+200<cLine
 gd:A.guards=some []
theorem Room.mono (r:Room k A)(h:j≤k):Room j A:=⟨λ z=>r.hd (rP z h),by have:=r.dp;lia,by have:=r.un;lia,r.gd⟩
theorem Room.deeper (r:Room (k+1) A)(env:Env):Room k (A.deeper env):=
 ⟨λ z=>r.hd (tW z),by have:=r.dp;show A.depth+1+3*k+5<_;lia,by have:=r.un;show A.units+3+16*k+200<_;lia,r.gd⟩
theorem Room.in1 (r:Room (k+1) A):Room k A.in1:=
 ⟨λ z=>r.hd (tW z),by have:=r.dp;show A.depth+3*k+5<_;lia,by have:=r.un;show A.units+1+16*k+200<_;lia,r.gd⟩
theorem iP:(A.under (.builtin "type.__call__" ⟨.ref C::us,kw⟩)).depth=A.depth+1:=by
 first|rfl|simp [Around.under,Code.weight,Code.isCreation,Code.isGuard,Code.isCaller,Code.frames,Code.isFrame,guardIds]
theorem ix:(A.under (.builtin "type.__call__" ⟨.ref C::us,kw⟩)).units=A.units+1:=by
 first|rfl|simp [Around.under,Code.cUnits,Code.frames,Code.isFrame]
theorem make_guards:(A.under (.builtin "type.__call__" ⟨.ref C::us,kw⟩)).guards=A.guards:=by
 first|rfl|simp [Around.under,Code.guards,Code.isGuard,guardIds,pushGuards]
theorem Room.make (r:Room (k+1) A)(C:vR)(us:List vS)(kw:List (Str×vS)):Room k (A.under (.builtin "type.__call__" ⟨.ref C::us,kw⟩)):=
 ⟨λ z=>r.hd (tW z),by have:=r.dp;rw [iP];lia,by have:=r.un;rw [ix];lia,make_guards.trans r.gd⟩
theorem Room.depth (r:Room k A):A.depth<recursionLimit:=by have:=r.dp;lia
theorem Room.units (r:Room k A):A.units+64<cLine:=by have:=r.un;lia
def ee:TA:=λ _ H Q=>Q [] H
def cr (ta:TE)(tr:TA):TA:=λ σ H Q=>ta σ H λ x H1=>tr σ H1 λ xs H2=>Q (x::xs) H2
section
variable {X:Cx}{e:vZ}{es:List vZ}{te:TE}{t:TA}{pos:Pos}
theorem ae:PA X [] ee:=λ _ _ _ _ H Q I h=>vF ⟨[],H,I,.nil,h⟩
theorem ac (ha:PE X e te)(hr:PA X es t)(hs:autoParam (starEach (e::es) X.env=(false,eval e X.env)::starEach es X.env) Z0):PA X (e::es) (cr te t):=by
 intro pos v8 s σ H Q I h;rw [hs];show wpAny _ _ (spliced ((false,eval e X.env)::backTo pos (starEach es X.env))) _ _ s;refine vy (thn (ha v8 s σ H _ I h) λ u s1 z9=>?_);obtain⟨x,H1,I1,r1,q1⟩:=z9;exact thn (hr pos v8 s1 σ H1 _ I1 q1) λ us s2 z9=>by obtain⟨xs,H2,I2,r2,q2⟩:=z9;exact⟨x::xs,H2,I2,.cons r1 r2,q2⟩
def pK (t:TA):TE:=λ σ H Q=>t σ H λ xs H1=>xs.length≤sizeLine/\∀p,H1 p=none->Q (.ref p) (upd H1 p (.tup xs))
def oV (t:TA):TE:=λ σ H Q=>t σ H λ xs H1=>xs.length≤sizeLine/\∀p,H1 p=none->Q (.ref p) (upd H1 p (.lst xs))
theorem aC {x1}(h:PA X es t):PE X (.Tuple es x1 pos) (pK t):=by
 intro v8 s σ H Q I hq;refine wpAny_Tuple_spliced (thn (h pos v8 s σ H _ I hq) λ us s1 ⟨xs,H1,I1,r,z,q⟩=>⟨by rw [<-r.length];exact z,?_⟩);have hf:H1 s1.heap.objs.size=none:=I1.hok.fresh (rB _);refine⟨.ref s1.heap.objs.size,upd H1 s1.heap.objs.size (.tup xs),I1.laid (t':=s1.toks) (λ b u e=>rf _ e) (rB _) ?_,rfl,q _ hf⟩;exact⟨z,us,r,⟨_,rF _ rfl,rfl,_,rfl⟩⟩
theorem aq (h:PA X es t):PE X (.List es pos) (oV t):=by
 intro v8 s σ H Q I hq;refine wpAny_List_spliced (thn (h pos v8 s σ H _ I hq) λ us s1 ⟨xs,H1,I1,r,z,q⟩=>⟨by rw [<-r.length];exact z,?_⟩);have hf:H1 s1.heap.objs.size=none:=I1.hok.fresh (rB _);refine⟨.ref s1.heap.objs.size,upd H1 s1.heap.objs.size (.lst xs),I1.laid (t':=s1.toks) (λ b u e=>rf _ e) (rB _) ?_,rfl,q _ hf⟩;exact⟨z,us,0,r,rF _ rfl⟩
end
abbrev Sp:=List V->Hp->VK->XK->Prop
abbrev CXT:=List Env->Hp->vT->XK->vS->vT->Prop
structure Env0 (P:vU)(w:vV)(K:Frag)(mg:Str->Option vS)(base:vY)(A:vX)(outer:List Env)(s:vT)(H:Hp):Prop where
 frames:A.frames=some outer
 mod:Mod K mg base
 bs:∀b o,base.get? b=some o->s.heap.get? b=some o/\H b=none
 bsz:base.objs.size≤s.heap.objs.size
 funs:s.heap.FunFrames base outer
 frf:∀b∈frs outer,H b=none
 hok:HOk P w H s.heap
 bare:AllBare s.gens
 qt:Qt A H
def CE (outer:List Env)(P:vU)(w:vV)(H:Hp)(s:vT)(Q:VK)(u:vS)(s':vT):Prop:=
 ∃v H',s'.os=s.os/\AllBare s'.gens/\Un (frs outer) [] H H' s.heap s'.heap/\HOk P w H' s'.heap/\RelV v u/\Q v H'
def CR (CX:CXT)(outer:List Env)(P:vU)(w:vV)(H:Hp)(s:vT)(Q:VK)(E:XK)(r:Result)(s':vT):Prop:=
 match r with
 | .ok (.ret u)=>CE outer P w H s Q u s'
 | .ok _=>False
 | .error e=>CX outer H s E e s'
structure FnOk (P:vU)(w:vV)(K:Frag)(mg:Str->Option vS)(base:vY)(CX:CXT)(k:Nat)(f:vR)(fd:vW)(ps:List Str)(sp:Sp):Prop where
 len:∀vs H Q E,sp vs H Q E->vs.length=ps.length
 run:∀(A:vX) (outer:List Env) (s:vT) (H:Hp) (args:Args) (us:List vS) (vs:List V) (Q:VK) (E:XK),Room k A->Env0 P w K mg base A outer s H->BindsTo s fd args (ps.zip us)->Vals vs us->sp vs H Q E->
  codeAny (model P w) A (.call (.ref f) args) (CR CX outer P w H s Q E) s
theorem Env0.make (e:Env0 P w K mg base A outer s H)(C:vR)(us:List vS)(kw:List (Str×vS)):
  Env0 P w K mg base (A.under (.builtin "type.__call__" ⟨.ref C::us,kw⟩)) outer s H:=⟨by first|exact e.frames|(simpa [Around.under,Code.envs,Code.isFrame,pushEnvs] using e.frames),e.mod,e.bs,e.bsz,e.funs,e.frf,e.hok,e.bare,e.qt⟩
theorem Env0.in1 (e:Env0 P w K mg base A outer s H):
  Env0 P w K mg base A.in1 outer s H:=⟨e.frames,e.mod,e.bs,e.bsz,e.funs,e.frf,e.hok,e.bare,e.qt⟩
section
variable {X:Cx}{v8:List (vR × v1)}{σ:St}{H:Hp}{s s':vT}
theorem Inv.env0 (I:Inv X v8 σ H s):Env0 X.prog X.w X.K X.mg X.base X.A X.stack s H:=
 ⟨I.ok.frames,I.ok.mod,I.bs,rP I.ok.bsz I.sz,I.stack,I.stkFree,I.hok,I.bare,I.qt⟩
theorem Inv.after {Q:VK}(I:Inv X v8 σ H s)(h:CE X.stack X.prog X.w H s Q u s'):EP X v8 σ Q u s':=by
 obtain⟨v,H',os,bare,un,hok,r,q⟩:=h;obtain⟨hh,g,d,t,os'⟩:=s';obtain rfl:os'=s.os:=os;exact⟨v,H',I.call (h':=hh) (g':=g) (d':=d) (t':=t) (ch:=[]) un hok bare (λ b z=>absurd z Z6),r,q⟩
end
def gy (sp:Sp)(dvs:List V)(E:XK)(t:TA):TE:=λ σ H Q=>t σ H λ vs H1=>sp (vs++dvs) H1 Q E
def gN (C:vR)(m:Str)(sp:Sp)(dvs:List V)(E:XK)(ta:TE)(t:TA):TE:=λ σ H Q=>ta σ H λ x H1=>∃a dx fs,x=.ref a/\H1 a=some (.ins C dx fs)/\fs.lookup m=none/\
 t σ H1 λ vs H2=>sp (x::(vs++dvs)) H2 Q E
def or (C:vR)(sp:Sp)(dvs:List V)(E:XK)(t:TA):TE:=λ σ H Q=>t σ H λ vs H1=>∀x dx,H1 x=none->H1 dx=none->dx≠x->
 sp (.ref x::(vs++dvs)) (upd (upd H1 dx (.own x)) x (.ins C dx [])) (λ v H2=>v=.non/\Q (.ref x) H2) E
def Binds (K:Frag)(fd:vW)(ps:List Str)(ds:List vS):Prop:=
 ∀(s:vT) (us:List vS),K.In s.heap->(us++ds).length=ps.length->BindsTo s fd ⟨us,[]⟩ (ps.zip (us++ds))
theorem Binds.all {fd:vW}(h:∀us:List vS,us.length=ps.length->bindArgs fd ⟨us,[]⟩=pure (ps.zip us)):Binds K fd ps []:=λ s us _ hl=>by
 rw [List.append_nil] at hl ⊢;exact .of_eq (h us hl)
def bc (CX:CXT)(X:Cx)(E:XK):Prop:=∀(v8:List (vR×v1)) (σ:St) (H:Hp) (s:vT) (e:vS) (s':vT),Inv X v8 σ H s->CX X.stack H s E e s'->X.xe e s'
section
variable {X:Cx}{CX:CXT}{k:Nat}{f C:vR}{fd:vW}{ps:List Str}{sp:Sp}{dvs:List V}{ds:List vS}{E:XK}{x m:Str}{p pos apos:Pos}{e o:vZ}{es:List vZ}{ta:TE}{t:TA}
theorem run_fn {Q:VK}(F:FnOk X.prog X.w X.K X.mg X.base CX k f fd ps sp)(hr:Room k X.A)(hb:Binds X.K fd ps ds)(hd:Vals dvs ds)(hx:bc CX X E)
  (I:Inv X v8 σ H s) (r:Vals vs us) (h:sp (vs++dvs) H Q E):wpAny (model X.prog X.w) X.A (call (.ref f) us) (EP X v8 σ Q) X.xe s:=by
 have r2:Vals (vs++dvs) (us++ds):=r.append hd;have hl:(us++ds).length=ps.length:=by rw [<-r2.length];exact F.len _ _ _ _ h
 refine u7 (codeAny_mono (F.run X.A X.stack s H ⟨us,[]⟩ (us++ds) (vs++dvs) Q E hr I.env0 (hb s us I.kIn hl) r2 h) λ r s' hq=>?_);cases r with
 |error e=>exact hx v8 σ H s e s' I hq
 |ok fl=>
  cases fl with
  |ret u=>exact I.after hq
  |next=>exact False.elim hq
  |brk=>exact False.elim hq
  |cont=>exact False.elim hq
theorem ap (F:FnOk X.prog X.w X.K X.mg X.base CX k f fd ps sp)(hr:Room k X.A)(hg:Gl X x)(hm:X.mg x=some (.ref f))(hk:keepIn X.K (.ref f)=true)(hb:Binds X.K fd ps ds)(hd:Vals dvs ds)(hx:bc CX X E)
  (ha:PA X (e::es) t) (hdb:autoParam ((x==("__debug__":Str))=false) ZZ) (he:autoParam (starEach (e::es) X.env=(false,eval e X.env)::starEach es X.env) Z0) (hpl:autoParam ((backTo pos (starEach es X.env)).any (·.1)=false) Z0):
  PE X (.Call (.Name x p) (e::es) [] pos) (gy sp dvs E t):=by
 intro v8 s σ H Q I h;refine sI (ld_glob I hg hm ?_ hdb);refine tZ (h₀:=X.base) I.ok.mod.kin hk (thn (ha pos v8 s σ H _ I h) λ us s1 ⟨vs,H1,I1,r,q⟩=>⟨I1.kIn,?_⟩) he hpl;exact run_fn F hr hb hd hx I1 r q
theorem dZ (F:FnOk X.prog X.w X.K X.mg X.base CX k f fd ps sp)(hr:Room k X.A)(hg:Gl X x)(hm:X.mg x=some (.ref f))(hk:keepIn X.K (.ref f)=true)(hb:Binds X.K fd ps ds)(hd:Vals dvs ds)(hx:bc CX X E)
  (hdb:autoParam ((x==("__debug__":Str))=false) ZZ):PE X (.Call (.Name x p) [] [] pos) (gy sp dvs E ee):=by
 intro v8 s σ H Q I h;refine sI (ld_glob I hg hm ?_ hdb);exact uw I.kIn hk (run_fn (us:=[]) F hr hb hd hx I .nil h)
theorem bV {pl:Sem Bool}(he:PE X o ta)(c:Cls X.K C)(hm:Meth X.K C m f)(F:FnOk X.prog X.w X.K X.mg X.base CX k f fd ps sp)(hr:Room k X.A)(hb:Binds X.K fd ps ds)(hd:Vals dvs ds)(hx:bc CX X E)(ha:PA X (e::es) t)
    (hst:autoParam (starEach (e::es) X.env=(false,eval e X.env)::starEach es X.env) Z0) (hpl:autoParam ((backTo pos (starEach es X.env)).any (·.1)=false) Z0)
    (ht:autoParam (eval (.Call (.Attribute o m apos) (e::es) [] pos) X.env=(do
      let ov<-eval o X.env
      standAt apos.atName
      let(f,first)<-holding [ov] (getMethod ov m pl)
      callWith pos f first (backTo pos (starEach (e::es) X.env)) (backToKw pos (keywordEach [] X.env)))) Z0):
    PE X (.Call (.Attribute o m apos) (e::es) [] pos) (gN C m sp dvs E ta t):=by
  intro v8 s σ H Q I h
  refine uR (pl:=pl) (thn (he v8 s σ H _ I h) λ u s1 z9=>?_) ht
  obtain⟨x,H1,I1,rx,a,dx,fs,ex,ea,l,q⟩:=z9
  subst ex
  obtain rfl:u=Value.ref a:=rx
  refine cX I1 ea c hm l ?_
  refine tZ (first:=[.ref a]) (h₀:=X.base) I.ok.mod.kin hm.kp (thn (ha pos v8 s1 σ H1 _ I1 q) λ us s2 ⟨vs,H2,I2,r,q2⟩=>⟨I2.kIn,?_⟩) hst hpl
  exact run_fn (us:=.ref a::us) (vs:=.ref a::vs) F hr hb hd hx I2 (.cons rfl r) q2
theorem cx {pl:Sem Bool}(he:PE X o ta)(c:Cls X.K C)(hm:Meth X.K C m f)(F:FnOk X.prog X.w X.K X.mg X.base CX k f fd ps sp)(hr:Room k X.A)(hb:Binds X.K fd ps ds)(hd:Vals dvs ds)(hx:bc CX X E)
    (ht:autoParam (eval (.Call (.Attribute o m apos) [] [] pos) X.env=(do
      let ov<-eval o X.env
      standAt apos.atName
      let(f,first)<-holding [ov] (getMethod ov m pl)
      callWith pos f first (backTo pos (starEach [] X.env)) (backToKw pos (keywordEach [] X.env)))) Z0):
    PE X (.Call (.Attribute o m apos) [] [] pos) (gN C m sp dvs E ta ee):=by
  intro v8 s σ H Q I h
  refine uR (pl:=pl) (thn (he v8 s σ H _ I h) λ u s1 z9=>?_) ht
  obtain⟨x,H1,I1,rx,a,dx,fs,ex,ea,l,q⟩:=z9
  subst ex
  obtain rfl:u=Value.ref a:=rx
  refine cX I1 ea c hm l ?_
  exact uw (first:=[.ref a]) I1.kIn hm.kp (run_fn (us:=[.ref a]) (vs:=[.ref a]) F hr hb hd hx I1 (.cons rfl .nil) q)
structure Mk (K:Frag)(C f:vR):Prop where
 makes:makesIn K C=true
 init:findIn K (.ref C) "__init__"=some (some (.ref f))
 fn:isFn K (.ref f)=true
 kp:keepIn K (.ref C)=true
theorem run_make {Q:VK}(M:Mk X.K C f)(F:FnOk X.prog X.w X.K X.mg X.base CX k f fd ps sp)(hr:Room (k+1) X.A)(hb:Binds X.K fd ps ds)(hd:Vals dvs ds)
  (hx:bc CX X E) (I:Inv X v8 σ H s) (r:Vals vs us)
  (h:∀x dx,H x=none->H dx=none->dx≠x->sp (.ref x::(vs++dvs)) (upd (upd H dx (.own x)) x (.ins C dx [])) (λ v H2=>v=.non/\Q (.ref x) H2) E):
  wpAny (model X.prog X.w) X.A (call (.ref C) us) (EP X v8 σ Q) X.xe s:=by
 have hq:=h (s.heap.objs.size+1) s.heap.objs.size (I.hok.fresh (vI _)) (I.hok.fresh (rB _)) (rL (uu _));have I2:=Inv.made (C:=C) I;have r2:Vals (V.ref (s.heap.objs.size+1)::(vs++dvs)) (Value.ref (s.heap.objs.size+1)::(us++ds)):=.cons rfl (r.append hd);have hl:(Value.ref (s.heap.objs.size+1)::us++ds).length=ps.length:=by
  have e:=r2.length;rw [F.len _ _ _ _ hq] at e;exact e.symm
 refine u7 (kZ (f:=f) I.kIn M.makes M.init (vE.mp M.fn) (codeAny_mono (F.run _ X.stack _ _ ⟨Value.ref (s.heap.objs.size+1)::us,[]⟩ (Value.ref (s.heap.objs.size+1)::(us++ds)) _ _ E (hr.make C us [])
  (I2.env0.make C us []) (hb _ (Value.ref (s.heap.objs.size+1)::us) I2.kIn hl) r2 hq) λ r s' hq'=>?_))
 cases r with
 |error e=>exact hx v8 σ _ _ e s' I2 hq'
 |ok fl=>
  cases fl with
  |ret u=>
   obtain⟨v,H',I3,rv,ev,q3⟩:=I2.after hq';subst ev;exact⟨rv,⟨V.ref (s.heap.objs.size+1),H',I3,rfl,q3⟩⟩
  |next=>exact False.elim hq'
  |brk=>exact False.elim hq'
  |cont=>exact False.elim hq'
theorem dU (M:Mk X.K C f)(F:FnOk X.prog X.w X.K X.mg X.base CX k f fd ps sp)(hr:Room (k+1) X.A)(hg:Gl X x)(hm:X.mg x=some (.ref C))(hb:Binds X.K fd ps ds)(hd:Vals dvs ds)(hx:bc CX X E)
  (ha:PA X (e::es) t) (hdb:autoParam ((x==("__debug__":Str))=false) ZZ) (he:autoParam (starEach (e::es) X.env=(false,eval e X.env)::starEach es X.env) Z0) (hpl:autoParam ((backTo pos (starEach es X.env)).any (·.1)=false) Z0):
  PE X (.Call (.Name x p) (e::es) [] pos) (or C sp dvs E t):=by
 intro v8 s σ H Q I h;refine sI (ld_glob I hg hm ?_ hdb);refine tZ (h₀:=X.base) I.ok.mod.kin M.kp (thn (ha pos v8 s σ H _ I h) λ us s1 ⟨vs,H1,I1,r,q⟩=>⟨I1.kIn,?_⟩) he hpl;exact run_make M F hr hb hd hx I1 r q
theorem ke (M:Mk X.K C f)(F:FnOk X.prog X.w X.K X.mg X.base CX k f fd ps sp)(hr:Room (k+1) X.A)(hg:Gl X x)(hm:X.mg x=some (.ref C))(hb:Binds X.K fd ps ds)(hd:Vals dvs ds)(hx:bc CX X E)
  (hdb:autoParam ((x==("__debug__":Str))=false) ZZ):PE X (.Call (.Name x p) [] [] pos) (or C sp dvs E ee):=by
 intro v8 s σ H Q I h;refine sI (ld_glob I hg hm ?_ hdb);exact uw I.kIn M.kp (run_make (us:=[]) M F hr hb hd hx I .nil h)
end
section
variable {X:Cx}{CX:CXT}{k:Nat}{f C:vR}{fd:vW}{ps ks:List Str}{sp:Sp}{E:XK}{x m:Str}{p pos apos kpos:Pos}{e o:vZ}{es:List vZ}{kws:List Keyword}{te ta:TE}{t tk:TA}{nm:Option Str}
variable {g:List vS -> List vS -> List vS}{gV:List V -> List V -> List V}
end
structure FnScope (N P:List Str)(sc:Scope):Prop where
 kind:sc.kind=.function
 co:sc.isCoroutine=false
 gen:sc.isGenerator=false
 nd:N.Nodup
 pre:N.take P.length=P
 par:∀x∈P,sc.names.lookup x=some .local\/sc.names.lookup x=some .cell
 nofree:∀y∈sc.names,y.2≠ .free
def scB (N P:List Str)(c:Scope):Bool:=decide (c.kind=.function)&& !c.isCoroutine&& !c.isGenerator&&decide N.Nodup&&decide (N.take P.length=P)&&P.all (λ x=>decide (c.names.lookup x=some .local\/c.names.lookup x=some .cell))&&c.names.all λ y=>decide (y.2≠.free)
theorem scK {P:List Str}{c:Scope}(h:scB N P c=true):FnScope N P c:=by
 simp only [scB,vL,decide_eq_true_eq,Bool.not_eq_true',tS] at h;obtain⟨⟨⟨⟨⟨⟨a,b⟩,d⟩,e⟩,f⟩,g⟩,i⟩:=h;exact⟨a,b,d,e,f,g,i⟩
theorem eW:∀{binds:List (Str×vS)} {m:Str->Option vS},(∀v,(x,v)∉binds)->bindL kindOf binds m x=m x
 | [],_,_=>rfl
 |(n,v)::r,m,h=>by
  unfold bindL;rw [eW λ w hw=>h w (sN _ hw)]
  split
  ·have:x≠n:=by rintro rfl;exact h v ux
   simp [this]
  ·rfl
theorem ft:∀{binds:List (Str×vS)} {m:Str->Option vS},(∀v,(x,v)∉binds)->bindC kindOf binds m x=m x
 | [],_,_=>rfl
 |(n,v)::r,m,h=>by
  unfold bindC;rw [ft λ w hw=>h w (sN _ hw)]
  split
  ·rfl
  ·have:x≠n:=by rintro rfl;exact h v ux
   simp [this]
theorem fE {v:vS}:∀{P:List Str} {vs:List vS} {i:Nat} {m:Str->Option vS},P.Nodup->P[i]?=some x->vs[i]?=some v->kindOf x=some .local->
  bindL kindOf (P.zip vs) m x=some v
 | [],_,_,_,_,h,_,_=>by simp at h
 |_::_,[],_,_,_,_,h,_=>by simp at h
 |p::P,w::vs,0,m,nd,h1,h2,hk=>by
  simp at h1 h2;subst h1;subst h2;show bindL kindOf ((p,w)::P.zip vs) m p=_;unfold bindL;rw [eW λ v hv=>(vi.mp nd).1 (ve hv).1,se hk];simp
 |p::P,w::vs,i+1,m,nd,h1,h2,hk=>by
  show bindL kindOf ((p,w)::P.zip vs) m x=_;unfold bindL;exact fE (i:=i) (vi.mp nd).2 (by simpa using h1) (by simpa using h2) hk
theorem fm {v:vS}:∀{P:List Str} {vs:List vS} {i:Nat} {m:Str->Option vS},P.Nodup->P[i]?=some x->vs[i]?=some v->kindOf x≠some .local->
  bindC kindOf (P.zip vs) m x=some v
 | [],_,_,_,_,h,_,_=>by simp at h
 |_::_,[],_,_,_,_,h,_=>by simp at h
 |p::P,w::vs,0,m,nd,h1,h2,hk=>by
  simp at h1 h2;subst h1;subst h2;show bindC kindOf ((p,w)::P.zip vs) m p=_;unfold bindC;rw [ft λ v hv=>(vi.mp nd).1 (ve hv).1,rO hk];simp
 |p::P,w::vs,i+1,m,nd,h1,h2,hk=>by
  show bindC kindOf ((p,w)::P.zip vs) m x=_;unfold bindC;exact fm (i:=i) (vi.mp nd).2 (by simpa using h1) (by simpa using h2) hk
noncomputable def start (N:List Str) (vs:List V):St:=vs.map some++List.replicate (N.length-vs.length) none
noncomputable def cxOf (CX:CXT) (P:vU) (w:vV) (K:Frag) (mg:Str->Option vS) (base:vY) (N:List Str) (qual:Str) (scope:Scope) (f:vR) (cd:vS) (A:vX) (outer:List Env) (s:vT) (H:Hp) (E:XK):Cx where
 prog:=P
 w:=w
 K:=K
 mg:=mg
 base:=base
 A:=A.deeper (envOfC qual scope s.heap.objs.size f cd)
 N:=N
 s₀:=s
 H₀:=H
 env:=envOfC qual scope s.heap.objs.size f cd
 outer:=outer
 stack:=envOfC qual scope s.heap.objs.size f cd::outer
 ex:=[]
 calm:=true
 fn:=λ _=>true
 pn:=[]
 xe:=λ e s'=>wpAny (model P w) (A.deeper (envOfC qual scope s.heap.objs.size f cd)) (leaving (envOfC qual scope s.heap.objs.size f cd) e) (λ _ s''=>CX outer H s E e s'') (λ e' s''=>CX outer H s E e' s'') s'
theorem hZ {sc:Scope}{n:Nat}(h:sc.names.lookup x=some .cell):∃c,(cellsFrom n sc.names []).lookup x=some c:=by
 have q:=uK sc.names n [] (.inl h);exact Option.isSome_iff_exists.mp q
theorem fz {cd:vS}{s1:vT}{E:XK}
  (S:FnScope N ps scope) (e0:Env0 P w K mg base A outer s H) (hl:vs.length=ps.length) (r:Vals vs us)
  (x:InCallC s s.heap.objs.size (bindL (envOfC qual scope s.heap.objs.size f cd).kindOf (ps.zip us) λ _=>none) (cellsFrom (s.heap.objs.size+1) scope.names []) (bindC (envOfC qual scope s.heap.objs.size f cd).kindOf (ps.zip us) λ _=>none) s1):
  Inv (cxOf CX P w K mg base N qual scope f cd A outer s H E) [] (start N vs) H s1:=by
 have hpl:ps.length≤N.length:=by have:=sv List.length S.pre;rw [rW] at this;lia
 obtain⟨h1,tk,rfl,hk⟩:=x.done;have noA:∀b:vR,b∉(cxOf CX P w K mg base N qual scope f cd A outer s H E).ex:=λ b z=>absurd (show b∈([]:List vR) from z) Z6
 refine⟨⟨e0.mod,S.kind,rfl,rfl,rB _,λ y z c h1 h2=>?_,λ y hy=>?_,λ y c _ h=>?_,e0.qt,Around.frames_deeper e0.frames,.inr ⟨rfl,rfl⟩,λ b z=>absurd z (noA b),e0.bs,e0.bsz,λ b _ _=>noA b,λ b z=>absurd z (noA b),e0.funs,e0.frf⟩,
  rfl,e0.bare,Un.kept hk,⟨_,x.toInCall.ns,λ i y v h1 h2 h3=>?_⟩,λ y c h=>⟨_,x.cell y c h⟩,e0.hok.fresh (rB _),λ y c h=>?_,λ p hp=>absurd (show p∈([]:List (vR×v1)) from hp) Z6,e0.hok.kept hk,?_⟩
 ·exact name_of_addr x.apart (rX h1) (rX h2)
 ·have hy:scope.names.lookup y=some .cell\/scope.names.lookup y=some .free:=hy;rcases hy with hy|hy
  ·exact hZ hy
  ·exact absurd rfl (S.nofree _ (rX hy))
 ·exact vv (x.above y c (rX h))
 ·have hi:i<vs.length:=by
   unfold start at h2;by_cases hi:i<vs.length
   ·exact hi
   ·rw [uj (by simpa using hi)] at h2;rw [List.getElem?_replicate] at h2
    split at h2<;>cases h2
  have ha:vs[i]?=some v:=by
   unfold start at h2;rw [uo (by simpa using hi),si] at h2;cases e:vs[i]? with
   |none=>rw [e] at h2;cases h2
   |some a=>rw [e] at h2;cases h2;rfl
  obtain⟨u,hu,rv⟩:=r.get ha;have hp:ps[i]?=some y:=by
   rw [<-S.pre,List.getElem?_take_of_lt (tX hi hl)];exact h1
  have ndP:ps.Nodup:=by rw [<-S.pre];exact S.nd.sublist (List.take_sublist _ _)
  refine⟨u,rv,?_⟩;rcases S.par y (sO hp) with k|k
  ·exact .inl ⟨k,fE ndP hp hu k⟩
  ·obtain⟨c,e⟩:=hZ (n:=s.heap.objs.size+1) k;refine .inr ⟨.inl k,c,e,?_⟩;have q:=x.cell y c e;rw [fm ndP hp hu (by show scope.names.lookup y≠_;rw [k];decide)] at q;exact q
 ·exact e0.hok.fresh (vv (x.above y c (rX h)))
 ·unfold start;show _=N.length;rw [rq,rg,rZ];lia
theorem gE {name:Str}{params:Arguments}{dV kV doc pm v9 ct oc:vS}{an od:Option vR}
  {osl:Array (Option vS)} {N ps:List Str} {sp:Sp} (lk:K.lookup f=some ⟨oc,od,.func (fnOf name qual params body scope dV kV doc pm an v9 ct),osl⟩) (hcd:codeIn K v9 qual=true) (S:FnScope N ps scope)
  (len:∀vs H Q E,sp vs H Q E->vs.length=ps.length)
  (hbody:∀(A:vX) (outer:List Env) (s:vT) (H:Hp) (vs:List V) (Q:VK) (E:XK),Room k (A.deeper (envOfC qual scope s.heap.objs.size f v9))->sp vs H Q E->
   ∃t,PSs (cxOf CX P w K mg base N qual scope f v9 A outer s H E) body t/\t {nx:=λ _ H'=>Q .non H',rt:=Q} (start N vs) H):
  FnOk P w K mg base CX (k+1) f (fnOf name qual params body scope dV kV doc pm an v9 ct) ps sp:=by
 refine⟨len,λ A outer s H args us vs Q E hr e0 hb r hsp=>?_⟩;have hl:=len _ _ _ _ hsp;have KX:K.In s.heap:=e0.mod.kin.keeps λ b o e=>(e0.bs b o e).1
 have lim:s.heap.NoLimit:=e0.mod.nolimit.keeps λ b o e=>(e0.bs b o e).1
 have hkind:∀y∈ps.zip us,scope.names.lookup y.1=some .local\/(scope.names.lookup y.1=some .cell/\((cellsFrom (s.heap.objs.size+1) scope.names []).lookup y.1).isSome=true):=λ⟨n,v⟩ hy=>by
  rcases S.par n (ve hy).1 with q|q
  ·exact .inl q
  ·exact .inr ⟨q,uK _ _ _ (.inl q)⟩
 refine codeAny_call_function hr.depth (KX _ _ lk) rfl S.co S.gen rfl (codeRec_of KX hcd) (hb _ _ _ _ ?_);refine wpAny_newFunctionEnv_cells S.kind hkind λ env he s1 x=>?_
 subst he;refine⟨lim.keeps x.toInCall.keep,codeAny_func ?_⟩;obtain⟨t,ht,hq⟩:=hbody A outer s H vs Q E (hr.deeper _) hsp;have I:Inv (cxOf CX P w K mg base N qual scope f v9 A outer s H E) [] (start N vs) H s1:=fz S e0 hl r x;refine rV (ht [] s1 (start N vs) H _ I hq) (λ fl s' hs=>?_) λ e s' hs=>hs
 have fin:∀{σ':St} {H':Hp} {v:V} {u:vS},Inv (cxOf CX P w K mg base N qual scope f v9 A outer s H E) [] σ' H' s'->RelV v u->Q v H'->CE outer P w H s Q u s':=
  λ {σ' H' v u} J rv q=>⟨v,H',J.os,J.bare,J.base,J.hok,rv,q⟩
 cases fl with
 |ret u=>
  obtain⟨v,σ',H',J,rv,q⟩:=hs;exact fin J rv q
 |next=>
  obtain⟨σ',H',J,q⟩:=hs;exact fin (v:=V.non) (u:=Value.none) J rfl q
 |brk=>
  obtain⟨_,_,_,q⟩:=hs;exact False.elim q
 |cont=>
  obtain⟨_,_,_,q⟩:=hs;exact False.elim q
section
variable {X:Cx}{x:Str}{p pos:Pos}{e:vZ}{es:List vZ}{t:TA}{id T:String}{r:List V -> Hp -> VK -> Prop}
def tCB (r:List V->Hp->VK->Prop)(t:TA):TE:=λ σ H Q=>t σ H λ vs H1=>r vs H1 Q
theorem aH (hc:dE X (.builtin id) r)(hg:Gl X x)(hm:X.mg x=none)(hv:bootBuiltins x=some (.builtin id))(ha:PA X (e::es) t)(hn:autoParam (x≠ "__name__") ZZ)(hdb:autoParam ((x==("__debug__":Str))=false) ZZ)
  (he:autoParam (starEach (e::es) X.env=(false,eval e X.env)::starEach es X.env) Z0) (hpl:autoParam ((backTo pos (starEach es X.env)).any (·.1)=false) Z0):PE X (.Call (.Name x p) (e::es) [] pos) (tCB r t):=by
 intro v8 s σ H Q I h;refine sI (ld_blt I hg hm hv ?_ hn hdb);exact PyProof.Rows.callWith_builtin1 (thn (ha pos v8 s σ H _ I h) λ us s1 z9=>by obtain⟨vs,H1,I1,r1,q1⟩:=z9;exact hc v8 s1 σ H1 vs us Q I1 r1 q1) he hpl
theorem bq (hc:dE X (.type T) r)(hg:Gl X x)(hm:X.mg x=none)(hv:bootBuiltins x=some (.type T))(ha:PA X (e::es) t)(hn:autoParam (x≠ "__name__") ZZ)(hdb:autoParam ((x==("__debug__":Str))=false) ZZ)
  (he:autoParam (starEach (e::es) X.env=(false,eval e X.env)::starEach es X.env) Z0) (hpl:autoParam ((backTo pos (starEach es X.env)).any (·.1)=false) Z0):PE X (.Call (.Name x p) (e::es) [] pos) (tCB r t):=by
 intro v8 s σ H Q I h;refine sI (ld_blt I hg hm hv ?_ hn hdb);exact vg (thn (ha pos v8 s σ H _ I h) λ us s1 z9=>by obtain⟨vs,H1,I1,r1,q1⟩:=z9;exact hc v8 s1 σ H1 vs us Q I1 r1 q1) he hpl
end
end L2
namespace HT
open PySem PyProof.Rows
section
open PySem.SeqAt
open PySem.AutoSeq1 (wpAny_loadPart')
open PySem.MeetsSeq PySem.MeetsSeq2 PySem.MeetsSeq3
end
section
variable {prog:vU}{w:vV}{A:vX}{E:vS -> vT -> Prop}{s:vT}
noncomputable def sIx (n d:Nat):Option Int->Nat
 |none=>d
 |some v=>if v<0 then(v+(n:Int)).toNat else min v.toNat n
theorem sIx_none (n d:Nat):sIx n d none=d:=rfl
theorem sIx_nat (n d k:Nat):sIx n d (some (k:Int))=min k n:=by
 show(if(k:Int)<0 then((k:Int)+(n:Int)).toNat else min (k:Int).toNat n)=min k n;rw [rO Z5,rD]
end
end HT
namespace L2
open PySem PySem.Spec PyProof.Rows
variable {x:V}{s:vT}{its its' us:List vS}{p:vR}{H:Hp}{j t':Nat}{xs:List V}{v8:List (vR×v1)}{v:vS}{σ:St}
abbrev TO:=St->Hp->(Option Int->Hp->Prop)->Prop
def PO (X:Cx)(e:Option vZ)(t:TO):Prop:=
 ∀(v8:List (vR×v1)) (s:vT) (σ:St) (H:Hp) (Q:Option Int->Hp->Prop),Inv X v8 σ H s->t σ H Q->
  wpAny (model X.prog X.w) X.A (evalPart e X.env) (λ u s'=>∃o H',Inv X v8 σ H' s'/\IsPart u o/\Q o H') X.xe s
def mx:TO:=λ _ H Q=>Q none H
def pQ (t:TE):TO:=λ σ H Q=>t σ H λ x H1=>∃i,x=.int i/\Q (some i) H1
theorem bZ {ns:List Int}:∀{us:List vS},Vals (ns.map V.int) us->IntsAre us ns:=by
 induction ns with
 |nil=>intro us r;rw [List.map_nil] at r;cases r;exact .nil
 |cons n ns ih=>
  intro us r;rw [vH] at r;cases r with
  |cons r1 r2=>
   obtain⟨t,e⟩:=r1;subst e;exact .cons n t (ih r2)
section
variable {X:Cx}{e:vZ}{te:TE}{lo hi:Option vZ}{tl th:TO}{pos p2:Pos}
theorem b8:PO X none mx:=by
 intro v8 s σ H Q I h;rw [evalPart_none];exact rA ⟨none,H,I,.none,h⟩
theorem bo (h:PE X e te):PO X (some e) (pQ te):=by
 intro v8 s σ H Q I hw;rw [evalPart_some];refine thn (h v8 s σ H _ I hw) λ u s1 z9=>?_
 obtain⟨x,H1,I1,r1,q1⟩:=z9;obtain⟨i,rfl,q⟩:=q1;obtain⟨t,rfl⟩:=r1;exact⟨some i,H1,I1,.int i t,q⟩
def SlR (X:Cx)(r:V->Option Int->Option Int->Hp->VK->Prop):Prop:=
 ∀(v8:List (vR×v1)) (s:vT) (σ:St) (H:Hp) (x:V) (v vl vu:vS) (lo hi:Option Int) (sl:vR) (Q:VK),Inv X v8 σ H s->RelV x v->s.heap.IsSliceOf sl vl vu .none->IsPart vl lo->IsPart vu hi->r x lo hi H Q->
  ∃T id,typeLookup (.type T) "__getitem__"=pure (some (.builtin id))/\s.TypeIs v T/\wpAny (model X.prog X.w) X.A (getItem v (.ref sl)) (EP X v8 σ Q) X.xe s
def tSl (r:V->Option Int->Option Int->Hp->VK->Prop)(te:TE)(tl th:TO):TE:=λ σ H Q=>te σ H λ x H1=>tl σ H1 λ l H2=>th σ H2 λ u H3=>r x l u H3 Q
theorem bi {r:V->Option Int->Option Int->Hp->VK->Prop}(hr:SlR X r)(he:PE X e te)(hl:PO X lo tl)(hu:PO X hi th):PE X (.Subscript e (.Slice lo hi none p2) pos) (tSl r te tl th):=by
 intro v8 s σ H Q I h;refine Subscript_ (thn (he v8 s σ H _ I h) λ v s1 z9=>?_);obtain⟨x,H1,I1,r1,q1⟩:=z9;refine wpAny_Slice (thn (hl v8 s1 σ H1 _ I1 q1) λ vl s2 ⟨l,H2,I2,pl,q2⟩=>thn (hu v8 s2 σ H2 _ I2 q2) λ vu s3 z9=>?_);obtain⟨u,H3,I3,pu,q3⟩:=z9;rw [evalPart_none];refine rA ?_;have I4:Inv X v8 σ H3 {s3 with heap:=s3.heap.push {cls:=.type "slice",data:=.fields #[vl,vu,.none]}}:=I3.kept (t':=s3.toks) λ b ob q=>rf _ q
 obtain⟨T,id,hT,ht,hg⟩:=hr v8 {s3 with heap:=s3.heap.push {cls:=.type "slice",data:=.fields #[vl,vu,.none]}} σ H3 x v vl vu l u s3.heap.objs.size Q I4 r1 (Heap.IsSliceOf.new ..) pl pu q3;show wpAny (model X.prog X.w) X.A (subscriptTail e (.Slice lo hi none p2) v (.ref s3.heap.objs.size)) (EP X v8 σ Q) X.xe {s3 with heap:=s3.heap.push {cls:=.type "slice",data:=.fields #[vl,vu,.none]}};exact tail_any (ops:=[.ref s3.heap.objs.size,v]) ht hT hg (by with_unfolding_all rfl)
def cutV (xs:List V)(lo hi:Option Int):List V:=(xs.drop (HT.sIx xs.length 0 lo)).take (HT.sIx xs.length xs.length hi-HT.sIx xs.length 0 lo)
theorem gX (xs:List V)(lo hi:Option Int):(cutV xs lo hi).length≤xs.length:=by
 unfold cutV;rw [rW,ur];exact rP (Nat.min_le_right _ _) (Nat.sub_le _ _)
end
noncomputable def ixN (n:Nat) (i:Int):Option Nat:=if 0≤i then(if i<n then some i.toNat else none) else if-(n:Int)≤i then some (i+n).toNat else none
noncomputable def atI {α:Type} (xs:List α) (i:Int):Option α:=(ixN xs.length i).bind λ j=>xs[j]?
theorem i5 {n:Nat}{i:Int}(h:ixN n i=some j):seqIndex? i n=some j/\j<n/\-(n:Int)≤i/\i<n:=by
 unfold ixN at h;by_cases h0:0≤i
 ·rw [se h0] at h;by_cases h1:i<n
  ·rw [se h1] at h;have e:i.toNat=j:=rH h;exact⟨by rw [seqIndex_of h0 h1,e],Z5,Z5,h1⟩
  ·rw [rO h1] at h;cases h
 ·rw [rO h0] at h;by_cases h1:-(n:Int)≤i
  ·rw [se h1] at h;have e:(i+n).toNat=j:=rH h;exact⟨by rw [seqIndex_neg (uv h0) h1,e],Z5,h1,Z5⟩
  ·rw [rO h1] at h;cases h
theorem nB {α:Type}{xs:List α}{i:Int}{v:α}(h:atI xs i=some v):∃j,seqIndex? i xs.length=some j/\xs[j]?=some v/\j<xs.length/\-(xs.length:Int)≤i/\i<xs.length:=by
 unfold atI at h;cases e:ixN xs.length i with
 |none=>rw [e] at h;cases h
 |some j=>
  rw [e] at h;obtain⟨h1,h2,h3,h4⟩:=i5 e;exact⟨j,h1,h,h2,h3,h4⟩
theorem aE {α:Type}{xs:List α}{v:α}(h:xs[j]?=some v):atI xs (j:Int)=some v:=by
 have hj:j<xs.length:=(rm.mp h).1;have e:ixN xs.length (j:Int)=some j:=by
  unfold ixN;rw [se Z5,se (Int.ofNat_lt.mpr hj)];simp
 unfold atI;rw [e];exact h
def i8 (b:vZ):Prop:=∀o i,subscripted b false o i=operate [o,i] (getItem o i)
def IxR (X:Cx)(r:R2):Prop:=
 ∀(value slice:vZ) (v8:List (vR×v1)) (s:vT) (σ:St) (H:Hp) (x y:V) (v u:vS) (Q:VK),Inv X v8 σ H s->RelV x v->RelV y u->r x y H Q->
  subscripted slice false v u=operate [v,u] (getItem v u)->wpAny (model X.prog X.w) X.A (subscriptTail value slice v u) (EP X v8 σ Q) X.xe s
def MtR (X:Cx)(id:String)(r:V->List V->Hp->VK->Prop):Prop:=
 ∀(v8:List (vR×v1)) (s:vT) (σ:St) (H:Hp) (x:V) (xs:List V) (v:vS) (us:List vS) (Q:VK),Inv X v8 σ H s->RelV x v->Vals xs us->r x xs H Q->
  wpAny (model X.prog X.w) X.A (call (.builtin id) (v::us)) (EP X v8 σ Q) X.xe s
section
variable {X:Cx}{a b:vZ}{ta tb:TE}{pos:Pos}
theorem aS {r:R2}(hr:IxR X r)(ha:PE X a ta)(hb:PE X b tb)(hs:i8 b):PE X (.Subscript a b pos) (tOp r ta tb):=by
 intro v8 s σ H Q I h;exact Subscript_ (binT ha hb I h λ v u s2 x y H2 I2 rx ry q=>hr a b v8 s2 σ H2 x y v u Q I2 rx ry q (hs _ _))
def qg (K:Frag):R2:=λ x y H Q=>∃p xs i v,x=.ref p/\y=.int i/\SqL K H p xs/\atI xs i=some v/\Q v H
theorem aG:IxR X (qg X.K):=by
 intro value slice v8 s σ H x y v u Q I rx ry h hs;obtain⟨p,xs,i,z,rfl,rfl,hq,he,q⟩:=h;cases rx;obtain⟨t,rfl⟩:=ry;obtain⟨its,r,pl,hz⟩:=I.list hq;obtain⟨j,h1,h2,h3,h4,h5⟩:=nB he;obtain⟨w,ew,rw'⟩:=r.get h2;have hl:=r.length;have hn:=iF;have fin:EP X v8 σ Q w s:=⟨z,H,I,rw',q⟩;by_cases h0:0≤i
 ·have hj:i.toNat=j:=by
   rw [seqIndex_of h0 h5] at h1;exact rH h1
  exact item_listR pl.isList h0 Z5 (by rw [hj];simpa using ew) fin hs
 ·have hj:(i+(its.toArray.size:Int)).toNat=j:=by
   rw [seqIndex_neg (uv h0) h4] at h1;rw [rh,<-hl];exact rH h1
  exact subscriptTail_builtinR (x:=w) pl.isList.typeIs slot_list_getitem.lookup
   (wpAny_getItem_list_neg (Q:=λ r s'=>r=w/\EP X v8 σ Q r s') pl.isList (uv h0) (by rw [rh]<;>exact tj (sv Neg.neg (sv Nat.cast hl.symm)) h4) Z5 (by rw [hj];simpa using ew) ⟨rfl,fin⟩) hs
theorem ie (its:List vS)(n j:Nat)(u:vS):Obj.mapSeq (·.setIfInBounds j u) {cls:=.type "list",data:=.seq its.toArray n}={cls:=.type "list",data:=.seq (its.set j u).toArray n}:=by
 simp [Obj.mapSeq]
theorem Inv.lst (I:Inv X v8 σ H s)(h:H p=some (.lst xs)):
  ∃(its:List vS) (n:Nat),Vals xs its/\s.heap.get? p=some {cls:=.type "list",data:=.seq its.toArray n}/\xs.length≤sizeLine:=by
 obtain⟨z,its,n,r,e⟩:=I.hok p _ h;exact⟨its,n,r,e,z⟩
theorem Inv.lstUpd {ys:List V}{n n':Nat}{f:v1->v1}(I:Inv X v8 σ H s)(h:H p=some (.lst xs))
  (ho:s.heap.get? p=some {cls:=.type "list",data:=.seq its.toArray n}) (hf:f {cls:=.type "list",data:=.seq its.toArray n}={cls:=.type "list",data:=.seq its'.toArray n'}) (r:Vals ys its') (hz:ys.length≤sizeLine) (t:Nat):
  Inv X v8 σ (upd H p (.lst ys)) {s with heap:=s.heap.update p f,toks:=t}:=by
 have e:(s.heap.update p f).get? p=some {cls:=.type "list",data:=.seq its'.toArray n'}:=by
  rw [rG f ho (by rw [hf]<;>rfl),hf]
 refine I.write (x:=p) (e:=p) (by rw [h];trivial) (.inl rfl) (λ b u hb q=>(rp _ _ (sJ hb)).trans q) ⟨_,e⟩ ?_;exact⟨hz,its',n',r,e⟩
def qj:V->V->V->Hp->(Hp->Prop)->Prop:=λ o i v H Q=>∃p xs k j,o=.ref p/\i=.int k/\H p=some (.lst xs)/\ixN xs.length k=some j/\Q (upd H p (.lst (xs.set j v)))
theorem lm:qq X qj:=by
 intro v8 s σ H o i v ov iv u Q I ro ri rv h;obtain⟨p,xs,k,j,rfl,rfl,hp,hj,q⟩:=h;cases ro;obtain⟨t,rfl⟩:=ri;obtain⟨its,n,r,ho,hz⟩:=I.lst hp;obtain⟨h1,h2,h3,h4⟩:=i5 hj;have hl:=r.length;have hn:=iF;have I':Inv X v8 σ (upd H p (.lst (xs.set j v))) {s with heap:=s.heap.update p (Obj.mapSeq (·.setIfInBounds j u))}:=
  I.lstUpd hp ho (ie its n j u) (r.set rv j) (by rw [ud];exact hz) s.toks
 by_cases h0:0≤k
 ·have hk:k.toNat=j:=by
   rw [seqIndex_of h0 h4] at h1;exact rH h1
  exact PySem.W.ki_setAt ho h0 Z4 (by rw [rh,<-hl];exact h4) (by rw [hk];exact⟨_,I',q⟩)
 ·have hk:(k+(its.toArray.size:Int)).toNat=j:=by
   rw [seqIndex_neg (uv h0) h3] at h1;rw [rh,<-hl];exact rH h1
  exact PySem.W.ki_setBack ho (uv h0) (by rw [rh,<-hl];exact h3) Z4 (by rw [hk];exact⟨_,I',q⟩)
theorem sbP {i:Int}{n:Nat}(h:¬i<0):max 0 (min i n)=((min i.toNat n:Nat):Int):=by
 obtain⟨k,rfl⟩:=Int.eq_ofNat_of_zero_le (Int.not_lt.1 h);rw [rD,Int.max_eq_right (Int.le_min.2 ⟨rN _,rN _⟩)];rcases Nat.le_total k n with e|e
 ·rw [uz e,Int.min_eq_left (Int.ofNat_le.2 e)]
 ·rw [Nat.min_eq_right e,Int.min_eq_right (Int.ofNat_le.2 e)]
theorem sbN {i:Int}{n:Nat}(h:i<0):max 0 (min (i+n) n)=((i+n).toNat:Int):=by
 rw [Int.min_eq_left (Int.le_trans (Int.add_le_add_right (Int.le_of_lt h) n) (Int.le_of_eq (Int.zero_add _))),Int.toNat_eq_max,Int.max_comm]
theorem gi (lo hi:Option Int)(n:Nat):(sliceBounds lo hi none n).1=((HT.sIx n 0 lo:Nat):Int)/\(sliceBounds lo hi none n).2.1=((HT.sIx n n hi:Nat):Int)/\(sliceBounds lo hi none n).2.2=1:=by
 refine⟨?_,?_,rfl⟩
 ·cases lo with
  |none=>simp [sliceBounds,HT.sIx]
  |some i=>
   simp only [sliceBounds,HT.sIx,Option.getD_none,show(1:Int)>0 by decide,if_true];by_cases h:i<0
   ·simp only [h,if_true,sbN h]
   ·simp only [h,if_false,sbP h]
 ·cases hi with
  |none=>simp [sliceBounds,HT.sIx]
  |some i=>
   simp only [sliceBounds,HT.sIx,Option.getD_none,show(1:Int)>0 by decide,if_true];by_cases h:i<0
   ·simp only [h,if_true,sbN h]
   ·simp only [h,if_false,sbP h]
theorem eF (its:List vS)(lo hi:Option Int):slicePick its.toArray lo hi none=((its.drop (HT.sIx its.length 0 lo)).take (HT.sIx its.length its.length hi-HT.sIx its.length 0 lo)).toArray:=by
 obtain⟨h1,h2,h3⟩:=gi lo hi its.toArray.size;unfold slicePick;rw [h1,h2,h3];simp only [sliceRange_one,pick_run,rh]<;>rfl
def qX (K:Frag):V->Option Int->Option Int->Hp->VK->Prop:=λ x lo hi H Q=>∃a xs,x=.ref a/\SqL K H a xs/\∀p,H p=none->Q (.ref p) (upd H p (.lst (cutV xs lo hi)))
theorem bw:SlR X (qX X.K):=by
 intro v8 s σ H x v vl vu lo hi sl Q I rx hs pl pu h;obtain⟨a,xs,rfl,hx,q⟩:=h;cases rx;obtain⟨its,r,ht,hz⟩:=I.list hx;have hlen:=r.length;refine⟨"list",_,slot_list_getitem.lookup,ht.isList.typeIs,?_⟩;refine wpAny_getItem_list_slice ht.isList hs pl pu .none Z6 ?_ (by rw [rh]<;>lia);rw [eF,<-hlen];refine⟨.ref s.heap.objs.size,_,I.laid (t':=s.toks) (o:=.lst (cutV xs lo hi)) (λ b ob q=>rf _ q) (rB _) ?_,rfl,q _ (I.hok.fresh (rB _))⟩;exact⟨rP (gX xs lo hi) hz,_,0,(r.drop (HT.sIx xs.length 0 lo)).take (HT.sIx xs.length xs.length hi-HT.sIx xs.length 0 lo),rF _ rfl⟩
def flatV:V->Bool
 | .non=>true
 | .bl _=>true
 | .int _=>true
 | .str _=>true
 |_=>false
def eqV:V->V->Bool
 | .non,.non=>true
 | .bl a,.bl b=>a==b
 | .bl a,.int b=>(if a then 1 else 0)==b
 | .int a,.bl b=>a==(if b then 1 else 0)
 | .int a,.int b=>a==b
 | .str a,.str b=>a==b
 |_,_=>false
theorem ey {A:vX}{y:V}{u:vS}(ry:RelV y u)(rx:RelV x v)(fy:flatV y=true)(fx:flatV x=true):SeqAt.EqAt A s u v (eqV y x):=by
 cases y with
 |non=>
  cases ry;cases x with
  |non=>cases rx;exact SeqAt.EqAt.same _
  |bl b=>cases rx;exact SeqAt.EqAt.none_bool b
  |int b=>obtain⟨t,rfl⟩:=rx;exact SeqAt.EqAt.none_int b t
  |str b=>obtain⟨t,rfl⟩:=rx;exact SeqAt.EqAt.none_str b t
  |_=>exact absurd (show false=true from fx) rs
 |bl a=>
  cases ry;cases x with
  |non=>cases rx;exact SeqAt.EqAt.bool_none a
  |bl b=>cases rx;exact uX a b
  |int b=>obtain⟨t,rfl⟩:=rx;exact SeqAt.EqAt.bool_int a b t
  |str b=>obtain⟨t,rfl⟩:=rx;exact SeqAt.EqAt.bool_str a b t
  |_=>exact absurd (show false=true from fx) rs
 |int a=>
  obtain⟨t',rfl⟩:=ry;cases x with
  |non=>cases rx;exact SeqAt.EqAt.int_none a t'
  |bl b=>cases rx;exact SeqAt.EqAt.int_bool a t' b
  |int b=>obtain⟨t,rfl⟩:=rx;exact SeqAt.EqAt.int_int a t' b t
  |str b=>obtain⟨t,rfl⟩:=rx;exact SeqAt.EqAt.int_str a t' b t
  |_=>exact absurd (show false=true from fx) rs
 |str a=>
  obtain⟨t',rfl⟩:=ry;cases x with
  |non=>cases rx;exact SeqAt.EqAt.str_none a t'
  |bl b=>cases rx;exact SeqAt.EqAt.str_bool a t' b
  |int b=>obtain⟨t,rfl⟩:=rx;exact SeqAt.EqAt.str_int a t' b t
  |str b=>obtain⟨t,rfl⟩:=rx;exact SeqAt.EqAt.str_str a t' b t
  |_=>exact absurd (show false=true from fx) rs
 |_=>exact absurd (show false=true from fy) rs
theorem aF:dE X (.builtin "len") (λ xs H Q=>∃p ys,xs=[.ref p]/\(SqL X.K H p ys\/SqT X.K H p ys)/\Q (.int ys.length) H):=by
 intro v8 s σ H xs us Q I r h;obtain⟨p,ys,rfl,hq,q⟩:=h;obtain⟨u,rfl,rx⟩:=fo r;cases rx;have hn:=iF;rcases hq with hq|hq
 ·obtain⟨its,r',pl,hz⟩:=I.list hq;have hlen:=r'.length;exact Calls.call_len_list pl.isList (by simp only [rh]<;>lia) ⟨.int ys.length,H,I.tok _,⟨s.toks+1,by rw [rh,hlen]⟩,q⟩
 ·obtain⟨its,r',pl,hz⟩:=I.tuple hq;have hlen:=r'.length;exact len_tuple pl (by simp only [rh]<;>omega) ⟨.int ys.length,H,I.tok _,⟨s.toks+1,by rw [rh,hlen]⟩,q⟩
theorem cb:dE X (.type "list") (λ xs H Q=>∃p ys,xs=[.ref p]/\(SqL X.K H p ys\/SqT X.K H p ys)/\∀l,H l=none->Q (.ref l) (upd H l (.lst ys))):=by
 intro v8 s σ H xs us Q I r h;obtain⟨p,ys,rfl,hq,q⟩:=h;obtain⟨u,rfl,rx⟩:=fo r;cases rx;have fin:∀(its:List vS),Vals ys its->ys.length≤sizeLine->∀(h':vY) (c':Nat),(∀b o',s.heap.get? b=some o'->h'.get? b=some o')->
   h'.get? s.heap.objs.size=some {cls:=.type "list",dict:=none,data:=.seq its.toArray c',slots:=#[]}->EP X v8 σ Q (.ref s.heap.objs.size) {s with heap:=h'}:=λ its r' hz h' c' kp e=>
  ⟨.ref s.heap.objs.size,_,I.laid (t':=s.toks) kp (rB _) (show ObjOk X.prog X.w _ h' _ (.lst ys) from⟨hz,its,c',r',e⟩),rfl,q _ (I.hok.fresh (rB _))⟩
 rcases hq with hq|hq
 ·obtain⟨its,r',pl,hz⟩:=I.list hq;have hlen:=r'.length;obtain⟨o,ho,hc,n,hd⟩:=pl.isList;exact call_list_seq p (.inl rfl) ho hc hd (λ h' c' kp e=>fin its r' hz h' c' kp e) (by simp only [rh]<;>exact tj hlen.symm hz)
 ·obtain⟨its,r',pl,hz⟩:=I.tuple hq;have hlen:=r'.length;obtain⟨o,ho,hc,n,hd⟩:=pl;exact call_list_seq p (.inr rfl) ho hc hd (λ h' c' kp e=>fin its r' hz h' c' kp e) (by simp only [rh]<;>exact tj hlen.symm hz)
theorem bJ:dE X (.type "tuple") (λ xs H Q=>∃p ys,xs=[.ref p]/\((SqL X.K H p ys/\∀l,H l=none->Q (.ref l) (upd H l (.tup ys)))\/(SqT X.K H p ys/\Q (.ref p) H))):=by
 intro v8 s σ H xs us Q I r h;obtain⟨p,ys,rfl,h⟩:=h;obtain⟨u,rfl,rx⟩:=fo r;cases rx;rcases h with⟨hq,q⟩|⟨hq,q⟩
 ·obtain⟨its,r',pl,hz⟩:=I.list hq;have hlen:=r'.length;refine call_tuple_list pl.isList (λ h' kp=>?_) (by simp only [rh]<;>exact tj hlen.symm hz);have I1:Inv X v8 σ H {s with heap:=h'}:=I.kept (t':=s.toks) kp;have I2:Inv X v8 σ (upd H h'.objs.size (.tup ys)) {s with heap:=h'.push {cls:=.type "tuple",data:=.seq its.toArray}}:=
   I1.laid (t':=s.toks) (λ b o e=>rf _ e) (rB _) (show ObjOk X.prog X.w _ _ _ (.tup ys) from⟨hz,its,r',IsTup.new _ _⟩)
  exact⟨.ref h'.objs.size,_,I2,rfl,q _ (I1.hok.fresh (rB _))⟩
 ·obtain⟨its,r',pl,hz⟩:=I.tuple hq;exact call_tuple_same pl ⟨.ref p,H,I,rfl,q⟩
def tyV (K:Frag)(T:String)(x:V)(H:Hp):Prop:=match x with
 | .str _=>T="str"
 | .int _=>T="int"
 | .ref p=>(T="list"/\∃xs,SqL K H p xs)\/(T="tuple"/\∃o,K.lookup p=some o/\o.cls=.type "tuple"/\o.dict=none)\/
   (T="dict"/\((∃kvs,H p=some (.dK kvs))\/∃kvs,H p=some (.dT kvs)))\/(T="set"/\∃S n,H p=some (.set S n))
 |_=>False
theorem oS {T:String}(I:Inv X v8 σ H s)(r:RelV x v)(ty:tyV X.K T x H):
  s.TypeIs v T/\∀a,v=.ref a->∃ob,s.heap.get? a=some ob/\ob.dict=none:=by
 cases x with
 |str z=>
  obtain⟨t,rfl⟩:=r;cases(show T="str" from ty);exact⟨typeIs_str s z t,λ _ e=>nomatch e⟩
 |int i=>
  obtain⟨t,rfl⟩:=r;cases(show T="int" from ty);exact⟨typeIs_int s i t,λ _ e=>nomatch e⟩
 |ref p=>
  cases r;rcases ty with⟨rfl,xs,hq⟩|⟨rfl,o,hk,hc,hd⟩|⟨rfl,hk⟩|⟨rfl,S,n,hk⟩
  ·obtain⟨its,_,pl,_⟩:=I.list hq;refine⟨pl.isList.typeIs,λ a e=>?_⟩;cases e;obtain⟨o,n,e,c,hd,_⟩:=pl;exact⟨o,e,hd⟩
  ·refine⟨⟨o,I.kIn p o hk,hc⟩,λ a e=>?_⟩;cases e;exact⟨o,I.kIn _ o hk,hd⟩
  ·have z:∃o,s.heap.get? p=some o/\o.ExactDict:=by
    rcases hk with⟨kvs,hk⟩|⟨kvs,hk⟩
    ·obtain⟨_,_,_,_,o,_,_,e,ex,_⟩:=I.hok p _ hk;exact⟨o,e,ex⟩
    ·obtain⟨_,_,_,_,o,_,_,e,ex,_⟩:=I.hok p _ hk;exact⟨o,e,ex⟩
   obtain⟨o,e,ex⟩:=z;refine⟨⟨o,e,ex.1⟩,λ a e2=>?_⟩;cases e2;exact⟨o,e,ex.2.1⟩
  ·obtain⟨o,_,_,_,e,ex,_⟩:=I.hok p _ hk;refine⟨⟨o,e,ex.1⟩,λ a e2=>?_⟩;cases e2;exact⟨o,e,ex.2.1⟩
 |_=>exact False.elim ty
def tBM (K:Frag)(T:String)(r:V->List V->Hp->VK->Prop)(to:TE)(t:TA):TE:=λ σ H Q=>to σ H λ x H1=>tyV K T x H1/\t σ H1 λ xs H2=>r x xs H2 Q
variable {o e:vZ}{es:List vZ}{to:TE}{t:TA}{name:Str}{apos cpos:Pos}{T id:String}{r:V -> List V -> Hp -> VK -> Prop}
theorem pR (pa:PlainAttrs T)(slot:Slot T name id)(hty:typeOf (.builtin id)=pure (.type "method_descriptor"))(hm:MtR X id r)(ho:PE X o to)(ha:PA X (e::es) t)
  (hbase:autoParam (attributeBase o name X.env (eval o X.env)=eval o X.env) Z0)
  (hfew:autoParam (((backTo cpos (starEach (e::es) X.env)).all (λ x=> !x.1)&&(backToKw cpos (keywordEach [] X.env)).all (λ x=>x.1.isSome)
   &&decide ((e::es).length+([]:List Keyword).length+(if([]:List Keyword).isEmpty then 0 else 1)<30))=true) Z0)
  (hline:autoParam ((apos.endLine==cpos.line)=true) Z0) (hs:autoParam (starEach (e::es) X.env=(false,eval e X.env)::starEach es X.env) Z0) (hplain:autoParam ((backTo cpos (starEach es X.env)).any (·.1)=false) Z0):
  PE X (.Call (.Attribute o name apos) (e::es) [] cpos) (tBM X.K T r to t):=by
 intro v8 s σ H Q I h;refine wpAny_Call_method_late hbase hfew hline rfl (thn (ho v8 s σ H _ I h) λ v s1 z9=>?_);obtain⟨x,H1,I1,r1,ty,q1⟩:=z9;obtain⟨h1,h2⟩:=oS I1 r1 ty;refine⟨T,id,pa,slot,hty,h1,h2,?_⟩;have hA:=ha cpos v8 s1 σ H1 _ I1 q1;rw [hs] at hA ⊢;refine Calls.callWith_builtin (by show(false||(backTo cpos (starEach es X.env)).any (·.1))=false;rw [hplain]<;>rfl) (uY ?_);exact thn hA λ us s2 z9=>by obtain⟨vs,H2,I2,r2,q2⟩:=z9;exact hm v8 s2 σ H2 x vs v us Q I2 r1 r2 q2
end
def MtM (X:Cx)(id:String)(r:V->List V->Hp->VK->Prop):Prop:=
 ∀(v8:List (vR×v1)) (s:vT) (σ:St) (H:Hp) (x:V) (xs:List V) (v:vS) (us:List vS) (Q:VK),Inv X v8 σ H s->RelV x v->Vals xs us->r x xs H Q->
  wpAny (model X.prog X.w) X.A (call (.builtin id) (v::us)) (EP X v8 σ Q) X.xe s
theorem Vals.one (h:Vals [x] us):∃u,us=[u]/\RelV x u:=by
 cases h with
 |cons r q=>
  cases q;exact⟨_,rfl,r⟩
theorem Vals.rep (h:Vals xs us):∀k:Nat,Vals (List.replicate k xs).flatten (List.replicate k us).flatten
 |0=>.nil
 |k+1=>by
  rw [sW,sW,uf,uf];exact Vals.append h (Vals.rep h k)
theorem fh (its:List vS):∀(k:Nat) (acc:List vS),
  List.foldl (λ x1 x2=>x1++x2) acc.toArray (List.replicate k its.toArray)=(acc++(List.replicate k its).flatten).toArray
 |0,acc=>by simp
 |k+1,acc=>by
  have e:acc.toArray++its.toArray=(acc++its).toArray:=Z6;have e2:(acc++its)++(List.replicate k its).flatten=acc++(List.replicate (k+1) its).flatten:=by
   rw [sW,uf,uM]
  rw [<-e2,<-fh its k (acc++its),<-e,sW,List.foldl_cons]
section
variable {X:Cx}{v8:List (vR × v1)}{σ:St}{H:Hp}{s:vT}{l b:vR}{xs ys zs:List V}
theorem Inv.lset {n:Nat}{f:Array vS->Array vS}(I:Inv X v8 σ H s)(hH:H l=some (.lst xs))
  (e:s.heap.get? l=some {cls:=.type "list",data:=.seq its.toArray n}) (hf:f its.toArray=its'.toArray) (hv:Vals ys its') (hz:ys.length≤sizeLine):
  Inv X v8 σ (upd H l (.lst ys)) {s with heap:=s.heap.update l (Obj.mapSeq f),toks:=t'}:=by
 have q:=PySem.IsL.update e f;rw [hf] at q;refine I.write (x:=l) (e:=l) (by rw [hH];exact trivial) (.inl rfl) (λ b' u hb hu=>(rp s.heap (Obj.mapSeq f) (sJ hb)).trans hu) ⟨_,q⟩ ?_;exact⟨hz,its',_,hv,q⟩
theorem Inv.lnew (I:Inv X v8 σ H s)(hv:Vals ys its)(hz:ys.length≤sizeLine):
  Inv X v8 σ (upd H s.heap.objs.size (.lst ys)) {s with heap:=s.heap.push {cls:=.type "list",data:=.seq its.toArray},toks:=t'}:=
 I.laid (λ _ _ q=>rf _ q) (rB _) ⟨hz,its,0,hv,rF _ rfl⟩
theorem Inv.fresh (I:Inv X v8 σ H s):H s.heap.objs.size=none:=I.hok.fresh (rB _)
theorem Inv.lstM (I:Inv X v8 σ H s)(hH:H l=some (.lst xs)):xs.length≤sizeLine/\∃(its:List vS) (n:Nat),Vals xs its/\xs.length=its.length/\s.heap.get? l=some {cls:=.type "list",data:=.seq its.toArray n}:=by
 obtain⟨z,its,n,r,e⟩:=I.hok l _ hH;exact⟨z,its,n,r,r.length,e⟩
theorem gu {n:Nat}(h:n≤sizeLine):Builtin.List.listTooLong n=false:=by
 unfold Builtin.List.listTooLong;exact sf (Nat.not_lt.mpr h)
end
section
variable {X:Cx}
def mE:V->List V->Hp->VK->Prop:=λ x vs H Q=>∃l xs y,x=.ref l/\vs=[y]/\H l=some (.lst xs)/\xs.length<sizeLine/\Q .non (upd H l (.lst (xs++[y])))
theorem eP:MtM X "list.append" mE:=by
 intro v8 s σ H x vs v us Q I rx rv h;obtain⟨l,xs,y,rfl,rfl,hH,hz,q⟩:=h;cases rx;obtain⟨u,rfl,ru⟩:=rv.one;obtain⟨z,its,n,r,hl,e⟩:=I.lstM hH;refine call_meets F.slot_list_append ⟨_,e,rfl⟩ F.entry_list_append (F.args_list_append_2 _ _) (PySem.list_append l its.toArray n u (by rw [rh];exact rP (uQ hl.symm) (vv hz))) ⟨e,?_⟩;refine⟨.non,_,I.lset (its':=its++[u]) hH e Z6 (r.append (.cons ru .nil)) ?_,rfl,q⟩;rw [rq,List.length_singleton]
 assumption
def nO:V->List V->Hp->VK->Prop:=λ x vs H Q=>∃l b xs zs,x=.ref l/\vs=[.ref b]/\H l=some (.lst xs)/\H b=some (.lst zs)/\xs.length+zs.length≤sizeLine/\Q .non (upd H l (.lst (xs++zs)))
theorem jI:MtM X "list.extend" nO:=by
 intro v8 s σ H x vs v us Q I rx rv h;obtain⟨l,b,xs,zs,rfl,rfl,hH,hB,hz,q⟩:=h;cases rx;obtain⟨u,rfl,ru⟩:=rv.one;cases ru;obtain⟨z,its,n,r,hl,e⟩:=I.lstM hH;obtain⟨z2,its2,n2,r2,hl2,e2⟩:=I.lstM hB;have hsz:its.toArray.size+its2.toArray.size≤sizeLine:=by rw [rh,rh];lia
 have hlong:¬(!its.toArray.isEmpty&&Builtin.List.listTooLong (its.toArray.size+its2.toArray.size))=true:=by
  rw [gu hsz,Bool.and_false];exact rs
 refine call_meets F.slot_list_extend ⟨_,e,rfl⟩ F.entry_list_extend (F.args_list_extend_2 _ _)
  (AutoSeq1.list_extend_list_list_0 l its.toArray n b its2.toArray n2 hlong (by rw [rh];exact tj hl.symm z) (tW hsz)) ⟨e,e2,?_⟩
 refine⟨.non,_,I.lset (its':=its++its2) hH e Z6 (r.append r2) ?_,rfl,q⟩;rw [rq]
 assumption
def pA:R2:=λ x y H Q=>∃l b xs zs,x=.ref l/\y=.ref b/\H l=some (.lst xs)/\H b=some (.lst zs)/\xs.length+zs.length≤sizeLine/\∀p,H p=none->Q (.ref p) (upd H p (.lst (xs++zs)))
theorem aO:OpR X (binaryOp .Add) pA:=by
 intro v8 s σ H x y v u Q I rx ry h;obtain⟨l,b,xs,zs,rfl,rfl,hH,hB,hz,q⟩:=h;cases rx;cases ry;obtain⟨z,its,n,r,hl,e⟩:=I.lstM hH;obtain⟨z2,its2,n2,r2,hl2,e2⟩:=I.lstM hB;refine PySem.P.add_list e e2 ?_ (by rw [rh,rh];omega);have ea:its.toArray++its2.toArray=(its++its2).toArray:=Z6;rw [ea];exact⟨.ref _,_,I.lnew (t':=s.toks) (r.append r2) (by rw [rq];assumption),rfl,q _ I.fresh⟩
def qN:R2:=λ x y H Q=>∃l k xs,x=.ref l/\y=.int k/\H l=some (.lst xs)/\-(2^63)≤k/\k<2^63/\xs.length*k.toNat≤sizeLine/\
 ∀p,H p=none->Q (.ref p) (upd H p (.lst (List.replicate k.toNat xs).flatten))
theorem mf {α:Type}(xs:List α)(k:Nat):(List.replicate k xs).flatten.length=k*xs.length:=by
 induction k with
 |zero=>simp
 |succ k ih=>rw [sW,uf,rq,ih,Nat.succ_mul,Nat.add_comm]
theorem dt:OpR X (binaryOp .Mult) qN:=by
 intro v8 s σ H x y v u Q I rx ry h;obtain⟨l,k,xs,rfl,rfl,hH,h1,h2,hz,q⟩:=h;cases rx;obtain⟨t,rfl⟩:=ry;obtain⟨z,its,n,r,hl,e⟩:=I.lstM hH;have hlen:its.toArray.size*k.toNat≤sizeLine:=by rw [rh,<-hl];exact hz
 have hcap:¬its.toArray.size*k.toNat>(2^63-1)/8:=by
  have:(sizeLine:Nat)≤(2^63-1)/8:=Z9;lia
 have hfit:¬(!Builtin.List.listFitsIndex k)=true:=by
  rw [fitsIndex_both h1 h2];exact rs
 have hlong:¬Builtin.List.listTooLong (its.toArray.size*k.toNat)=true:=by
  rw [gu hlen];exact rs
 have hnew:List.foldl (λ x1 x2=>x1++x2) #[] (List.replicate (if its.toArray.isEmpty=true then 0 else k.toNat) its.toArray)=(List.replicate k.toNat its).flatten.toArray:=by
  have f0:∀m:Nat,List.foldl (λ x1 x2=>x1++x2) #[] (List.replicate m its.toArray)=(List.replicate m its).flatten.toArray:=λ m=>by
   have:=fh its m [];rw [List.nil_append] at this;exact this
  rw [f0];cases its with
  |nil=>simp
  |cons a r'=>rw [rO Z6]
 refine wpAny_binaryOp_repeat_ref (T:="list") (U:="int") Z9 ⟨_,e,rfl⟩ (λ s'=>typeIs_int s' k t) noFill_list_mul F.fills_int_mul F.slot_int_rmul repeat_list F.slot_int_index.lookup
  (call_meets F.slot_int_rmul (typeIs_int s k t) F.entry_int_rmul (F.args_int_rmul_2 _ _) (int___rmul___int_list k t l its.toArray n)
   ⟨e,rfl,⟨_,e,rfl⟩,call_meets F.slot_list_mul ⟨_,e,rfl⟩ F.entry_list_mul (F.args_list_mul_2 _ _) (AutoListH.list___mul___list_int_3 l its.toArray n k t hfit hcap hlong) ⟨e,?_⟩⟩)
 rw [hnew];exact⟨.ref _,_,I.lnew (t':=s.toks) (r.rep k.toNat) (by rw [mf,sY];exact hz),rfl,q _ I.fresh⟩
end
section
variable {prog:vU}{w:vV}{A:vX}{E:vS -> vT -> Prop}{s:vT}
set_option maxRecDepth 100000 in
end
section
variable {X:Cx}
end
end L2
namespace Att
open PySem PySem.W PySem.Calls PyProof.Rows
variable {h:vY}{P:Params}
theorem dH:∀(ns:List Int) (vs:List vS),WellAll P h vs (ns.map WData.int)->IntsAre vs ns:=by
 intro ns
 induction ns with
 |nil=>
  intro vs w;rw [List.map_nil] at w;cases w;exact .nil
 |cons n ns ih=>
  intro vs w;rw [vH] at w;cases w with
  |cons a b=>
   cases a;exact .cons _ _ (ih _ b)
theorem jV {l:OpenLaw}{n:Nat}(hn:l.most=some n){args:List WData}{vals:List vS}
  (hpre:l.row.toRowW.claim.pre args=true) (hwl:WellAll P h vals args):
  ∃a vs ns,vals=[Value.ref a]/\args=[WData.list (ns.map WData.int)]/\h.get? a=some {cls:=.type "list",data:=.seq vs.toArray}/\IntsAre vs ns/\ns.length≤n:=by
 have hsh:WShape.hasAll [] args [.list .int]=true:=(pre_splitW hpre).1;have hc:l.pre.holds [] {args:=args}=true:=(pre_splitW hpre).2;obtain⟨d,r,rfl,h1,h2⟩:=hasAllW_cons hsh;obtain rfl:=hasAllW_nil h2;obtain⟨xs,rfl,h3⟩:=hasW_list h1;obtain⟨ns,rfl⟩:=items_int h3;have hlen:ns.length≤n:=by
  unfold OpenLaw.pre at hc;have h4:(WTm.not (.lt (.lit (.int (n:Int))) (.len (.arg 0)))).holds [] {args:=[.list (ns.map .int)]}=true:=by
   have h4:=(holds_andW hc).1;rw [hn] at h4;exact h4
  have h5:=condW_of h4 (w_not (w_lt w_lit (w_len_list (w_arg rfl))));rw [rg] at h5;refine uS λ q=>?_
  have q':(n:Int)<((ns.length:Nat):Int):=Z4
  first
   |(rw [rn q'] at h5;exact absurd h5 Z9)
   |(simp at h5;omega)
 cases hwl with
 |cons w1 w2=>
  cases w2;cases w1 with
  |list ho hall=>exact⟨_,_,ns,rfl,rfl,ho,dH ns _ hall,hlen⟩
theorem jM (l:OpenLaw)(args:List WData):l.row.toRowW.claim.post args (.bool true) args=true:=
 postW_of (r:=l.row.toRowW) (X:=(true==true))
  (show WShape.has [] (.bool true) .bool=true by first|rfl|decide|simp [WShape.has,WShape.arms,WShape.armsAll])
  (show(WTm.eq .res (.lit (.bool true))).value [] {args:=args,res:=some (.bool true),after:=args}=some (.bool (true==true)) from w_eq_bool (w_res rfl) w_lit) rfl
theorem attach_call {l:OpenLaw}{n:Nat}{q:vU}{loose:List Str}{XP:(Str->Option vS)->vY->Prop}{YP:vV->vY->Prop}{d:DefRec}
  (hn:l.most=some n) (hdf:d.params.defaults=[])
  (call:∀(w:vV) (s₀ s₁:vT) (mg mb:Str->Option vS) (fa:vR) (o:v1) (pm cd doc:vS) (a:vR) (vs:List vS) (ns:List Int),
   Ground q loose [] XP w s₀ mg mb s₁.heap->YP w s₁.heap->
   s₁.heap.get? fa=some o->o.data=.func (docDef d.name d.params d.body d.scope pm cd doc)->s₁.heap.CodeRec cd d.name->mg d.name=some (.ref fa)->
   s₁.heap.get? a=some {cls:=.type "list",data:=.seq vs.toArray}->IntsAre vs ns->ns.length≤n->s₁.gens=#[]->
   codeAny (model l.prog w) callerA (.call (.ref fa) ⟨[.ref a],[]⟩) (λ r s'=>r=.ok (.ret (.bool true))/\OldK s₁.heap s'.heap/\s'.os=s₁.os/\AllBare s'.gens) s₁):
  WalkO q loose XP YP l.row.toRowW d [] (λ f vs=>PySem.call f vs):=by
 intro w s₀ s₁ mg mb G Y fa o pm cd doc dV kV ho hd hcd hD hmg hg args vals as hpre hlay hrd hwl hlo;obtain rfl:dV=.none:=Dflts.none hD hdf;obtain rfl:kV=.none:=Dflts.noKw hD;obtain⟨a,vs,ns,rfl,rfl,hobj,hints,hlen⟩:=jV hn hpre hwl;refine enter_call (codeAny_mono (call w s₀ s₁ mg mb fa o pm cd doc a vs ns G Y ho (fd_plain hd) hcd hmg hobj hints hlen hg) λ r s' hq=>?_);obtain⟨rfl,h2,h3,h4⟩:=hq;exact⟨.inl ⟨.bool true,.bool true,[],rfl,λ _=>rfl,.bool true,jM l _,λ _=>⟨List.Pairwise.nil,λ _ hm=>(nomatch hm)⟩⟩,h2,h3,h4⟩
section
variable {prog:vU}{w:vV}{A:vX}{E:vS -> vT -> Prop}{s:vT}{K:Frag}
end
end Att
namespace L2
open PySem PySem.Spec PyProof.Rows
variable {fd:vW}{A:Prop}{sp:Sp}{Q:VK}{K:Frag}{a b:Int}{d f:vR}{qual x y:Str}{N ps:List Str}{g:TG}{k:Nat}{pos py spos:Pos}{scope:Scope}{X:Cx}{te:TE}{H H1:Hp}{tt:TT}{σ:St}{st:v7}
theorem jJ {vs:List vS}{ns:List Int}(h:IntsAre vs ns):Vals (ns.map V.int) vs:=by
 induction h with
 |nil=>exact .nil
 |cons n t _ ih=>exact .cons ⟨t,rfl⟩ ih
noncomputable def aZ (s:v7) (j:Nat):v7:=match s with
 | .ClassDef _ _ _ body _ _ _ _ _ _ _=>body.getD j (.Pass ⟨0,0,0,0⟩)
 |_=>.Pass ⟨0,0,0,0⟩
noncomputable def aP (s:v7):Arguments:=match s with
 | .FunctionDef _ a _ _ _ _ _ _ _ _=>a
 |_=>{posonlyargs:=[],args:=[],vararg:=none,kwonlyargs:=[],kw_defaults:=[],kwarg:=none,defaults:=[]}
noncomputable def aL (s:v7):List v7:=match s with
 | .FunctionDef _ _ b _ _ _ _ _ _ _=>b
 |_=>[]
noncomputable def aj (s:v7):Scope:=match s with
 | .FunctionDef _ _ _ _ _ _ sc _ _ _=>sc
 |_=>{kind:=.function,names:=[],isGenerator:=false,isCoroutine:=false}
abbrev CX0:CXT:=λ _ _ _ _ _ _=>False
abbrev E0:XK:=λ _ _ _=>False
theorem aw:bc CX0 X E0:=λ _ _ _ _ _ _ _ h=>h.elim
structure Fun (K:Frag)(x qual:Str)(st:v7)(f:vR)(fd:vW):Prop where
 ex:∃(oc:vS) (od:Option vR) (kV doc pm:vS) (an:Option vR) (v9 ct:vS) (osl:Array (Option vS)),
  fd=fnOf x qual (aP st) (aL st) (aj st) .none kV doc pm an v9 ct/\K.lookup f=some ⟨oc,od,.func fd,osl⟩/\codeIn K v9 qual=true
 kp:keepIn K (.ref f)=true
section
variable {P:vU}{w:vV}{K:Frag}{mg:Str -> Option vS}{base:vY}
theorem Fun.ok (F:Fun K x qual st f fd)(S:FnScope N ps (aj st))
  (hbody:∀(v9:vS) (A:vX) (outer:List Env) (s:vT) (H:Hp) (vs:List V) (Q:VK) (E:XK),Room k (A.deeper (envOfC qual (aj st) s.heap.objs.size f v9))->sp vs H Q E->
   let X:=(cxOf CX0 P w K mg base N qual (aj st) f v9 A outer s H E).nox;∃t,PSs X (aL st) t/\t {nx:=λ _ H'=>Q .non H',rt:=Q} (start N vs) H) (len:autoParam (∀vs H Q E,sp vs H Q E->vs.length=ps.length) ZV):FnOk P w K mg base CX0 (k+1) f fd ps sp:=by
 obtain⟨oc,od,kV,doc,pm,an,v9,ct,osl,rfl,lk,hcd⟩:=F.ex;refine gE lk hcd S len λ A outer s H vs Q E hr hsp=>?_
 obtain⟨t,h,q⟩:=hbody v9 A outer s H vs Q E hr hsp;exact⟨t,h.nox,q⟩
theorem fun_mk {oc:vS}{od an:Option vR}{osl:Array (Option vS)}{kV doc pm v9 ct:vS}(l:K.lookup f=some ⟨oc,od,.func (fnOf x qual (aP st) (aL st) (aj st) .none kV doc pm an v9 ct),osl⟩)
  (c:codeIn K v9 qual=true) (k:keepIn K (.ref f)=true):Fun K x qual st f (fnOf x qual (aP st) (aL st) (aj st) .none kV doc pm an v9 ct):=⟨⟨oc,od,kV,doc,pm,an,v9,ct,osl,rfl,l,c⟩,k⟩
end
section
variable {X:Cx}
theorem pv (i:Nat)(hN:autoParam (X.N[i]?=some x) Z0)(hv:autoParam (Vis X.env.scope x) ZT)(hd:autoParam ((x==("__debug__":Str))=false) ZZ)
  (hcd:autoParam ((x==("__classdict__":Str))=false) ZZ):PE X (.Name x pos) (d9 i):=lq hN hv hd hcd
end
theorem aW {B:Prop}(h:B):if false=true then A else B:=by
 rw [rO rs];exact h
theorem bh {B:Prop}(h:A):if true=true then A else B:=by
 rw [se rfl];exact h
theorem aT {c B:Prop} [Decidable c] (h1:c->A)(h2:¬c->B):if c then A else B:=by
 by_cases h:c
 ·rw [se h];exact h1 h
 ·rw [rO h];exact h2 h
def Same (H H':Hp):Prop:=∀b o,H b=some o->H' b=some o
theorem Same.refl (H:Hp):Same H H:=λ _ _ h=>h
theorem Same.trans {H2:Hp}(a:Same H H1)(b:Same H1 H2):Same H H2:=λ c o h=>b c o (a c o h)
def kT (i:Nat)(t:TE):TS:=λ D σ H=>t σ H λ v H1=>D.nx (σ.set i (some v)) H1
section
variable {X:Cx}
theorem bB:dE X (.builtin "isinstance") (λ xs H Q=>∃x c t b,xs=[x,.ty c]/\TyOf X.K H x t/\kitOne X.K t (.type c)=some b/\Q (.bl b) H):=by
 intro v8 s σ H xs us Q I r h;obtain⟨x,c,t,b,rfl,ty,e,q⟩:=h;obtain⟨u,v,rfl,ru,rv⟩:=ot r;cases rv;exact jQ I ru ty e λ tk=>⟨.bl b,H,I.tok tk,rfl,q⟩
end
noncomputable def aD (X:Cx) (N:List Str) (scope:Scope) (cl:List (Str×vR)) (fp:List vR) (s:vT) (H:Hp):Cx where
 prog:=X.prog
 w:=X.w
 K:=X.K
 mg:=X.mg
 base:=X.base
 A:=X.A
 N:=N
 s₀:=s
 H₀:=H
 env:=compEnvC scope cl s.heap.objs.size X.env
 outer:=X.stack
 stack:=X.stack
 ex:=fp
 fn:=λ _=>false
 calm:=X.calm
 pn:=[]
 xe:=λ _ _=>False
def cap (js:List (Option Nat))(σ:St):St:=js.map λ o=>match o with
 |none=>none
 |some j=>(σ[j]?).getD none
structure Caps (X:Cx)(N:List Str)(scope:Scope)(cl:List (Str×vR))(js:List (Option Nat)):Prop where
 kind:scope.kind=.function
 nocell:∀x∈scope.names,x.2≠ .cell
 names:∀x∈scope.names,x.2=.local->scope.names.lookup x.1=some .local
 clos:closureFor scope X.env=pure cl
 sub:∀x c,cl.lookup x=some c->X.env.cells.lookup x=some c
 has:∀x,((relabel scope X.env).names.lookup x=some .cell\/(relabel scope X.env).names.lookup x=some .free)->∃c,cl.lookup x=some c
 len:js.length=N.length
 slot:∀(i:Nat) (x:Str) (j:Nat),N[i]?=some x->js[i]?=some (some j)->X.N[j]?=some x/\X.env.scope.names.lookup x=some .cell/\(relabel scope X.env).names.lookup x=some .cell/\∀c,X.env.cells.lookup x=some c->cl.lookup x=some c
section
variable {X:Cx}{v8:List (vR × v1)}{σ:St}{H:Hp}{s:vT}{N:List Str}{scope:Scope}{cl:List (Str × vR)}{js:List (Option Nat)}{fp:List vR}
theorem eY {h':vY}{t':Nat}{m:Str->Option vS}(I:Inv X v8 σ H s)(C:Caps X N scope cl js)
  (hf:∀b∈fp,FpOk X v8 H b) (wa:∀b∈fp,b<s.heap.objs.size) (hn:h'.Ns s.heap.objs.size m) (hk:∀b o,s.heap.get? b=some o->h'.get? b=some o):
  Inv (aD X N scope cl fp s H) [] (cap js σ) H {s with heap:=h',toks:=t'}:=by
 have sub:∀{x:Str} {c:vR},(aD X N scope cl fp s H).env.cells.lookup x=some c->X.env.cells.lookup x=some c:=λ {x c} e=>C.sub x c e
 refine⟨⟨I.ok.mod,C.kind,I.ok.glob,I.ok.blt,rB _,λ x y c e1 e2=>I.ok.inj x y c (sub e1) (sub e2),λ x hx=>C.has x hx,λ x c e _=>(by cases e),I.qt,I.ok.frames,.inl rfl,
  λ b hb=>⟨rL (wa b hb),λ x c e=>(hf b hb).2.2.2.2.1 x c (sub e)⟩,I.bs,rP I.ok.bsz I.sz,λ b o e hb=>?_,λ b hb hs=>?_,I.stack,I.stkFree⟩,
  rfl,I.bare,Un.kept hk,⟨m,hn,λ i x v h1 h2 h3=>?_⟩,λ x c e=>?_,I.hok.fresh (rB _),λ x c e=>I.freeC x c (sub e),λ p hp=>?_,I.hok.kept hk,by unfold cap;rw [rg];exact C.len⟩
 ·rcases(hf b hb).2.2.2.1 with z|z
  ·exact I.ok.noex b o e z
  ·exact absurd (rj (rk e) (rP I.ok.bsz z)) (su _)
 ·rcases rY.mp (I.stkSub b hs) with z|z
  ·exact(hf b hb).2.1 z
  ·exact(hf b hb).2.2.1 z
 ·unfold cap at h2;rw [si] at h2;cases ej:js[i]? with
  |none=>rw [ej] at h2;cases h2
  |some o=>
   rw [ej] at h2;cases o with
   |none=>cases h2
   |some j=>
    have h2':(σ[j]?).getD none=some v:=rH h2;obtain⟨hj1,hk1,hk2,hc⟩:=C.slot i x j h1 ej;have hj2:σ[j]?=some (some v):=by
     cases e:σ[j]? with
     |none=>rw [e] at h2';cases h2'
     |some w'=>rw [e] at h2';exact sv some h2'
    obtain⟨mo,hno,hl⟩:=I.loc;obtain⟨u,r,l⟩:=hl j x v hj1 hj2 (.inr (.inl hk1));refine⟨u,r,?_⟩;rcases l with⟨q,_⟩|⟨_,c,ec,o,ho,hd⟩
    ·have q':X.env.scope.names.lookup x=some .local:=q;rw [hk1] at q';cases q'
    ·exact .inr ⟨.inl hk2,c,hc c ec,o,hk c o ho,hd⟩
 ·obtain⟨v,o,ho,hd⟩:=I.cell x c (sub e);exact⟨v,o,hk c o ho,hd⟩
 ·exact absurd (show p∈([]:List (vR×v1)) from hp) Z6
theorem cW {pins':List (vR×v1)}{σ':St}{H':Hp}{s':vT}(I:Inv X v8 σ H s)(hf:∀b∈fp,FpOk X v8 H b)(I':Inv (aD X N scope cl fp s H) pins' σ' H' s'):Inv X v8 σ H' s':=
 I.call' (ch:=fp) I'.os I'.base I'.hok I'.bare λ b hb=>⟨(hf b hb).2.2.2.1,(hf b hb).2.1,(hf b hb).2.2.2.2.1,(hf b hb).2.2.2.2.2⟩
end
def iQ (js:List (Option Nat))(wi:TI)(g:TG)(te:TE):TE:=λ σ H Q=>wi σ H λ J H1=>∀l,H1 l=none->∃W:Nat->Nat->List V->St->Hp->Prop,
 (∃m,W 0 m [] (cap js σ) (upd H1 l (.lst [])))/\∀i m ys σ' H',W i m ys σ' H'->
  (J.stop i H'/\Q (.ref l) H')\/(J.go i H'/\∀x H2,J.yld i H' x H2->g x σ' H2 λ σ3 H3=>te σ3 H3 λ y H4=>
   H4 l=some (.lst ys)/\ys.length<sizeLine/\∃m',m'<m/\W (i+1) m' (ys++[y]) σ3 (upd H4 l (.lst (ys++[y]))))
def dJ (js:List (Option Nat))(wi:TI)(g:TG)(tt:TT)(te:TE):TE:=λ σ H Q=>wi σ H λ J H1=>∀l,H1 l=none->∃W:Nat->Nat->List V->St->Hp->Prop,
 (∃m,W 0 m [] (cap js σ) (upd H1 l (.lst [])))/\∀i m ys σ' H',W i m ys σ' H'->
  (J.stop i H'/\Q (.ref l) H')\/(J.go i H'/\∀x H2,J.yld i H' x H2->g x σ' H2 λ σ3 H3=>tt σ3 H3 λ c H5=>if c=true then te σ3 H5 λ y H4=>
   H4 l=some (.lst ys)/\ys.length<sizeLine/\∃m',m'<m/\W (i+1) m' (ys++[y]) σ3 (upd H4 l (.lst (ys++[y]))) else∃m',m'<m/\W (i+1) m' ys σ3 H5)
def ko (n:Nat)(wi:TI)(g:TG)(tt:TT)(te:TE):TE:=λ σ H Q=>wi σ H λ J H1=>∀l,H1 l=none->∃W:Nat->Nat->List V->St->Hp->Prop,
 (∃m,W 0 m [] (List.replicate n none) (upd H1 l (.lst [])))/\∀i m ys σ' H',W i m ys σ' H'->
  (J.stop i H'/\Q (.ref l) H')\/(J.go i H'/\∀x H2,J.yld i H' x H2->g x σ' H2 λ σ3 H3=>tt σ3 H3 λ c H5=>if c=true then te σ3 H5 λ y H4=>
   H4 l=some (.lst ys)/\ys.length<sizeLine/\∃m',m'<m/\W (i+1) m' (ys++[y]) σ3 (upd H4 l (.lst (ys++[y]))) else∃m',m'<m/\W (i+1) m' ys σ3 H5)
def kH (prog:vU)(w:vV)(A:vX)(elt wb iter:vZ)(cs:List vZ)(scope:Scope)(pos:Pos)(tw:Env->(Bool->vT->Prop)->(vS->vT->Prop)->vT->Prop):Prop:=
 ∀(R:Result->vT->Prop) (s:vT) (it acc:vS) (env:Env) (J:Nat->vT->Prop),(∀n z,J n z->wpAny (model prog w) A (pyNext it) (λ r z1=>match r with
   |none=>R (.ok .next) z1
   |some v=>wpAny (model prog w) A (letOwnedTupleGo wb it v) (λ _ z2=>wpAny (model prog w) A (assign wb env v) (λ _ z3=>tw env (λ b z6=>if b=true then wpAny (model prog w) A (eval elt env) (λ x z4=>
     wpAny (model prog w) A (call (.builtin "list.append") [acc,x]) (λ _ z5=>∃m,m<n/\J m z5)
      (notedBy (model prog w) A env λ e s'=>R (.error e) s') z4) (notedBy (model prog w) A env λ e s'=>R (.error e) s') z6 else∃m,m<n/\J m z6) (notedBy (model prog w) A env λ e s'=>R (.error e) s') z3)
      (notedBy (model prog w) A env λ e s'=>R (.error e) s') z2) (notedBy (model prog w) A env λ e s'=>R (.error e) s') z1) (notedBy (model prog w) A env λ e s'=>R (.error e) s') z)->
  ∀n,J n s->codeAny (model prog w) A (.compLoop (.ListComp elt [⟨wb,iter,cs,0⟩] scope pos) 0 it acc env) R s
def twI (prog:vU)(w:vV)(A:vX)(cnd:vZ):Env->(Bool->vT->Prop)->(vS->vT->Prop)->vT->Prop:=λ env Q E z=>wpAny (model prog w) A (isTrue cnd env (eval cnd env)) Q E z
def tw0:Env->(Bool->vT->Prop)->(vS->vT->Prop)->vT->Prop:=λ _ Q _ z=>Q true z
section
variable {prog:vU}{w:vV}{A:vX}
theorem kI {elt wb iter:vZ}{cs:List vZ}{tw:Env->(Bool->vT->Prop)->(vS->vT->Prop)->vT->Prop}
    (h:(∃cnd,cs=[cnd]/\tw=twI prog w A cnd)\/(cs=[]/\tw=tw0)):kH prog w A elt wb iter cs scope pos tw:=by
  intro R s it acc env J turn n h0
  refine codeAny_loop rfl J (λ k z hz=>?_) n h0
  show wpAny _ _ ((compTurn (.ListComp elt [⟨wb,iter,cs,0⟩] scope pos) 0 it acc env).onRaise (λ q=>do noteFrame q env;theTreesLotGoes q)) _ _ z
  refine wpAny_noted ?_
  rw [compTurn_list]
  refine re (tN (re (rV (turn k z hz) (λ r z1 g1=>?_) λ _ _ q=>q)))
  cases r with
  |none=>exact rA g1
  |some v=>
    refine re (rV g1 (λ _ z2 g2=>re (rV g2 (λ _ z3 g3=>?_) λ _ _ q=>q)) λ _ _ q=>q)
    rcases h with⟨cnd,rfl,rfl⟩|⟨rfl,rfl⟩
    · refine re (wpAny_tests_one (rV g3 (λ b z6 g6=>?_) λ _ _ q=>q))
      cases b with
      |false=>exact rA ⟨rfl,g6⟩
      |true=>exact re (re (rV g6 (λ x z4 g4=>re (rV g4 (λ _ z5 g5=>rA (rA ⟨rfl,g5⟩)) λ _ _ q=>q)) λ _ _ q=>q))
    · exact re (rA (re (re (rV g3 (λ x z4 g4=>re (rV g4 (λ _ z5 g5=>rA (rA ⟨rfl,g5⟩)) λ _ _ q=>q)) λ _ _ q=>q))))
end
def PTw (X:Cx)(tw:Env->(Bool->vT->Prop)->(vS->vT->Prop)->vT->Prop)(tt:TT):Prop:=∀v8 s σ H (Q:Bool->Hp->Prop) (Q':Bool->vT->Prop) (E:vS->vT->Prop),Inv X v8 σ H s->tt σ H Q->(∀b s',(∃H',Inv X v8 σ H' s'/\Q b H')->Q' b s')->tw X.env Q' E s
def ttT:TT:=λ _ H Q=>Q true H
theorem qo:PTw X tw0 ttT:=λ _ _ _ H _ _ _ I h k=>k _ _ ⟨H,I,h⟩
theorem pN {cnd:vZ}(ht:PT X cnd tt)(hx:∀e s,X.xe e s->False):PTw X (twI X.prog X.w X.A cnd) tt:=
 λ v8 s σ H Q Q' E I h k=>rV (ht v8 s σ H Q I h) (λ b s' z=>k b s' z) λ _ _ z=>(hx _ _ z).elim
theorem lg:cap (N.map λ _=>none) σ=List.replicate N.length none:=by
 unfold cap;rw [List.map_map];exact List.map_const'
theorem qp (hkind:scope.kind=.function)(hfree:∀x∈scope.names,x.2≠ .free)(hcell:∀x∈scope.names,x.2≠ .cell)(hnames:∀x∈scope.names,x.2=.local->scope.names.lookup x.1=some .local):Caps X N scope [] (N.map λ _=>none):=by
 have rl:∀x∈(relabel scope X.env).names,x∈scope.names:=by
  intro x hx;obtain⟨⟨n,k⟩,m,e⟩:=List.mem_map.mp hx;have hk:k≠ .free:=hfree _ m;have:(k==NameKind.free)=false:=by simpa using hk
  simp [this] at e;rw [<-e];exact m
 refine⟨hkind,hcell,hnames,closureFor_none hfree,λ x c h=>(by cases h),λ x h=>?_,rg ..,λ i x j h1 h2=>?_⟩
 ·rcases h with h|h
  ·exact absurd rfl (hcell _ (rl _ (rX h)))
  ·exact absurd rfl (hfree _ (rl _ (rX h)))
 ·rw [si] at h2;cases e:N[i]? with
  |none=>rw [e] at h2;cases h2
  |some y=>rw [e] at h2;cases h2
theorem p7 {wi:TI}(h:ko N.length wi g tt te σ H Q):dJ (N.map λ _=>none) wi g tt te σ H Q:=by
 unfold dJ;rw [lg];exact h
section
variable {X:Cx}{N:List Str}{scope:Scope}{cl:List (Str × vR)}{js:List (Option Nat)}{elt cnd wb iter:vZ}{cs:List vZ}{pos:Pos}{wi:TI}{g:TG}{tt:TT}{te:TE}{tw:Env -> (Bool -> vT -> Prop) -> (vS -> vT -> Prop) -> vT -> Prop}
theorem ig {v8:List (vR×v1)}{s:vT}{RR:vS->vR->Result->vT->Prop}
  (hc:X.calm=true) (Cp:Caps X N scope cl js)
  (hi:PI X wb iter wi) (hg:∀fp s H,PG (aD X N scope cl fp s H) wb g) (LR:kH X.prog X.w X.A elt wb iter cs scope pos tw) (ht:∀fp s H,PTw (aD X N scope cl fp s H) tw tt) (he:∀fp s H,PE (aD X N scope cl fp s H) elt te)
  (I:Inv X v8 σ H s) (h:dJ js wi g tt te σ H Q)
  (hR:∀(l C:vR) (H':Hp) (s':vT),Inv X v8 σ H' s'->FpOk X v8 H' C->(∃m,s'.heap.Ns C m)->Q (.ref l) H'->RR (.ref l) C (.ok .next) s'):
  wpAny (model X.prog X.w) X.A (eval iter X.env) (λ x s₁=>wpAny (model X.prog X.w) X.A (pyIter x) (λ it s₂=>wpAny (model X.prog X.w) X.A (newList []) (λ acc s₃=>
   wpAny (model X.prog X.w) X.A (newFunctionEnv scope X.env.globals cl [] X.env.qual none .none (some X.env)) (λ cenv s₄=>
    codeAny (model X.prog X.w) X.A (.compStart (.ListComp elt [⟨wb,iter,cs,0⟩] scope pos) 0 it acc {cenv with scope:=relabel scope X.env}) (RR acc cenv.locals) s₄) X.xe s₃) X.xe s₂) X.xe s₁) X.xe s:=by
 refine thn (hi v8 s σ H _ I h) λ v s1 h1=>thn h1 λ itv s2 h2=>?_
 obtain⟨it,fp,tn,J,H2,e,I2,T,st2,f2,hw⟩:=h2;subst e;have hl2:H2 s2.heap.objs.size=none:=I2.hok.fresh (rB _);obtain⟨W,⟨m0,w0⟩,turn⟩:=hw s2.heap.objs.size hl2;have lt2:∀b∈fp,b<s2.heap.objs.size:=λ b hb=>let⟨o,e,_⟩:=T.obj _ _ st2 b hb;rk e
 refine wpAny_newList ?_;have I3:Inv X v8 σ (upd H2 s2.heap.objs.size (.lst [])) {s2 with heap:=s2.heap.push {cls:=.type "list",data:=.seq ([]:List vS).toArray}}:=
  I2.laid (t':=s2.toks) (λ b u e=>rf _ e) (rB _) ⟨sy _,[],0,.nil,rF _ rfl⟩
 have st3:tn 0 (s2.heap.push {cls:=.type "list",data:=.seq ([]:List vS).toArray}):=T.keep _ _ _ st2 λ b hb o e=>rf _ e
 have lt3:∀b∈fp,b<(s2.heap.push {cls:=.type "list",data:=.seq ([]:List vS).toArray}).objs.size:=λ b hb=>by rw [tU];exact vG (lt2 b hb)
 have f3:∀b∈fp,FpOk X v8 (upd H2 s2.heap.objs.size (.lst [])) b:=λ b hb=>⟨by rw [ao (rL (lt2 b hb))];exact(f2 b hb).1,(f2 b hb).2⟩
 generalize s2.heap.objs.size=l at*;generalize upd H2 l (.lst [])=H3 at*;have hs3:∃s3:vT,s3={s2 with heap:=s2.heap.push {cls:=.type "list",data:=.seq ([]:List vS).toArray}}:=⟨_,rfl⟩;obtain⟨s3,e3⟩:=hs3;rw [<-e3] at I3;rw [<-e3];have st3:tn 0 s3.heap:=by rw [e3];exact st3
 have lt3:∀b∈fp,b<s3.heap.objs.size:=by rw [e3];exact lt3
 clear e3;refine uZ Cp.nocell (by intro y hy;simp at hy) (λ h4 hns hsb=>?_) Cp.kind;have kp:∀b o,s3.heap.get? b=some o->h4.get? b=some o:=λ b o e=>hsb.extBut b o (rL (rk e)) (rf _ e)
 have I4:=eY (N:=N) (t':=s3.toks+([]:List (Str×vS)).length) I3 Cp f3 lt3 hns kp;have st4:tn 0 h4:=T.keep _ _ _ st3 λ b hb o e=>kp b o e
 have stat:∀{H':Hp},(∀b∈fp,H' b=none)->∀b∈fp,FpOk (aD X N scope cl fp s3 H3) [] H' b:=λ hn b hb=>
  ⟨hn b hb,(I4.ok.exf b hb).1,I4.ok.exfs b hb,.inl hb,(I4.ok.exf b hb).2,λ p hp=>absurd (show p∈([]:List (vR×v1)) from hp) Z6⟩
 have loop:codeAny (model X.prog X.w) X.A (.compLoop (.ListComp elt [⟨wb,iter,cs,0⟩] scope pos) 0 (.ref it) (.ref l) (compEnvC scope cl s3.heap.objs.size X.env)) (RR (.ref l) s3.heap.objs.size)
   {s3 with heap:=h4,toks:=s3.toks+([]:List (Str×vS)).length}:=by
  refine LR _ _ _ _ _ (λ n s'=>∃i ys σ' H',Inv (aD X N scope cl fp s3 H3) [] σ' H' s'/\tn i s'.heap/\(∀b∈fp,H' b=none)/\W i n ys σ' H') ?_ m0 ⟨0,[],_,_,I4,st4,λ b hb=>(f3 b hb).1,w0⟩;rintro n s5 ⟨i,ys,σ5,H5,I5,st5,fr5,w5⟩;rcases turn i n ys σ5 H5 w5 with⟨stop,q⟩|⟨go,step⟩
  ·refine thn (T.done (aD X N scope cl fp s3 H3) rfl rfl rfl hc i [] s5 σ5 H5 _ I5 (stat fr5) st5 stop) λ r s6 z9=>?_
   obtain⟨hr,I6⟩:=z9;subst hr;exact hR _ _ _ _ (cW I3 f3 I6) (I3.fpOk (rB _) I6.free) (let⟨m,hn,_⟩:=I6.loc;⟨m,hn⟩) q
  ·refine thn (T.item (aD X N scope cl fp s3 H3) rfl rfl rfl hc i [] s5 σ5 H5 _ I5 (stat fr5) st5 go) λ r s6 z9=>?_
   obtain⟨u,hr,h6⟩:=z9;subst hr;refine thn h6 λ _ s7 z9=>?_
   obtain⟨x,H7,I7,r7,y7,st7,fr7⟩:=z9;have I7':=I7.pinned (stat fr7) (T.obj _ _ st7);refine rV (hg fp s3 H3 _ s7 σ5 H7 x u _ I7' r7 (step x H7 y7)) (λ _ s8 z9=>?_) (λ _ _ z=>False.elim z);obtain⟨σ8,H8,I8,q8⟩:=z9;refine ht fp s3 H3 _ s8 σ8 H8 _ _ _ I8 q8 λ bb s85 z85=>?_
   obtain⟨H85,I85,q85⟩:=z85;cases bb with
   |false=>
    rw [rO rs] at q85 ⊢;obtain⟨m',hm',w9⟩:=q85;refine⟨m',hm',i+1,ys,σ8,H85,I85.unpinned,T.keep _ _ _ st7 λ b hb o e=>(I85.pin (b,o) (rz _ (rz _ (aX hb e)))).1,λ b hb=>?_,w9⟩;obtain⟨o,e,d⟩:=T.obj _ _ st7 b hb;exact(I85.pin (b,o) (rz _ (rz _ (aX hb e)))).2.1
   |true=>
   rw [se rfl] at q85 ⊢;refine rV (he fp s3 H3 _ s85 σ8 H85 _ I85 q85) (λ v s9 z9=>?_) (λ _ _ z=>False.elim z);obtain⟨y,H9,I9,r9,hl9,hz9,m',hm',w9⟩:=z9;refine rV (eP (X:=aD X N scope cl fp s3 H3) _ s9 σ8 H9 (.ref l) [y] (.ref l) [v] (λ z Hz=>Hz=upd H9 l (.lst (ys++[y]))) I9 rfl (.cons r9 .nil) ⟨l,ys,y,rfl,rfl,hl9,hz9,rfl⟩)
    (λ _ s10 ⟨z,Hz,I10,_,eH⟩=>?_) (λ _ _ z=>False.elim z)
   subst eH;refine⟨m',hm',i+1,ys++[y],σ8,_,I10.unpinned,T.keep _ _ _ st7 λ b hb o e=>(I10.pin (b,o) (rz _ (rz _ (aX hb e)))).1,λ b hb=>?_,w9⟩;obtain⟨o,e,d⟩:=T.obj _ _ st7 b hb;exact(I10.pin (b,o) (rz _ (rz _ (aX hb e)))).2.1
 exact codeAny_compStart_list loop (T.self X.A 0 _ _ _ st4 loop)
theorem jc {i:Nat}(hN:X.N.Nodup)(hiy:X.N[i]?=some y)(hy:Loc X.env.scope y)
    (hc:X.calm=true) (Cp:Caps X N scope cl js)
    (hi:PI X wb iter wi) (hg:∀fp s H,PG (aD X N scope cl fp s H) wb g) (LR:kH X.prog X.w X.A elt wb iter cs scope pos tw) (ht:∀fp s H,PTw (aD X N scope cl fp s H) tw tt) (he:∀fp s H,PE (aD X N scope cl fp s H) elt te)
    (hsw:swapsWith (.ListComp elt [⟨wb,iter,cs,0⟩] scope pos) (some (.Name y py)) spos.line X.env=pure true)
    (hs:autoParam (∀x,foldedSetIterable iter X.env x=pure x) ZX) (hf:autoParam (X.fn y=true\/X.env.scope.names.lookup y=some .local) ZW):
    PS X (.Assign [.Name y py] (.ListComp elt [⟨wb,iter,cs,0⟩] scope pos) spos) (kT i (dJ js wi g tt te)):=by
  intro v8 s σ H D I h
  rw [exec_Assign_Name_used _ _ _ _ hsw]
  refine re (tN (re ?_))
  show wpAny _ X.A (do let _<-comprehension (.ListComp elt [⟨wb,iter,cs,0⟩] scope pos) scope X.env _ (newList []) false (eval iter X.env) (some (assign (.Name y py) X.env))) _ _ s
  refine re (rV (wpAny_comprehension_free (use:=some (assign (.Name y py) X.env)) (Q:=λ _ s'=>SP X v8 D .next s') rfl hs Cp.clos Cp.kind Cp.names
    (ig (RR:=λ acc C=>compPost (model X.prog X.w) X.A X.xe (some (assign (.Name y py) X.env)) (λ _ s'=>SP X v8 D .next s') acc C) hc Cp hi hg LR ht he I h ?_)) (λ _ s' hq=>rA (rA hq)) λ _ _ e=>e)
  rintro l C H' s' I' fC ⟨m,hn⟩ q
  show wpAny _ X.A (assign (.Name y py) X.env (.ref l)) _ _ _
  refine wpAny_assign_Name (fD (v:=.ref l) I' hN hiy hy (show RelV (.ref l) (.ref l) from rfl) (λ s2 I2 z9=>?_) hf)
  obtain⟨a,sb,ha⟩:=z9
  have hCa:C≠a:=by
    rcases ha with ha|ha
    · rw [ha];exact fC.2.1
    · exact sJ (fC.2.2.2.2.1 y a ha)
  exact⟨m,hn.sameBut sb hCa,λ h' sb'=>⟨_,H',I2.turned (t':=s2.toks) (λ b o hb e=>(sb'.2 b hb).trans e) fC.1 fC.2.1 fC.2.2.2.1 fC.2.2.2.2.1 fC.2.2.2.2.2,q⟩⟩
theorem lY {i:Nat}(hN:X.N.Nodup)(hiy:X.N[i]?=some y)(hy:Loc X.env.scope y)(hc:X.calm=true)(hkind:scope.kind=.function)(hfree:∀x∈scope.names,x.2≠ .free)(hcell:∀x∈scope.names,x.2≠ .cell)(hnames:∀x∈scope.names,x.2=.local->scope.names.lookup x.1=some .local)(hi:PI X wb iter wi)(hg:∀fp s H,PG (aD X N scope [] fp s H) wb g)(ht:∀fp s H,PT (aD X N scope [] fp s H) cnd tt)(he:∀fp s H,PE (aD X N scope [] fp s H) elt te)(hsw:swapsWith (.ListComp elt [⟨wb,iter,[cnd],0⟩] scope pos) (some (.Name y py)) spos.line X.env=pure true)(hs:autoParam (∀x,foldedSetIterable iter X.env x=pure x) ZX)(hf:autoParam (X.fn y=true\/X.env.scope.names.lookup y=some .local) ZW):
  PS X (.Assign [.Name y py] (.ListComp elt [⟨wb,iter,[cnd],0⟩] scope pos) spos) (kT i (ko N.length wi g tt te)):=
 λ v8 s σ H D I h=>jc hN hiy hy hc (qp hkind hfree hcell hnames) hi hg (kI (.inl ⟨_,rfl,rfl⟩)) (λ _ _ _=>pN (ht _ _ _) λ _ _ z=>z) he hsw hs hf v8 s σ H D I (p7 h)
theorem kg {i:Nat}(hN:X.N.Nodup)(hiy:X.N[i]?=some y)(hy:Loc X.env.scope y)(hc:X.calm=true)(Cp:Caps X N scope cl js)(hi:PI X wb iter wi)(hg:∀fp s H,PG (aD X N scope cl fp s H) wb g)(he:∀fp s H,PE (aD X N scope cl fp s H) elt te)(hsw:swapsWith (.ListComp elt [⟨wb,iter,[],0⟩] scope pos) (some (.Name y py)) spos.line X.env=pure true)(hs:autoParam (∀x,foldedSetIterable iter X.env x=pure x) ZX)(hf:autoParam (X.fn y=true\/X.env.scope.names.lookup y=some .local) ZW):
  PS X (.Assign [.Name y py] (.ListComp elt [⟨wb,iter,[],0⟩] scope pos) spos) (kT i (iQ js wi g te)):=
 λ v8 s σ H D I h=>jc hN hiy hy hc Cp hi hg (kI (.inr ⟨rfl,rfl⟩)) (λ _ _ _=>qo) he hsw hs hf v8 s σ H D I (h)
end
theorem fi {lo:Int}{l:vR}{σ0:St}{R:Hp->Prop}(Pv:Nat->List V->St->Hp->Prop)(h0:Pv 0 [] σ0 (upd H1 l (.lst [])))
  (hs:∀i ys σ H,i<k->Pv i ys σ H->g (.int (lo+(i:Nat))) σ H λ σ3 H3=>te σ3 H3 λ y H4=>H4 l=some (.lst ys)/\ys.length<sizeLine/\Pv (i+1) (ys++[y]) σ3 (upd H4 l (.lst (ys++[y]))))
  (hd:∀ys σ H,Pv k ys σ H->R H) (mg:∀x σ H (A B:St->Hp->Prop),(∀σ' H',A σ' H'->B σ' H')->g x σ H A->g x σ H B) (mt:∀σ H (A B:VK),(∀v H',A v H'->B v H')->te σ H A->te σ H B):
  ∃W:Nat->Nat->List V->St->Hp->Prop,(∃m,W 0 m [] σ0 (upd H1 l (.lst [])))/\∀i m ys σ' H',W i m ys σ' H'->
   ((Itr lo k).stop i H'/\R H')\/((Itr lo k).go i H'/\∀x H2,(Itr lo k).yld i H' x H2->g x σ' H2 λ σ3 H3=>te σ3 H3 λ y H4=>
    H4 l=some (.lst ys)/\ys.length<sizeLine/\∃m',m'<m/\W (i+1) m' (ys++[y]) σ3 (upd H4 l (.lst (ys++[y])))):=by
 refine⟨λ i m ys σ H=>m=k-i/\i≤k/\Pv i ys σ H,⟨k,Z6,sy _,h0⟩,?_⟩;rintro i m ys σ H ⟨rfl,hi,p⟩;by_cases wa:i<k
 ·refine .inr ⟨wa,λ x H' y=>?_⟩;obtain⟨e,y⟩:=y;subst e y;exact mg _ _ _ _ _ (λ σ3 H3 z=>mt _ _ _ _ (λ y H4 z9=>by obtain⟨z1,z2,z4⟩:=z9;exact⟨z1,z2,k-(i+1),tz _ _ wa,rfl,wa,z4⟩) z) (hs i ys σ _ wa p)
 ·have e:i=k:=uB hi (Nat.not_lt.1 wa);subst e;exact .inl ⟨rB _,hd ys σ H p⟩
structure FunD (K:Frag)(x qual:Str)(st:v7)(dV:vS)(f:vR)(fd:vW):Prop where
 ex:∃(oc:vS) (od:Option vR) (kV doc pm:vS) (an:Option vR) (v9 ct:vS) (osl:Array (Option vS)),
  fd=fnOf x qual (aP st) (aL st) (aj st) dV kV doc pm an v9 ct/\K.lookup f=some ⟨oc,od,.func fd,osl⟩/\codeIn K v9 qual=true
 kp:keepIn K (.ref f)=true
theorem FunD.ok {P:vU}{w:vV}{mg:Str->Option vS}{base:vY}{dV:vS}(F:FunD K x qual st dV f fd)(S:FnScope N ps (aj st))
  (hb:∀(v9:vS) (A:vX) (outer:List Env) (s:vT) (H:Hp) (vs:List V) (Q:VK) (E:XK),Room k (A.deeper (envOfC qual (aj st) s.heap.objs.size f v9))->sp vs H Q E->
   let X:=(cxOf CX0 P w K mg base N qual (aj st) f v9 A outer s H E).nox;∃t,PSs X (aL st) t/\t {nx:=λ _ H'=>Q .non H',rt:=Q} (start N vs) H) (len:autoParam (∀vs H Q E,sp vs H Q E->vs.length=ps.length) ZV):FnOk P w K mg base CX0 (k+1) f fd ps sp:=by
 obtain⟨oc,od,kV,doc,pm,an,v9,ct,osl,rfl,lk,hcd⟩:=F.ex;refine gE lk hcd S len λ A outer s H vs Q E hr hsp=>?_
 obtain⟨t,h,q⟩:=hb v9 A outer s H vs Q E hr hsp;exact⟨t,h.nox,q⟩
def oI (P:vU)(w:vV)(h:vY)(d:vR)(a b:Int):Prop:=∃t t':Tok,h.MapOf (intKind P w) d (valueAt [((8:Int),Value.int a t),(16,.int b t')])
theorem at8 (a b:vS):valueAt [((8:Int),a),(16,b)] 8=some a:=rfl
theorem qL (a b:vS):valueAt [((8:Int),a),(16,b)] 16=some b:=rfl
def TabK (K:Frag)(d:vR)(a b:Int):Prop:=(d==sysModules)=false/\∃(t1 t2 t3 t4:Tok) (ep:Nat),K.lookup d=some ⟨.type "dict",none,.dict #[⟨8,.int 8 t1,.int a t2⟩,⟨16,.int 16 t3,.int b t4⟩] ep,#[]⟩
theorem TabK.map {h:vY}(P:vU)(w:vV)(T:TabK K d a b)(X:K.In h):oI P w h d a b:=by
 obtain⟨_,t1,t2,t3,t4,ep,e⟩:=T;refine⟨t2,t4,_,_,ep,X _ _ e,⟨rfl,rfl,rfl⟩,rfl,?_,?_⟩
 ·intro en hen;have hen':en=⟨8,.int 8 t1,.int a t2⟩\/en=⟨16,.int 16 t3,.int b t4⟩:=by simpa using hen
  rcases hen' with rfl|rfl
  ·exact⟨8,intKind_is P w 8 t1,by show(8:Int)=hashInt 8;decide+kernel⟩
  ·exact⟨16,intKind_is P w 16 t3,by show(16:Int)=hashInt 16;decide+kernel⟩
 ·intro k;show findBy Value.isInt _ k=_;unfold findBy valueAt;by_cases h8:k=8
  ·subst h8;simp [Value.isInt]
  ·by_cases h16:k=16
   ·subst h16;simp [Value.isInt]
   ·have e1:¬(8:Int)=k:=λ z=>h8 z.symm
    have e2:¬(16:Int)=k:=λ z=>h16 z.symm
    simp [Value.isInt,e1,e2]
def qJ (P:vU)(w:vV)(d:vR)(a b:Int):HO:=.ext λ h=>oI P w h d a b
def Sq2 (X:Cx)(H:Hp)(d:vR)(a b:Int):Prop:=TabK X.K d a b\/H d=some (qJ X.prog X.w d a b)
section
variable {X:Cx}{v8:List (vR × v1)}{σ:St}{H:Hp}{s:vT}
theorem Inv.map2 (I:Inv X v8 σ H s)(h:Sq2 X H d a b):oI X.prog X.w s.heap d a b:=by
 rcases h with h|h
 ·exact h.map _ _ I.kIn
 ·exact(I.hok d _ h).1
def qY (X:Cx):R2:=λ x y H Q=>∃d i a b,x=.ref d/\y=.int i/\Sq2 X H d a b/\((i=8/\Q (.int a) H)\/(i=16/\Q (.int b) H))
theorem gn:IxR X (qY X):=by
 intro value slice v8 s σ H x y v u Q I rx ry h hs;obtain⟨d,i,a,b,rfl,rfl,hm,hq⟩:=h;cases rx;obtain⟨t,rfl⟩:=ry;obtain⟨t1,t2,hm⟩:=I.map2 hm;rcases hq with⟨rfl,q⟩|⟨rfl,q⟩
 ·exact tail_any hm.typeIs slot_dict_getitem.lookup (wpAny_getItem_of (intKind_is _ _ _ _) hm (at8 _ _) ⟨.int a,H,I.tok _,⟨_,rfl⟩,q⟩) hs
 ·exact tail_any hm.typeIs slot_dict_getitem.lookup (wpAny_getItem_of (intKind_is _ _ _ _) hm (qL _ _) ⟨.int b,H,I.tok _,⟨_,rfl⟩,q⟩) hs
theorem gq:OpR X (compareOp .NotIn) (λ x y H Q=>∃d i a b,x=.int i/\y=.ref d/\TabK X.K d a b/\(i=8\/i=16)/\Q (.bl false) H):=by
 intro v8 s σ H x y v u Q I rx ry h;obtain⟨d,i,a,b,rfl,rfl,hT,hi,q⟩:=h;obtain⟨t,rfl⟩:=rx;cases ry;obtain⟨t1,t2,hm⟩:=hT.map X.prog X.w I.kIn;refine wpAny_notIn_of (intKind_is _ _ i t) hT.1 hm ?_;rcases hi with rfl|rfl
 ·exact⟨.bl false,H,I.tok _,rfl,q⟩
 ·exact⟨.bl false,H,I.tok _,rfl,q⟩
theorem lc (hu:X.A.units+64<cLine):OpR X (compareOp .Eq) (λ x y H Q=>∃(p q:vR) (ns ms:List Int),x=.ref p/\y=.ref q/\SqL X.K H p (ns.map V.int)/\SqL X.K H q (ms.map V.int)/\Q (.bl (decide (ns=ms))) H):=by
 intro v8 s σ H x y v u Q I rx ry h;obtain⟨p,q,ns,ms,rfl,rfl,h1,h2,k⟩:=h;cases rx;cases ry;obtain⟨its,rv,pl,hz⟩:=I.list h1;obtain⟨its2,rv2,pl2,hz2⟩:=I.list h2;exact PySem.W.eq_intsK pl.isList (bZ rv) pl2.isList (bZ rv2) hu ⟨.bl _,H,I,rfl,k⟩
end
end L2
namespace QQ
open PySem
section
variable {M:Model}{A:vX}{E:vS -> vT -> Prop}
variable {nm q nm' q':Str}{C N D N':vR}{bs bm bs' bm':List vS}{hdct hdct':Bool}{sn sn':List Str}{sub sub':List vS}{ab ab':Bool}{col col':Option Bool}{dd dd':Option vR}{k0 k1 k2 k3 k5 j0 j1 j2 j3 j5:Option vS}{newId newId':String}
theorem gK {h:vY}{g:Array GenState}{d:Drawn}{t:Nat}{os:OsState}{e:vR}{oe:v1}{Q:Bool->vT->Prop}
  (hC:h.get? C=some (excClassObj nm q C N bs bm hdct sn sub ab col dd k0 k1 k2 k3 k5 newId)) (hD:h.get? D=some (excClassObj nm' q' D N' bs' bm' hdct' sn' sub' ab' col' dd' j0 j1 j2 j3 j5 newId'))
  (he:h.get? e=some oe) (hcls:oe.cls=.ref C) (hbase:bm'.contains (.type "BaseException")=true) (hm:(Value.ref C::bm).contains (.ref D)=true) (ne:C≠D)
  (hq:Q true ⟨h,g,d,t,os⟩):wpAny M A (excMatches (.ref e) (.ref D)) Q E ⟨h,g,d,t,os⟩:=by
 have hcB:(Value.ref D::bm').contains (.type "BaseException")=true:=by rw [vA,hbase,Bool.or_true]
 have f:=tc_notTuple;unfold excMatches
 repeat (first|(with_reducible refine tG he ?_;rw [hcls])|with_reducible refine tG hD ?_|(with_reducible refine tP hD ?_;rw [hcB])|(with_reducible refine tP hC ?_;rw [hm])|wp_step)
 exact hq
end
end QQ
set_option maxHeartbeats 4000000
namespace L2
open PySem PySem.Spec PyProof.Rows QQ
variable {s s' s1:vT}{fd:vW}{K:Frag}{A:vX}{sp:Sp}{Q:Unit->vT->Prop}{np pos:Pos}{C a b e f:vR}{base h:vY}{qual x y:Str}{N ps:List Str}{vs:Array vS}{k t:Nat}{ob ox:v1}{D:vS->Prop}{σ1:St}{X:Cx}{te:TE}{H H1:Hp}{E:vS->vT->Prop}{P prog:vU}{st:v7}{mg:Str->Option vS}{c:vS}{w:vV}
theorem ObjOk.there {o:HO}(x:ObjOk P w H h a o):∃ob,h.get? a=some ob:=by
 cases o with
 |lst xs=>obtain⟨_,_,_,_,e⟩:=x;exact⟨_,e⟩
 |tup xs=>obtain⟨_,_,_,ob,e,_⟩:=x;exact⟨_,e⟩
 |dK kvs=>obtain⟨_,_,_,_,o,_,_,e,_⟩:=x;exact⟨_,e⟩
 |dT kvs=>obtain⟨_,_,_,_,o,_,_,e,_⟩:=x;exact⟨_,e⟩
 |set S n=>obtain⟨o,_,_,_,e,_⟩:=x;exact⟨_,e⟩
 |ins C dx fs=>obtain⟨_,_,_,e,_⟩:=x;exact⟨_,e⟩
 |own y=>exact x
 |xd fs=>obtain⟨_,⟨_,_,_,e,_⟩,_⟩:=x;exact⟨_,e⟩
 |rng lo hi=>obtain⟨_,_,_,e⟩:=x;exact⟨_,e⟩
 |frz ob u=>obtain⟨e,_⟩:=x;exact⟨_,e⟩
 |tbl ps=>exact⟨_,show h.get? a=some _ from x⟩
 |met f y=>exact⟨_,show h.get? a=some _ from x⟩
 |ext φ=>obtain⟨_,e,_⟩:=x;exact e
theorem HOk.gone (x:HOk P w H h)(e:h.get? a=none):H a=none:=by
 cases q:H a with
 |none=>rfl
 |some u=>
  obtain⟨ob,r⟩:=(x a u q).there;rw [e] at r;cases r
def Bk (h0:vY)(H:Hp)(e:vR)(c:vS):Prop:=BkH H e c/\∀b,c=.ref b->h0.get? b=none
def CXD (D:vS->Prop)(P:vU)(w:vV):CXT:=λ outer H s E e s'=>∃ea cls fp H',e=.ref ea/\s'.os=s.os/\AllBare s'.gens/\Un (frs outer) [] H H' s.heap s'.heap/\HOk P w H' s'.heap/\
 (∃c,D c/\Fly s'.heap ea cls fp c/\Bk s.heap H' ea c)/\(∀b∈fp,s.heap.get? b=none/\H' b=none)/\E cls none H'
abbrev CXE:vU->vV->CXT:=CXD λ _=>True
abbrev CX1:vU->vV->CXT:=CXD λ c=>c=.none
structure NewA (X:Cx)(v8:List (vR×v1))(b:vR):Prop where
 s0:X.s₀.heap.get? b=none
 loc:b≠X.env.locals
 cel:∀x c,X.env.cells.lookup x=some c->c≠b
 pin:∀p∈X.pn++v8,p.1≠b
def BkX (X:Cx)(v8:List (vR×v1))(H:Hp)(e:vR)(c:vS):Prop:=BkH H e c/\∀b,c=.ref b->NewA X v8 b
structure New (X:Cx)(v8:List (vR×v1))(H:Hp)(b:vR):Prop where
 s0:X.s₀.heap.get? b=none
 h:H b=none
 loc:b≠X.env.locals
 cel:∀x c,X.env.cells.lookup x=some c->c≠b
 pin:∀p∈X.pn++v8,p.1≠b
section
variable {X:Cx}{v8:List (vR × v1)}{σ:St}{H H':Hp}{s:vT}
theorem Inv.newA (I:Inv X v8 σ H s)(e:s.heap.get? b=none)(hx:b∉X.ex):NewA X v8 b:=by
 refine⟨?_,λ z=>?_,λ x c ec z=>?_,λ p hp z=>?_⟩
 ·cases q:X.s₀.heap.get? b with
  |none=>rfl
  |some o=>
   obtain⟨o',r⟩:=I.base.there b o q hx;rw [e] at r;cases r
 ·obtain⟨m,⟨o,_,_,ho,_⟩,_⟩:=I.loc;rw [<-z,e] at ho;cases ho
 ·obtain⟨v,o,ho,_⟩:=I.cell x c ec;rw [z,e] at ho;cases ho
 ·have:=(I.pin p hp).1;rw [z,e] at this;cases this
theorem Inv.new (I:Inv X v8 σ H s)(e:s.heap.get? b=none)(n:H' b=none)(hx:b∉X.ex):New X v8 H' b:=
 let a:=I.newA e hx
 ⟨a.s0,n,a.loc,a.cel,a.pin⟩
theorem New.ch (n:New X v8 H b):(b∈X.ex\/X.s₀.heap.get? b=none)/\b≠X.env.locals/\(∀x c,X.env.cells.lookup x=some c->c≠b)/\∀p∈X.pn++v8,p.1≠b:=⟨.inr n.s0,n.loc,n.cel,n.pin⟩
theorem Inv.landed {h':vY}{fp:List vR}(I:Inv X v8 σ H s)(hn:∀b∈fp,New X v8 H b)(k:∀b o,s.heap.get? b=some o->b∉fp->b∉X.stack.filterMap (·.frame)->h'.get? b=some o)
  (sl:∀b o,s.heap.get? b=some o->b∉fp->∃z,h'.get? b=some {o with slots:=z}) (th:∀b o,s.heap.get? b=some o->∃o',h'.get? b=some o'):Inv X v8 σ H {s with heap:=h'}:=by
 have nf:∀b,b∉X.fs->b≠X.env.locals->b∉X.stack.filterMap (·.frame):=λ b h1 h2 z=>by
  rcases rY.mp (I.stkSub b z) with q|q
  ·exact h2 q
  ·exact h1 q
 have tr:∀b u,H b=some u->∀o,s.heap.get? b=some o->h'.get? b=some o:=λ b u e o g=>by
  refine k b o g (λ z=>?_) λ z=>?_
  ·rw [(hn b z).h] at e;cases e
  ·rw [I.stkFree b z] at e;cases e
 refine I.step0 (g':=s.gens) (d':=s.drawn) (t':=s.toks) (ch:=fp) (λ b hb=>(hn b hb).ch) (λ b o h1 h2 h3 g _=>k b o g h3 (nf b h2 h1)) (λ b o _ _ h3 g _=>sl b o g h3) (λ _ _ _ _ n=>n) (λ b o _ g=>th b o g)
  (λ _ _ e=>e) (λ _ _ _ e=>e) (λ b ps e=>⟨#[],by rw [e];simp⟩) (λ m hm=>?_) (λ a o e=>?_) I.bare
 ·obtain⟨o,es,ep,ho,r⟩:=hm;obtain⟨z,q⟩:=sl _ o ho λ y=>(hn _ y).loc rfl
  exact⟨_,es,ep,q,r⟩
 ·refine(I.hok a o e).stay (λ c v hc q=>?_) (λ _ q=>q) λ _ _ q=>q
  rcases hc with z|z
  ·subst z;exact tr c _ e v q
  ·exact tr c _ z v q
theorem Inv.thrown {E:XK}{e:vS}(I:Inv X v8 σ H s)(hx:CXD D X.prog X.w X.stack H s E e s')(hX:X.ex=[]):∃ea cls fp H',e=.ref ea/\Inv X v8 σ H' s'/\(∃c,D c/\Fly s'.heap ea cls fp c/\BkX X v8 H' ea c)/\(∀b∈fp,New X v8 H' b)/\E cls none H':=by
 obtain⟨ea,cls,fp,H',rfl,os,bare,un,hok,⟨c,dc,F,bk,bn⟩,fr,q⟩:=hx;exact⟨ea,cls,fp,H',rfl,I.call' (ch:=[]) os un hok bare (λ b z=>absurd z Z6),⟨c,dc,F,bk,λ b e=>I.newA (bn b e) (by rw [hX];simp)⟩,λ b hb=>I.new (fr b hb).1 (fr b hb).2 (by rw [hX];simp),q⟩
end
theorem aV {scope:Scope}{cd:vS}{outer:List Env}{s₀:vT}{H₀:Hp}{E:XK}:
  bc (CXD D P w) (cxOf (CXD D P w) P w K mg base N qual scope f cd A outer s₀ H₀ E) E:=by
 intro v8 σ H s e s' I hx;obtain⟨ea,cls,fp,H',rfl,I',⟨c,dc,F,bk,bn⟩,fr,q⟩:=I.thrown hx rfl;show wpAny (model P w) _ (leaving _ (.ref ea)) _ _ _;unfold leaving;refine re (land I'.ok.frames I'.stack rfl F λ h' T F' hT f3 f4 f5=>?_);have J:=I'.landed fr f3 f4 f5;refine⟨ea,cls,[ea,T],H',rfl,J.os,J.bare,J.base,J.hok,⟨c,dc,F',bk,λ b e=>(bn b e).s0⟩,λ b hb=>?_,q⟩;rcases rY.mp hb with hb|hb
 ·subst hb;have z:=fr b F.here;exact⟨z.s0,z.h⟩
 ·rw [rJ] at hb;subst hb;refine⟨?_,I'.hok.fresh hT⟩;cases z:s₀.heap.get? b with
  |none=>rfl
  |some o=>
   obtain⟨o',r⟩:=I'.base.there b o z (by simp [cxOf]);exact absurd (rj (rk r) hT) (su _)
theorem nX:bc (CXD D P w) X E0:=by
 intro _ _ _ _ _ _ _ h;obtain⟨_,_,_,_,_,_,_,_,_,_,_,q⟩:=h;exact q.elim
theorem Fun.okE (F:Fun K x qual st f fd)(S:FnScope N ps (aj st))
  (hb:∀(v9:vS) (A:vX) (outer:List Env) (s:vT) (H:Hp) (vs:List V) (Q:VK) (E:XK),Room k (A.deeper (envOfC qual (aj st) s.heap.objs.size f v9))->sp vs H Q E->
   let X:=(cxOf (CXD D P w) P w K mg base N qual (aj st) f v9 A outer s H E);∃t,PSs X (aL st) t/\t {nx:=λ _ H'=>Q .non H',rt:=Q} (start N vs) H) (len:autoParam (∀vs H Q E,sp vs H Q E->vs.length=ps.length) ZV):FnOk P w K mg base (CXD D P w) (k+1) f fd ps sp:=by
 obtain⟨oc,od,kV,doc,pm,an,v9,ct,osl,rfl,lk,hcd⟩:=F.ex;exact gE lk hcd S len λ A outer s H vs Q E hr hsp=>hb v9 A outer s H vs Q E hr hsp
theorem FunD.okE {dV:vS}(F:FunD K x qual st dV f fd)(S:FnScope N ps (aj st))
  (hb:∀(v9:vS) (A:vX) (outer:List Env) (s:vT) (H:Hp) (vs:List V) (Q:VK) (E:XK),Room k (A.deeper (envOfC qual (aj st) s.heap.objs.size f v9))->sp vs H Q E->
   let X:=(cxOf (CXD D P w) P w K mg base N qual (aj st) f v9 A outer s H E);∃t,PSs X (aL st) t/\t {nx:=λ _ H'=>Q .non H',rt:=Q} (start N vs) H) (len:autoParam (∀vs H Q E,sp vs H Q E->vs.length=ps.length) ZV):FnOk P w K mg base (CXD D P w) (k+1) f fd ps sp:=by
 obtain⟨oc,od,kV,doc,pm,an,v9,ct,osl,rfl,lk,hcd⟩:=F.ex;exact gE lk hcd S len λ A outer s H vs Q E hr hsp=>hb v9 A outer s H vs Q E hr hsp
noncomputable abbrev bmV:List vS:=[.type "ValueError",.type "Exception",.type "BaseException",.type "object"]
def ExC (K:Frag)(C:vR):Prop:=excIn K C bmV "ValueError.__new__"=true
theorem dm (c:ExC K C):∃bm N nm q bs hdct sn sub ab col dd k0 k1 k2 k3 k5,K.lookup C=some (excClassObj nm q C N bs bm hdct sn sub ab col dd k0 k1 k2 k3 k5 "ValueError.__new__")/\
  clsIn K C=some ⟨nm,bs,.ref C::bm,N,q,hdct,sn,sub,ab,col,false⟩/\∀h:vY,K.In h->(∃mN,h.Ns N mN/\mN "__init__"=none)/\OwnTail h bmV bm:=by
 unfold ExC excIn at c
 split at c
 ·rename_i dd cd sl hl
  split at c
  ·rename_i C1 bm k0 k1 k2 k3 n k5 hm hs
   simp only [vL,beq_iff_eq,Bool.not_eq_true'] at c;obtain⟨⟨⟨⟨⟨e1,e2⟩,hdel⟩,ht⟩,hok⟩,hni⟩:=c;subst e1 e2;obtain⟨nm,bs,mro,ns,qn,hd,sn,sub,ab,col,del⟩:=cd;dsimp only at hm hdel hok hni;subst hm hdel;have hsl:sl=#[k0,k1,k2,k3,some (.builtin "ValueError.__new__"),k5]:=by
    obtain⟨l⟩:=sl;simp only at hs;rw [hs]
   subst hsl;refine⟨bm,ns,nm,qn,bs,hd,sn,sub,ab,col,dd,k0,k1,k2,k3,k5,hl,by unfold clsIn;rw [hl],λ h X=>⟨⟨_,.of_isNs (PySem.W.isNs_of_in X hok),PySem.W.nsMap_none_of_in X hok hni⟩,PySem.W.tail_of_in X ht⟩⟩
  ·cases c
 ·cases c
def iI (C:vR)(E:XK)(te:TE):TS:=λ _ σ H=>te σ H λ _ H1=>E (.ref C) none H1
theorem aU {E:XK}{e:vZ}{cpos:Pos}(hx:bc (CXD D X.prog X.w) X E)(hh:X.A.handled=none)(hg:Gl X x)(hm:X.mg x=some (.ref C))(c:ExC X.K C)(he:PE X e te)
  (hst:autoParam (starEach [e] X.env=(false,eval e X.env)::starEach [] X.env) Z0) (hd:autoParam ((x==("__debug__":Str))=false) ZZ) (hD:D .none:=by trivial):PS X (.Raise (some (.Call (.Name x np) [e] [] cpos)) none pos) (iI C E te):=by
 intro v8 s σ H D I h;obtain⟨bm,N,nm,q,bs,hdct,sn,sub,ab,col,dd,k0,k1,k2,k3,k5,hl,_,hf⟩:=dm c;obtain⟨⟨mN,hN,hni⟩,T⟩:=hf X.base I.mod.kin;refine wpAny_Raise_call_subT (C:=C) (nm:=nm) (q:=q) (N:=N) (bs:=bs) (bm:=bm) (hdct:=hdct) (sn:=sn) (sub:=sub) (ab:=ab) (col:=col) (dd:=dd) (k0:=k0) (k1:=k1) (k2:=k2) (k3:=k3) (k5:=k5)
  vp (mN:=mN) (T.hasType Z8) hh (by rw [hst];rfl) hni (ld_glob I hg hm ⟨rfl,?_⟩ hd)
 rw [hst];refine uY (vy (thn (he v8 s σ H _ I h) λ u s1 ⟨y,H1,I1,r1,q1⟩=>vF ?_));refine⟨rfl,by show 1≤sizeLine;decide,I1.kIn C _ hl,hN.keeps I1.bk,T.keeps I1.bk,λ h' ea md=>?_⟩;exact hx v8 σ H1 s1 _ _ I1 ⟨ea,_,[ea],H1,rfl,rfl,I1.bare,Un.kept md.keeps,I1.hok.kept md.keeps,⟨_,hD,Fly.made md,.inl rfl,λ b e=>nomatch e⟩,λ b hb=>by
  rw [rJ] at hb;subst hb;exact⟨md.new,I1.hok.gone md.new⟩,q1⟩
noncomputable def kh (X:Cx) (pn:List (vR×v1)) (σ0:St) (E:XK) (D:vS->Prop:=λ _=>True):Cx:={X with
 pn:=pn
 xe:=λ e s'=>∃ea cls fp H',e=.ref ea/\Inv {X with pn:=pn} [] σ0 H' s'/\(∃c,D c/\Fly s'.heap ea cls fp c/\BkX {X with pn:=pn} [] H' ea c)/\(∀b∈fp,New {X with pn:=pn} [] H' b)/\E cls none H'}
noncomputable def cxHand (X:Cx) (e:vR) (G:Hp):Cx:={X with
 A:=X.A.mark (some (.ref e))
 H₀:=G
 xe:=λ _ _=>False}
def de (CX:CXT)(X:Cx)(E:XK)(σ0:St):Prop:=∀(v8:List (vR×v1)) (H:Hp) (s:vT) (e:vS) (s':vT),Inv X v8 σ0 H s->CX X.stack H s E e s'->X.xe e s'
section
variable {X:Cx}{v8 pn:List (vR × v1)}{σ σ0:St}{H:Hp}{s:vT}{E:XK}{W:vS -> vT -> Prop}
theorem Cx.Ok.repn (ok:X.Ok)(pn:List (vR×v1))(W:vS->vT->Prop):Cx.Ok {X with pn:=pn,xe:=W}:=
 ⟨ok.mod,ok.kind,ok.glob,ok.blt,ok.above,ok.inj,ok.has,ok.cab,ok.hd,ok.frames,ok.stk,ok.exf,ok.bs,ok.bsz,ok.noex,ok.exfs,ok.funs,ok.frf⟩
theorem Cx.Ok.unpn (ok:Cx.Ok {X with pn:=pn,xe:=W}):X.Ok:=
 ⟨ok.mod,ok.kind,ok.glob,ok.blt,ok.above,ok.inj,ok.has,ok.cab,ok.hd,ok.frames,ok.stk,ok.exf,ok.bs,ok.bsz,ok.noex,ok.exfs,ok.funs,ok.frf⟩
theorem Inv.lift (I:Inv X v8 σ H s)(W:vS->vT->Prop):Inv {X with pn:=X.pn++v8,xe:=W} [] σ H s:=
 ⟨I.ok.repn _ W,I.os,I.bare,I.base,I.loc,I.cell,I.free,I.freeC,λ p hp=>I.pin p (by simpa using hp),I.hok,I.len⟩
theorem Inv.unlift {pins':List (vR×v1)}(I:Inv {X with pn:=X.pn++v8,xe:=W} pins' σ H s):Inv X v8 σ H s:=
 ⟨I.ok.unpn,I.os,I.bare,I.base,I.loc,I.cell,I.free,I.freeC,λ p hp=>I.pin p (sg _ hp),I.hok,I.len⟩
theorem Inv.repn {W':vS->vT->Prop}(I:Inv {X with pn:=pn,xe:=W} v8 σ H s):Inv {X with pn:=pn,xe:=W'} [] σ H s:=
 ⟨I.ok.unpn.repn _ W',I.os,I.bare,I.base,I.loc,I.cell,I.free,I.freeC,λ p hp=>I.pin p (by simp at hp;exact sg _ hp),I.hok,I.len⟩
theorem SP.unlift {D:Ends}{f:Flow}(h:SP {X with pn:=X.pn++v8,xe:=W} [] D f s'):SP X v8 D f s':=by
 cases f with
 |next=>obtain⟨σ',H',I,q⟩:=h;exact⟨σ',H',I.unlift,q⟩
 |brk=>obtain⟨σ',H',I,q⟩:=h;exact⟨σ',H',I.unlift,q⟩
 |cont=>obtain⟨σ',H',I,q⟩:=h;exact⟨σ',H',I.unlift,q⟩
 |ret u=>obtain⟨v,σ',H',I,r,q⟩:=h;exact⟨v,σ',H',I.unlift,r,q⟩
theorem jr {D':vS->Prop}(hX:X.ex=[])(hD:∀c,D c->D' c:=by intros;trivial):de (CXD D X.prog X.w) (kh X pn σ0 E D') E σ0:=by
 intro v8 H s e s' I hx;obtain⟨ea,cls,fp,H',rfl,I',F,fr,q⟩:=I.thrown hx hX;obtain⟨c,dc,F,bk,bn⟩:=F;exact⟨ea,cls,fp,H',rfl,I'.repn,⟨c,hD c dc,F,bk,λ b e=>let n:=bn b e;⟨n.s0,n.loc,n.cel,λ p hp=>n.pin p (by simp at hp;exact sg _ hp)⟩⟩,λ b hb=>let n:=fr b hb;⟨n.s0,n.h,n.loc,n.cel,λ p hp=>n.pin p (by simp at hp;exact sg _ hp)⟩,q⟩
end
section
variable {X:Cx}{CX:CXT}{k:Nat}{f C:vR}{fd:vW}{ps:List Str}{sp:Sp}{dvs:List V}{ds:List vS}{E:XK}{x m:Str}{p pos apos:Pos}{e o:vZ}{es:List vZ}{ta:TE}{t:TA}{σ0:St}
def tAt (σ0:St)(t:TE):TE:=λ σ H Q=>σ=σ0/\t σ H Q
theorem jv {v8:List (vR×v1)}{Q:VK}{us:List vS}{vs:List V}(F:FnOk X.prog X.w X.K X.mg X.base CX k f fd ps sp)(hr:Room k X.A)(hb:Binds X.K fd ps ds)(hd:Vals dvs ds)(hx:de CX X E σ0)
  (I:Inv X v8 σ0 H s) (r:Vals vs us) (h:sp (vs++dvs) H Q E):wpAny (model X.prog X.w) X.A (call (.ref f) us) (EP X v8 σ0 Q) X.xe s:=by
 have r2:Vals (vs++dvs) (us++ds):=r.append hd;have hl:(us++ds).length=ps.length:=by rw [<-r2.length];exact F.len _ _ _ _ h
 refine u7 (codeAny_mono (F.run X.A X.stack s H ⟨us,[]⟩ (us++ds) (vs++dvs) Q E hr I.env0 (hb s us I.kIn hl) r2 h) λ r s' hq=>?_);cases r with
 |error e=>exact hx v8 H s e s' I hq
 |ok fl=>
  cases fl with
  |ret u=>exact I.after hq
  |next=>exact False.elim hq
  |brk=>exact False.elim hq
  |cont=>exact False.elim hq
theorem d5 (F:FnOk X.prog X.w X.K X.mg X.base CX k f fd ps sp)(hr:Room k X.A)(hg:Gl X x)(hm:X.mg x=some (.ref f))(hk:keepIn X.K (.ref f)=true)(hb:Binds X.K fd ps ds)(hd:Vals dvs ds)(hx:de CX X E σ0)
  (ha:PA X (e::es) t) (hdb:autoParam ((x==("__debug__":Str))=false) ZZ) (he:autoParam (starEach (e::es) X.env=(false,eval e X.env)::starEach es X.env) Z0) (hpl:autoParam ((backTo pos (starEach es X.env)).any (·.1)=false) Z0):
  PE X (.Call (.Name x p) (e::es) [] pos) (tAt σ0 (gy sp dvs E t)):=by
 intro v8 s σ H Q I h;obtain⟨rfl,h⟩:=h;refine sI (ld_glob I hg hm ?_ hdb);refine tZ (h₀:=X.base) I.ok.mod.kin hk (thn (ha pos v8 s σ H _ I h) λ us s1 ⟨vs,H1,I1,r,q⟩=>⟨I1.kIn,?_⟩) he hpl;exact jv F hr hb hd hx I1 r q
theorem kM {pl:Sem Bool}(he:PE X o ta)(c:Cls X.K C)(hm:Meth X.K C m f)(F:FnOk X.prog X.w X.K X.mg X.base CX k f fd ps sp)(hr:Room k X.A)(hb:Binds X.K fd ps ds)(hd:Vals dvs ds)(hx:de CX X E σ0)(ha:PA X (e::es) t)
    (hst:autoParam (starEach (e::es) X.env=(false,eval e X.env)::starEach es X.env) Z0) (hpl:autoParam ((backTo pos (starEach es X.env)).any (·.1)=false) Z0)
    (ht:autoParam (eval (.Call (.Attribute o m apos) (e::es) [] pos) X.env=(do
      let ov<-eval o X.env
      standAt apos.atName
      let(f,first)<-holding [ov] (getMethod ov m pl)
      callWith pos f first (backTo pos (starEach (e::es) X.env)) (backToKw pos (keywordEach [] X.env)))) Z0):
    PE X (.Call (.Attribute o m apos) (e::es) [] pos) (tAt σ0 (gN C m sp dvs E ta t)):=by
  intro v8 s σ H Q I h
  obtain⟨rfl,h⟩:=h
  refine uR (pl:=pl) (thn (he v8 s σ H _ I h) λ u s1 z9=>?_) ht
  obtain⟨x,H1,I1,rx,a,dx,fs,ex,ea,l,q⟩:=z9
  subst ex
  obtain rfl:u=Value.ref a:=rx
  refine cX I1 ea c hm l ?_
  refine tZ (first:=[.ref a]) (h₀:=X.base) I.ok.mod.kin hm.kp (thn (ha pos v8 s1 σ H1 _ I1 q) λ us s2 ⟨vs,H2,I2,r,q2⟩=>⟨I2.kIn,?_⟩) hst hpl
  exact jv (us:=.ref a::us) (vs:=.ref a::vs) F hr hb hd hx I2 (.cons rfl r) q2
end
section
variable {X:Cx}{v8:List (vR × v1)}{σ:St}{H:Hp}{s:vT}
theorem Inv.know (I:Inv X v8 σ H s)(n:NewA X v8 b)(hb:H b=some (.frz ob (.own b))):Inv {X with H₀:=upd X.H₀ b (.frz ob (.own b))} v8 σ H s:=by
 have neF:∀c∈X.fs,c≠b:=λ c hc z=>by
  obtain⟨_,o,ho,_⟩:=I.ok.funs.mem hc;rw [z,n.s0] at ho;cases ho
 have ne0:∀c o,X.s₀.heap.get? c=some o->c≠b:=λ c o q z=>by rw [z,n.s0] at q;cases q
 have neB:∀c o,X.base.get? c=some o->c≠b:=λ c o q=>ne0 c o (I.ok.bs c o q).1
 refine⟨⟨I.ok.mod,I.ok.kind,I.ok.glob,I.ok.blt,I.ok.above,I.ok.inj,I.ok.has,I.ok.cab,?_,I.ok.frames,I.ok.stk,I.ok.exf,λ c o q=>⟨(I.ok.bs c o q).1,?_⟩,I.ok.bsz,I.ok.noex,I.ok.exfs,I.ok.funs,λ c hc=>?_⟩,
  I.os,I.bare,⟨λ c o q z hc hx=>?_,λ c o q z hc hx=>?_,λ c o q z hx=>?_,I.base.there,λ c xs q=>?_,λ c o u q=>?_,λ c ps q=>?_⟩,I.loc,I.cell,I.free,I.freeC,I.pin,I.hok,I.len⟩
 ·rcases I.ok.hd with q|⟨a,o,vs,c,e,f,d,z,k⟩
  ·exact .inl q
  ·have up:∀x o u,X.H₀ x=some (.frz o u)->upd X.H₀ b (.frz ob (.own b)) x=some (.frz o u):=λ x o u g=>by
    by_cases hx:x=b
    ·have:=I.base.frzs _ _ _ g;rw [hx,hb] at this;rw [hx,ad];exact this
    ·rw [ao hx];exact g
   exact .inr ⟨a,o,vs,c,e,up _ _ _ f,d,z,k.keep up⟩
 ·show upd X.H₀ b _ c=none;rw [ao (neB c o q)];exact(I.ok.bs c o q).2
 ·show upd X.H₀ b _ c=none;rw [ao (neF c hc)];exact I.ok.frf c hc
 ·have z':upd X.H₀ b (.frz ob (.own b)) c=none:=z;rw [ao (ne0 c o q)] at z';exact I.base.keep c o q z' hc hx
 ·have z':upd X.H₀ b (.frz ob (.own b)) c=none:=z;rw [ao (ne0 c o q)] at z';exact I.base.slot c o q z' hc hx
 ·have z':upd X.H₀ b (.frz ob (.own b)) c=none:=z;rw [ao (ne0 c o q)] at z';exact I.base.free c o q z' hx
 ·have q':upd X.H₀ b (.frz ob (.own b)) c=some (.tup xs):=q;by_cases hc:c=b
  ·rw [hc,ad] at q';cases q'
  ·rw [ao hc] at q';exact I.base.tups c xs q'
 ·have q':upd X.H₀ b (.frz ob (.own b)) c=some (.frz o u):=q;by_cases hc:c=b
  ·rw [hc] at q' ⊢;rw [ad] at q';rw [hb];exact q'
  ·rw [ao hc] at q';exact I.base.frzs c o u q'
 ·have q':upd X.H₀ b (.frz ob (.own b)) c=some (.tbl ps):=q;by_cases hc:c=b
  ·rw [hc,ad] at q';cases q'
  ·rw [ao hc] at q';exact I.base.tbls c ps q'
theorem Inv.unknow (I0:Inv X v8 σ H s)(n:NewA X v8 b)(hb:H b=some (.frz ob (.own b)))(I:Inv {X with H₀:=upd X.H₀ b (.frz ob (.own b))} v8 σ1 H1 s1):Inv X v8 σ1 H1 s1:=by
 have ne0:∀c u,X.s₀.heap.get? c=some u->c≠b:=λ c u q z=>by rw [z,n.s0] at q;cases q
 have tr:∀c,c≠b->upd X.H₀ b (.frz ob (.own b)) c=X.H₀ c:=λ c hc=>ao hc
 refine⟨I0.ok,I.os,I.bare,⟨λ c u q z hc hx=>I.base.keep c u q ((tr c (ne0 c u q)).trans z) hc hx,λ c u q z hc hx=>I.base.slot c u q ((tr c (ne0 c u q)).trans z) hc hx,λ c u q z hx=>I.base.free c u q ((tr c (ne0 c u q)).trans z) hx,I.base.there,λ c xs q=>?_,λ c u v q=>?_,λ c ps q=>?_⟩,I.loc,I.cell,I.free,I.freeC,I.pin,I.hok,I.len⟩
 ·refine I.base.tups c xs ((tr c λ z=>?_).trans q);have:=I0.base.tups c xs q;rw [z,hb] at this;cases this
 ·by_cases hc:c=b
  ·have:=I0.base.frzs c u v q;rw [hc,hb] at this;refine I.base.frzs c u v ?_;show upd X.H₀ b (.frz ob (.own b)) c=_;rw [hc,ad];exact this
  ·exact I.base.frzs c u v ((tr c hc).trans q)
 ·refine I.base.tbls c ps ((tr c λ z=>?_).trans q);obtain⟨m,this⟩:=I0.base.tbls c ps q;rw [z,hb] at this;cases this
theorem Inv.ready (I:Inv X v8 σ H s)(bk:BkX X v8 H e c):∃G:Hp,Inv {X with H₀:=G} v8 σ H s/\BkH G e c/\∀σ1 H1 s1,Inv {X with H₀:=G} v8 σ1 H1 s1->Inv X v8 σ1 H1 s1:=by
 obtain⟨bk,bn⟩:=bk;rcases bk with bk|⟨b,ob,us,rfl,n,f,r⟩
 ·exact⟨X.H₀,I,.inl bk,λ _ _ _ z=>z⟩
 ·exact⟨_,I.know (bn b rfl) f,.inr ⟨b,ob,us,rfl,n,ad,r⟩,λ _ _ _ z=>I.unknow (bn b rfl) f z⟩
theorem Inv.hand {cls:vS}(I:Inv X v8 σ H s)(n:New X v8 H e)(g:s.heap.get? e=some (exO cls vs))(h2:vs[2]?=some c/\6≤vs.size)(bk:BkH X.H₀ e c):
  Inv (cxHand X e (upd X.H₀ e (.frz (exO cls vs) (.own e)))) v8 σ (upd H e (.frz (exO cls vs) (.own e))) s:=by
 have neF:∀b∈X.fs,b≠e:=λ b hb z=>by
  obtain⟨_,o,ho,_⟩:=I.ok.funs.mem hb;rw [z,n.s0] at ho;cases ho
 have ne0:∀b o,X.s₀.heap.get? b=some o->b≠e:=λ b o q z=>by rw [z,n.s0] at q;cases q
 have neB:∀b o,X.base.get? b=some o->b≠e:=λ b o q=>ne0 b o (I.ok.bs b o q).1
 have bk':BkH (upd X.H₀ e (.frz (exO cls vs) (.own e))) e c:=by
  rcases bk with bk|⟨b,ob,us,e1,n1,f1,r⟩
  ·exact .inl bk
  ·exact .inr ⟨b,ob,us,e1,n1,(ao n1).trans f1,r⟩
 refine⟨⟨I.ok.mod,I.ok.kind,I.ok.glob,I.ok.blt,I.ok.above,I.ok.inj,I.ok.has,I.ok.cab,.inr ⟨e,_,vs,c,rfl,ad,rfl,h2,bk'⟩,I.ok.frames,I.ok.stk,I.ok.exf,λ b o q=>⟨(I.ok.bs b o q).1,?_⟩,I.ok.bsz,I.ok.noex,I.ok.exfs,I.ok.funs,λ b hb=>?_⟩,
  I.os,I.bare,⟨λ b o q z hb hx=>?_,λ b o q z hb hx=>?_,λ b o q z hx=>?_,I.base.there,λ b xs q=>?_,λ b o u q=>?_,λ b ps q=>?_⟩,I.loc,I.cell,?_,λ x c ec=>?_,λ p hp=>?_,λ a o q=>?_,I.len⟩
 ·show upd X.H₀ e _ b=none;rw [ao (neB b o q)];exact(I.ok.bs b o q).2
 ·show upd X.H₀ e _ b=none;rw [ao (neF b hb)];exact I.ok.frf b hb
 ·have z':upd X.H₀ e (.frz (exO cls vs) (.own e)) b=none:=z;rw [ao (ne0 b o q)] at z';exact I.base.keep b o q z' hb hx
 ·have z':upd X.H₀ e (.frz (exO cls vs) (.own e)) b=none:=z;rw [ao (ne0 b o q)] at z';exact I.base.slot b o q z' hb hx
 ·have z':upd X.H₀ e (.frz (exO cls vs) (.own e)) b=none:=z;rw [ao (ne0 b o q)] at z' ⊢;exact I.base.free b o q z' hx
 ·have q':upd X.H₀ e (.frz (exO cls vs) (.own e)) b=some (.tup xs):=q;by_cases hb:b=e
  ·rw [hb,ad] at q';cases q'
  ·rw [ao hb] at q' ⊢;exact I.base.tups b xs q'
 ·have q':upd X.H₀ e (.frz (exO cls vs) (.own e)) b=some (.frz o u):=q;by_cases hb:b=e
  ·rw [hb] at q' ⊢;rw [ad] at q' ⊢;exact q'
  ·rw [ao hb] at q' ⊢;exact I.base.frzs b o u q'
 ·have q':upd X.H₀ e (.frz (exO cls vs) (.own e)) b=some (.tbl ps):=q;by_cases hb:b=e
  ·rw [hb,ad] at q';cases q'
  ·rw [ao hb] at q' ⊢;exact I.base.tbls b ps q'
 ·show upd H e _ X.env.locals=none;rw [ao (sJ n.loc)];exact I.free
 ·rw [ao (n.cel x c ec)];exact I.freeC x c ec
 ·obtain⟨a1,a2,a3⟩:=I.pin p hp;exact⟨a1,by rw [ao (n.pin p hp)];exact a2,a3⟩
 ·by_cases ha:a=e
  ·subst ha;rw [ad] at q;cases q;exact⟨g,_,g⟩
  ·rw [ao ha] at q;have nt:∀b u,H b=some u->b≠e:=λ b u r z=>by rw [z,n.h] at r;cases r
   exact(I.hok a o q).stay (λ b u _ r=>r) (λ b r=>by rw [ao (nt b _ r)];exact r) λ b xs r=>by rw [ao (nt b _ r)];exact r
theorem Inv.unhand {o:v1}(I0:Inv X v8 σ H s)(n:New X v8 H e)(I:Inv (cxHand X e (upd X.H₀ e (.frz o (.own e)))) v8 σ1 H1 s1):Inv X v8 σ1 H1 s1:=by
 have ne0:∀b u,X.s₀.heap.get? b=some u->b≠e:=λ b u q z=>by rw [z,n.s0] at q;cases q
 have tr:∀b,b≠e->(cxHand X e (upd X.H₀ e (.frz o (.own e)))).H₀ b=X.H₀ b:=λ b hb=>ao hb
 refine⟨I0.ok,I.os,I.bare,⟨λ b u q z hb hx=>I.base.keep b u q ((tr b (ne0 b u q)).trans z) hb hx,λ b u q z hb hx=>I.base.slot b u q ((tr b (ne0 b u q)).trans z) hb hx,λ b u q z hx=>I.base.free b u q ((tr b (ne0 b u q)).trans z) hx,I.base.there,λ b xs q=>?_,λ b u v q=>?_,λ b ps q=>?_⟩,I.loc,I.cell,I.free,I.freeC,I.pin,I.hok,I.len⟩
 ·refine I.base.tups b xs ((tr b λ z=>?_).trans q);have:=I0.base.tups b xs q;rw [z,n.h] at this;cases this
 ·refine I.base.frzs b u v ((tr b λ z=>?_).trans q);have:=I0.base.frzs b u v q;rw [z,n.h] at this;cases this
 ·refine I.base.tbls b ps ((tr b λ z=>?_).trans q);obtain⟨m,this⟩:=I0.base.tbls b ps q;rw [z,n.h] at this;cases this
theorem Inv.nameGoes {M:Model}{i:Nat}(I:Inv X v8 σ H s)(hN:X.N.Nodup)(hi:X.N[i]?=some y)(hl:X.env.scope.names.lookup y=some .local)
    (h:∀s',Inv X v8 (σ.set i none) H s'->Q () s'):wpAny M A (do bindName X.env y .none;unbindBehindTheSuite X.env y pos) Q E s:=by
  have hiσ:i<σ.length:=by rw [I.len];exact(rm.mp hi).1
  have hcls:(X.env.scope.kind== .class||(X.env.scope.kind== .module&&X.env.locals !=X.env.globals))=false:=by rw [I.ok.kind];rfl
  have hk:X.env.kindOf y=some .local:=hl
  refine re (wpAny_bindName (store_ok (v:=.non) I hN hi (.inl hl) rfl (λ s1 I1=>?_) (.inr hl)))
  unfold unbindBehindTheSuite
  refine wpAny_onRaise ?_
  unfold unbindName
  refine re (wpAny_point (re ?_))
  unfold deleteName
  simp only [hk,hcls]
  rw [rO Z9]
  obtain⟨m,hn,hm⟩:=id I1.loc
  obtain⟨u,ru,lk⟩:=hm i y .non hi (by rw [tV hiσ]) (.inl hl)
  have hmy:m y=some u:=by
    rcases lk with⟨_,q⟩|⟨q,_⟩
    · exact q
    · rw [hk] at q
      rcases q with q|q<;>cases q
  refine re (wpAny_nsDel_keeps hn λ h2 v hn2 hs2=>?_)
  rw [hmy]
  simp only [if_true,Option.isSome_some,Bool.not_true,sZ,if_false]
  refine rA (wpAny_point (h _ ?_))
  obtain⟨oL,_,_,hoL,_⟩:=id hn
  have ne0:∀b o,X.s₀.heap.get? b=some o->b≠X.env.locals:=λ b o e=>rL (rj (rk e) I1.ok.above)
  refine⟨I1.ok,I1.os,I1.bare,⟨λ b o e n hb hx=>(hs2.2 b (ne0 b o e)).trans (I1.base.keep b o e n hb hx),λ b o e n hb hx=>?_,I1.base.free,λ b o e hx=>?_,I1.base.tups,I1.base.frzs,I1.base.tbls⟩,⟨_,hn2,λ j z v' e1 e2 e3=>?_⟩,λ z c e=>?_,I1.free,I1.freeC,λ p hp=>?_,λ b ob e=>?_,by simpa using I.len⟩
  · obtain⟨sl,e1⟩:=I1.base.slot b o e n hb hx
    exact⟨sl,(hs2.2 b (ne0 b o e)).trans e1⟩
  · obtain⟨o',e1⟩:=I1.base.there b o e hx
    exact⟨o',(hs2.2 b (ne0 b o e)).trans e1⟩
  · have hj:j≠i:=λ q=>by rw [q,tV hiσ] at e2;cases e2
    rw [ul (sJ hj)] at e2
    obtain⟨u',r',q⟩:=hm j z v' e1 (by rw [ul (sJ hj)];exact e2) e3
    refine⟨u',r',?_⟩
    rcases q with⟨kk,e⟩|⟨kk,c,e,zz⟩
    · refine .inl ⟨kk,?_⟩
      have:z≠y:=λ q=>hj (nodup_ix hN e1 (q▸hi))
      simp [this,e]
    · exact .inr ⟨kk,c,e,zz.sameBut hs2 (I1.cne z c e)⟩
  · obtain⟨w',q⟩:=I1.cell z c e
    exact⟨w',q.sameBut hs2 (I1.cne z c e)⟩
  · obtain⟨e,n,ne,nf,d⟩:=I1.pin p hp
    exact⟨(hs2.2 p.1 ne).trans e,n,ne,nf,d⟩
  · refine(I1.hok b ob e).stay (λ c w' hc q=>(hs2.2 c λ z=>?_).trans q) (λ _ q=>q) λ _ _ q=>q
    rcases hc with hc|hc
    · rw [<-hc,z,I1.free] at e;cases e
    · rw [z,I1.free] at hc;cases hc
end
def Dx (i:Nat)(D:Ends):Ends:=⟨λ σ H=>D.nx (σ.set i none) H,D.rt,λ σ H=>D.bk (σ.set i none) H,λ σ H=>D.ct (σ.set i none) H⟩
def qV (K:Frag)(D0:vR)(i:Nat)(tb:St->XK->TS)(th:TS):TS:=λ D σ H=>
 tb σ (λ cls _ H'=>∃C,cls=.ref C/\ExC K C/\C≠D0/\mroIn K C (.ref D0)=some true/\
  ∀e vs,H' e=none->th (Dx i D) (σ.set i (some (.ref e))) (upd H' e (.frz (exO (.ref C) vs) (.own e)))) D σ H
theorem im {i:Nat}{D0:vR}{b₀:v7}{body suite:List v7}{tb:St->XK->TS}{th:TS}{hpos:Pos}(hN:X.N.Nodup)(hi:X.N[i]?=some y)(hl:X.env.scope.names.lookup y=some .local)
  (hg:Gl X x) (hm:X.mg x=some (.ref D0)) (hD:ExC X.K D0) (hst:X.stack=X.env::X.outer) (hfr:X.env.frame=some X.env.locals) (hX:X.ex=[])
  (hb:∀pn σ0 E,PSs (kh X pn σ0 E) body (tb σ0 E)) (hh:∀e G,PSs (cxHand X e G) (b₀::suite) th) (hd:autoParam ((x==("__debug__":Str))=false) ZZ):
  PS X (.Try body [.ExceptHandler (some (.Name x np)) (some y) (b₀::suite) hpos] [] [] pos) (qV X.K D0 i tb th):=by
 intro v8 s σ H D I h;refine wpAny_Try_except (rV (hb (X.pn++v8) σ _ [] s σ H D (I.lift _) h) (λ f s1 q=>?_) λ e s1 q=>?_)
 ·have q':SP X v8 D f s1:=SP.unlift q;cases f with
  |next=>exact ue q'
  |brk=>exact q'
  |cont=>exact q'
  |ret u=>exact q'
 ·obtain⟨ea,cls,fp,H',rfl,I1,⟨c,dc,F,bk,bn⟩,fr,C,rfl,cC,hne,hmro,q⟩:=q;have I1:Inv X v8 σ H' s1:=Inv.unlift (W:=X.xe) I1;have fr:∀b∈fp,New X v8 H' b:=λ b hb=>let n:=fr b hb;⟨n.s0,n.h,n.loc,n.cel,λ p hp=>n.pin p (by simpa using hp)⟩
  have hf:X.A.frames=some (X.env::X.outer):=hst▸I1.ok.frames;refine land hf (hst▸I1.stack) hfr F λ h' T F' hT f3 f4 f5=>?_
  have I2:=I1.landed fr (by rw [hst];exact f3) f4 f5;have nE:New X v8 H' ea:=fr ea F.here;have nT:New X v8 H' T:=I1.new (by
   cases z:s1.heap.get? T with
   |none=>rfl
   |some o=>exact absurd (rj (rk z) hT) (su _)) (I1.hok.fresh hT) (by rw [hX];simp)
  obtain⟨vs,ge,z2,⟨_,r⟩|⟨T',oT,ts,_,neT,_,_,_,r⟩⟩:=id F'
  ·cases r
  ·cases r;have q:=q ea vs nE.h;obtain⟨G,I2',bk0,unk⟩:=I2.ready (e:=ea) (c:=c) ⟨bk,λ b e=>let n:=bn b e;⟨n.s0,n.loc,n.cel,λ p hp=>n.pin p (by simpa using hp)⟩⟩;have nE':New {X with H₀:=G} v8 H' ea:=⟨nE.s0,nE.h,nE.loc,nE.cel,nE.pin⟩;have I3:=I2'.hand nE' ge z2 bk0;have uh:∀σ6 H6 s6,Inv (cxHand X ea (upd G ea (.frz (exO (.ref C) vs) (.own ea)))) v8 σ6 H6 s6->Inv X v8 σ6 H6 s6:=λ _ _ _ z=>unk _ _ _ (Inv.unhand I2' nE' z)
   generalize hG3:upd G ea (.frz (exO (.ref C) vs) (.own ea))=G3 at*;generalize hH3:upd H' ea (.frz (exO (.ref C) vs) (.own ea))=H3 at*;refine wpAny_handleBy_cons (codeAny_handlers_test (ld_glob (X:=cxHand X ea G3) I3 hg hm ?_ hd)) (by intro q;cases q);obtain⟨bm,N,nm,qn,bs,hdct,sn,sub,ab,col,dd,k0,k1,k2,k3,k5,hlC,hcC,_⟩:=dm cC;obtain⟨bm',N',nm',qn',bs',hdct',sn',sub',ab',col',dd',j0,j1,j2,j3,j5,hlD,_,hfD⟩:=dm hD;have hmem:(Value.ref C::bm).contains (.ref D0)=true:=by
    unfold mroIn at hmro;rw [hcC] at hmro;simpa using hmro
   have T':=(hfD _ I2.kIn).2;obtain⟨hh1,gg,dr,tk,os1⟩:=s1;refine gK (I2.kIn C _ hlC) (I2.kIn D0 _ hlD) ge rfl (T'.hasType Z8) hmem hne (codeAny_handlers_suite_as ?_);refine ed F' λ h4 F4 k4=>?_
   have nT3:New (cxHand X ea G3) v8 H3 T:=⟨nT.s0,by rw [<-hH3,ao neT];exact nT.h,nT.loc,nT.cel,nT.pin⟩;have I4:=I3.landed (h':=h4) (fp:=[T]) (λ b hb=>by rw [rJ] at hb;rw [hb];exact nT3) (λ b o g hb _=>k4 b o g λ z=>hb (by simp [z])) (λ b o g hb=>⟨o.slots,k4 b o g λ z=>hb (by simp [z])⟩) (λ b o g=>by
    by_cases hb:b=T
    ·obtain⟨o',us,g',_⟩:=F4.rec T Z6;exact⟨o',by rw [hb];exact g'⟩
    ·exact⟨o,k4 b o g hb⟩)
   refine store_ok (X:=cxHand X ea G3) (v:=.ref ea) I4 hN hi (.inl hl) rfl (λ s5 I5=>?_) (.inr hl);refine rV (hh ea G3 v8 s5 _ H3 (Dx i D) I5 q) (λ f s6 q6=>?_) λ _ _ z=>False.elim z
   cases f with
   |next=>
    obtain⟨σ6,H6,I6,q7⟩:=q6;exact(uh _ _ _ I6).nameGoes hN hi hl λ s' I8=>⟨_,_,I8,q7⟩
   |brk=>
    obtain⟨σ6,H6,I6,q7⟩:=q6;exact(uh _ _ _ I6).nameGoes hN hi hl λ s' I8=>⟨_,_,I8,q7⟩
   |cont=>
    obtain⟨σ6,H6,I6,q7⟩:=q6;exact(uh _ _ _ I6).nameGoes hN hi hl λ s' I8=>⟨_,_,I8,q7⟩
   |ret u=>
    obtain⟨v,σ6,H6,I6,r,q7⟩:=q6;exact(uh _ _ _ I6).nameGoes hN hi hl λ s' I8=>⟨v,_,_,I8,r,q7⟩
theorem Room.hand {j:Nat}{v:Option vS}(r:Room k A)(h:j≤k)(h30:j<30):Room j (A.mark v):=
 ⟨λ z=>absurd z (Nat.not_le.mpr h30),by have:=r.dp;show A.depth+_+5<_;lia,by have:=r.un;show A.units+_+200<_;lia,r.gd⟩
structure ExI (K:Frag)(C:vR):Prop where
 ga:findIn K (.ref C) "__getattribute__"=some (some (.builtin "BaseException.__getattribute__"))
 gt:findIn K (.ref C) "__getattr__"=some none
 hd:hasDictIn K C=true
 ha:findIn K (.ref C) "__class__"=some (some (.builtin "object.__class__"))
 hn:specialIn K (.builtin "object.__class__") "__get__"=some (some (.builtin "getset_descriptor.__get__"))
 htk:takesIn K (.builtin "object.__class__")=some true
 hm:mroIn K C (.type "object")=some true
 be:mroIn K C (.type "BaseException")=some true
theorem j9 {M:Model}{g:Array GenState}{d:Drawn}{os:OsState}{x:vR}{nv:vS}(L:Looks M h (isInstance (.ref x) (.type "BaseException")) true)
  (hq:Q () ⟨h,g,d,t,os⟩):wpAny M A (checkBuiltinCall "BaseException.__getattribute__" ⟨[.ref x,nv],[]⟩) Q E ⟨h,g,d,t,os⟩:=by
 have hk:builtinKind "BaseException.__getattribute__"=some .slot:=Z8;have hsplit:splitId "BaseException.__getattribute__"=some ("BaseException","__getattribute__"):=Z8;have ha:=PySem.F.args_bexc_ga (.ref x) nv;simp only [checkBuiltinCall,hk,hsplit];refine re (L.at ?_)
 repeat (first|exact hq|wp_step)
theorem la {g:Array GenState}{d:Drawn}{os:OsState}{x:vR}{tk:Tok}{Q:Fin->vT->Prop}(Y:K.In h)(I:InstAt h x ox C none)
  (L3:Looks (model prog w) h (Builtin.ObjectAttr.find (.ref x) (.ref C) "__class__") (.bind (.builtin "getset_descriptor.__get__") (.builtin "object.__class__"))) (hm:mroIn K C (.type "object")=some true)
  (hq:Q (.done (.ret (.ref C))) ⟨h,g,d,t,os⟩):wpAny (model prog w) A (Builtin.«object.__getattribute__» ⟨[.ref x,.str "__class__" tk],[]⟩) Q E ⟨h,g,d,t,os⟩:=by
 have L0:=I.type (M:=model prog w);refine re (re (rA (rA ?_)));refine re (rA (re (L0.at (re (L3.at ?_)))));show wpAny _ _ (holding [Value.builtin "object.__class__"] (call (.builtin "getset_descriptor.__get__") [.builtin "object.__class__",.ref x,.ref C])>>= ret) _ _ _;exact re (so (u7 (PySem.W.class_get (s:=⟨h,g,d,t,os⟩) (ox:=ox) (od:=none) Y I hm (rA hq))))
theorem jL {x:vR}{Q:Option vS->vT->Prop}(c:ExI K C)(Y:K.In s.heap)(I:InstAt s.heap x ox C none)
  (h:Q (some (.ref C)) {s with toks:=s.toks+1}):wpAny (model prog w) A (getAttr? (.ref x) "__class__") Q E s:=by
 have hf:findObj K C none "__class__"=some (.bind (.builtin "getset_descriptor.__get__") (.builtin "object.__class__")):=by
  obtain⟨cd,hc,_⟩:=uT c.hd;unfold findObj;rw [hc,Option.bind_some,c.ha,Option.bind_some];simp [c.hn,c.htk]
 obtain⟨hh,g,d,t,os⟩:=s;have L0:=I.type (M:=model prog w);have L1:=um (M:=model prog w) Y c.ga;have L2:=um (M:=model prog w) Y c.gt;have L3:=PySem.W.looks_find (M:=model prog w) Y I hf;have L4:=PySem.W.looks_mroIn (M:=model prog w) Y c.be;unfold getAttr? getAttrBy? getAttrBy;refine re (wpAny_mkText (re (u6 (so (re (L0.at (re (L1.at ?_))))))));show wpAny _ _ (getAttrByItsOwn _ _ _ _ _ _) _ _ _;unfold getAttrByItsOwn;refine re (show wpAny _ _ (typeLookup (.ref C) "__getattr__") _ _ _ from L2.at ?_);refine re (u6 (so ?_));show wpAny _ _ (boundAndCalled _ _ _) _ _ _;unfold boundAndCalled;refine re (wpAny_of_eq (PySem.F.attr_ValueError.ga.bind _) ?_);refine u7 (codeAny_call_builtin PySem.F.attr_ValueError.ga.plain PySem.F.entry_bexc_ga ?_);refine j9 (L0.andThen L4) (la Y I L3 c.hm ?_);show wpAny _ _ (handedOut (.ref C)) _ _ _;exact rA (rA h)
theorem kQ {x:vR}(c:ExI K C):KitX K (.ref x) (.ref C) (λ h=>InstAt h x (exO (.ref C) vs) C none) where
 ty:=λ _ _ _ I=>I.type
 it:=λ M h Y _=>by
  obtain⟨cd,hc,_⟩:=uT c.hd;unfold clsIn at hc
  split at hc
  ·rename_i ho
   intro A' Q' E' s' k q;unfold isType loadHead;exact re (wpAny_loadPart (k _ _ (Y _ _ ho)) (rA q))
  ·cases hc
 ne:=λ h tp dd its n sl Y htp=>by
  obtain⟨cd,hc,_⟩:=uT c.hd;refine Bool.eq_false_iff.mpr λ q=>?_
  have e:C=tp:=Value.ref.inj (vE.mp q);subst e;unfold clsIn at hc
  split at hc
  ·rename_i ho
   have z:=(Y _ _ ho).symm.trans htp;cases z
  ·cases hc
 ca:=λ Y I k=>jL c Y I k
section
variable {X:Cx}
noncomputable def qh:vS->V
 | .ref a=>.ref a
 | .type n=>.ty n
 |_=>.non
theorem eM:dE X (.builtin "isinstance") (λ xs H Q=>∃a C vs c b,xs=[.ref a,qh c]/\(∃n,c=.ref n\/∃t,c=.type t)/\H a=some (.frz (exO (.ref C) vs) (.own a))/\ExI X.K C/\kitOne X.K (.ref C) c=some b/\Q (.bl b) H):=by
 intro v8 s σ H xs us Q I r h;obtain⟨a,C,vs,c,b,rfl,hc,hf,ci,e,q⟩:=h;obtain⟨u,v,rfl,ru,rv⟩:=ot r;cases ru;have ev:v=c:=by
  obtain⟨n,hc|⟨t,hc⟩⟩:=hc
  ·subst hc;exact rv
  ·subst hc;exact rv
 subst ev;obtain⟨g,_⟩:=I.hok a _ hf;exact sE (kQ (vs:=vs) ci) I.kIn ⟨g,rfl,rfl,trivial⟩ e (λ z=>nomatch z) λ tk=>⟨.bl b,H,I.tok tk,rfl,q⟩
end
theorem lQ {l:vR}{xs:List V}{n:Nat}{g:TG}{tt:TT}{R:Hp->Prop}(Pv:Nat->List V->Hp->Prop)(h0:Pv 0 [] (upd H1 l (.lst [])))(hl:∀i ys H,i≤xs.length->Pv i ys H->SqL K H a xs)
  (hs:∀i x ys σ H,xs[i]?=some x->Pv i ys H->σ.length=n->g x σ H λ σ3 H3=>tt σ3 H3 λ c H5=>if c=true then te σ3 H5 λ y H4=>H4 l=some (.lst ys)/\ys.length<sizeLine/\σ3.length=n/\Pv (i+1) (ys++[y]) (upd H4 l (.lst (ys++[y]))) else σ3.length=n/\Pv (i+1) ys H5)
  (hd:∀ys H,Pv xs.length ys H->R H) (mg:∀x σ H (A B:St->Hp->Prop),(∀σ' H',A σ' H'->B σ' H')->g x σ H A->g x σ H B) (mtt:∀σ H (A B:Bool->Hp->Prop),(∀v H',A v H'->B v H')->tt σ H A->tt σ H B) (mt:∀σ H (A B:VK),(∀v H',A v H'->B v H')->te σ H A->te σ H B):
  ∃W:Nat->Nat->List V->St->Hp->Prop,(∃m,W 0 m [] (List.replicate n none) (upd H1 l (.lst [])))/\∀i m ys σ' H',W i m ys σ' H'->
   ((Itl K a).stop i H'/\R H')\/((Itl K a).go i H'/\∀x H2,(Itl K a).yld i H' x H2->g x σ' H2 λ σ3 H3=>tt σ3 H3 λ c H5=>if c=true then te σ3 H5 λ y H4=>
    H4 l=some (.lst ys)/\ys.length<sizeLine/\∃m',m'<m/\W (i+1) m' (ys++[y]) σ3 (upd H4 l (.lst (ys++[y]))) else∃m',m'<m/\W (i+1) m' ys σ3 H5):=by
 refine⟨λ i m ys σ H=>m=xs.length-i/\i≤xs.length/\σ.length=n/\Pv i ys H,⟨xs.length,Z6,sy _,rZ,h0⟩,?_⟩;rintro i m ys σ H ⟨rfl,hi,hn,p⟩;have q:=hl i ys H hi p;by_cases wa:i<xs.length
 ·refine .inr ⟨⟨xs,xs[i],q,by simp [wa]⟩,λ x H' y=>?_⟩;obtain⟨e,y⟩:=y;subst e;refine mg _ _ _ _ _ (λ σ3 H3 z=>mtt _ _ _ _ (λ c H5 z=>?_) z) (hs i x ys σ _ (y xs q) p hn);cases c with
  |true=>
   rw [se rfl] at z ⊢;exact mt _ _ _ _ (λ y H4 z9=>by obtain⟨z1,z2,z3,z4⟩:=z9;exact⟨z1,z2,xs.length-(i+1),tz _ _ wa,rfl,wa,z3,z4⟩) z
  |false=>
   rw [rO rs] at z ⊢;exact⟨xs.length-(i+1),tz _ _ wa,rfl,wa,z.1,z.2⟩
 ·have e:i=xs.length:=uB hi (Nat.not_lt.1 wa);subst e;exact .inl ⟨⟨xs,q,rB _⟩,hd ys H p⟩
theorem gU (A:vX)(s:vT)(a:Str)(t:Tok)(c:Str)(u:Tok):SeqAt.EqAt A s (.str a t) (.str c u) (a==c):=by
 first|exact SeqAt.EqAt.str_str a t c u|exact(MeetsSeq.EqGives.str_str a t c u).at A s
theorem je (hu:X.A.units<cLine):OpR X (compareOp .Eq) (λ x y H Q=>∃(p q:vR) (a b:List Str),x=.ref p/\y=.ref q/\SqT X.K H p (a.map V.str)/\SqT X.K H q (b.map V.str)/\Q (.bl (decide (a=b))) H):=by
 intro v8 s σ H x y v u Q I rx ry h;obtain⟨p,q,a,b,rfl,rfl,h1,h2,k⟩:=h;cases rx;cases ry;obtain⟨its,rv,pl,hz⟩:=I.tuple h1;obtain⟨its2,rv2,pl2,hz2⟩:=I.tuple h2;have l1:=rv.length;have l2:=rv2.length;rw [rg] at l1 l2;refine SeqAt.eq_tupleAt (e:=λ j=>a[j]?==b[j]?) (show s.heap.IsTuple p its.toArray from pl) (show s.heap.IsTuple q its2.toArray from pl2) hu (λ j h1 h2=>?_) ?_
 ·have j1:j<a.length:=by simp at h1;omega
  have j2:j<b.length:=by simp at h2;omega
  obtain⟨u1,e1,t1,r1⟩:=rv.get (i:=j) (x:=V.str a[j]) (by simp [j1]);obtain⟨u2,e2,t2,r2⟩:=rv2.get (i:=j) (x:=V.str b[j]) (by simp [j2]);subst r1 r2;have g1:its.toArray[j]=Value.str a[j] t1:=by
   have:=rm.mp e1;obtain⟨_,z⟩:=this;simpa using z
  have g2:its2.toArray[j]=Value.str b[j] t2:=by
   have:=rm.mp e2;obtain⟨_,z⟩:=this;simpa using z
  rw [g1,g2];have:=gU X.A.in1 s a[j] t1 b[j] t2;simpa [j1,j2] using this
 ·refine⟨.bl _,H,I,?_,k⟩;show Value.bool _=Value.bool _;congr 1;simp only [rh,<-l1,<-l2];rw [uD];simp only [vL,tS,List.mem_range,beq_iff_eq,decide_eq_true_eq];constructor
  ·rintro⟨h1,h2⟩;refine List.ext_getElem? λ j=>?_
   by_cases hj:j<a.length
   ·exact h1 j Z4
   ·rw [ub Z4,ub Z4]
  ·rintro rfl;exact⟨λ _ _=>rfl,rfl⟩
end L2
set_option maxHeartbeats 4000000
namespace L2
open PySem
variable {f:vR}{mg:Str->Option vS}{K:Frag}{qual:Str}{base:vY}{w:vV}{P:vU}
theorem oZ {CX:CXT}{name:Str}{params:Arguments}{body:List v7}{scope:Scope}{dV kV doc pm v9 ct oc:vS}{an od:Option vR}
  {osl:Array (Option vS)} {N ps:List Str} {sp:Sp} (lk:K.lookup f=some ⟨oc,od,.func (fnOf name qual params body scope dV kV doc pm an v9 ct),osl⟩) (hcd:codeIn K v9 qual=true) (S:FnScope N ps scope)
  (len:∀vs H Q E,sp vs H Q E->vs.length=ps.length)
  (hbody:∀(A:vX) (outer:List Env) (s:vT) (H:Hp) (vs:List V) (Q:VK) (E:XK),sp vs H Q E->
   ∃t,PSs (cxOf CX P w K mg base N qual scope f v9 A outer s H E) body t/\t {nx:=λ _ H'=>Q .non H',rt:=Q} (start N vs) H):
  FnOk P w K mg base CX 0 f (fnOf name qual params body scope dV kV doc pm an v9 ct) ps sp:=by
 refine⟨len,λ A outer s H args us vs Q E hr e0 hb r hsp=>?_⟩;have hl:=len _ _ _ _ hsp;have KX:K.In s.heap:=e0.mod.kin.keeps λ b o e=>(e0.bs b o e).1
 have lim:s.heap.NoLimit:=e0.mod.nolimit.keeps λ b o e=>(e0.bs b o e).1
 have hkind:∀y∈ps.zip us,scope.names.lookup y.1=some .local\/(scope.names.lookup y.1=some .cell/\((cellsFrom (s.heap.objs.size+1) scope.names []).lookup y.1).isSome=true):=λ⟨n,v⟩ hy=>by
  rcases S.par n (ve hy).1 with q|q
  ·exact .inl q
  ·exact .inr ⟨q,uK _ _ _ (.inl q)⟩
 refine codeAny_call_function hr.depth (KX _ _ lk) rfl S.co S.gen rfl (codeRec_of KX hcd) (hb _ _ _ _ ?_);refine wpAny_newFunctionEnv_cells S.kind hkind λ env he s1 x=>?_
 subst he;refine⟨lim.keeps x.toInCall.keep,codeAny_func ?_⟩;obtain⟨t,ht,hq⟩:=hbody A outer s H vs Q E hsp;have I:Inv (cxOf CX P w K mg base N qual scope f v9 A outer s H E) [] (start N vs) H s1:=fz S e0 hl r x;refine rV (ht [] s1 (start N vs) H _ I hq) (λ fl s' hs=>?_) λ e s' hs=>hs
 have fin:∀{σ':St} {H':Hp} {v:V} {u:vS},Inv (cxOf CX P w K mg base N qual scope f v9 A outer s H E) [] σ' H' s'->RelV v u->Q v H'->CE outer P w H s Q u s':=
  λ {σ' H' v u} J rv q=>⟨v,H',J.os,J.bare,J.base,J.hok,rv,q⟩
 cases fl with
 |ret u=>
  obtain⟨v,σ',H',J,rv,q⟩:=hs;exact fin J rv q
 |next=>
  obtain⟨σ',H',J,q⟩:=hs;exact fin (v:=V.non) (u:=Value.none) J rfl q
 |brk=>
  obtain⟨_,_,_,q⟩:=hs;exact False.elim q
 |cont=>
  obtain⟨_,_,_,q⟩:=hs;exact False.elim q
theorem Fun.ok0 {x:Str}{st:v7}{fd:vW}{N ps:List Str}{sp:Sp}(F:Fun K x qual st f fd)(S:FnScope N ps (aj st))
  (hbody:∀(v9:vS) (A:vX) (outer:List Env) (s:vT) (H:Hp) (vs:List V) (Q:VK) (E:XK),sp vs H Q E->
   let X:=(cxOf CX0 P w K mg base N qual (aj st) f v9 A outer s H E).nox;∃t,PSs X (aL st) t/\t {nx:=λ _ H'=>Q .non H',rt:=Q} (start N vs) H) (len:autoParam (∀vs H Q E,sp vs H Q E->vs.length=ps.length) ZV):FnOk P w K mg base CX0 0 f fd ps sp:=by
 obtain⟨oc,od,kV,doc,pm,an,v9,ct,osl,rfl,lk,hcd⟩:=F.ex;refine oZ lk hcd S len λ A outer s H vs Q E hsp=>?_
 obtain⟨t,h,q⟩:=hbody v9 A outer s H vs Q E hsp;exact⟨t,h.nox,q⟩
end L2
set_option maxHeartbeats 4000000
namespace L2
open PySem PySem.Spec PyProof.Rows QQ
variable {σ:St}{H:Hp}{b:vR}
theorem seq_g {t u:TS}{D:Ends}(h:∀R:St->Hp->Prop,(∀σ H,u D σ H->R σ H)->t {D with nx:=R} σ H):pF t u D σ H:=h (u D) λ _ _ z=>z
def rd (K:Frag):R2:=λ x y H Q=>∃(p q:vR) (ns ms:List Int),x=.ref p/\y=.ref q/\SqL K H p (ns.map V.int)/\SqL K H q (ms.map V.int)/\Q (.bl (!decide (ns=ms))) H
theorem iu {X:Cx}(hu:X.A.units+64<cLine):OpR X (compareOp .NotEq) (rd X.K):=by
 intro v8 s σ H x y v u Q I rx ry h;obtain⟨p,q,ns,ms,rfl,rfl,h1,h2,k⟩:=h;cases rx;cases ry;obtain⟨its,rv,pl,hz⟩:=I.list h1;obtain⟨its2,rv2,pl2,hz2⟩:=I.list h2;exact PySem.W.ne_intsK pl.isList (bZ rv) pl2.isList (bZ rv2) hu ⟨.bl _,H,I,rfl,k⟩
theorem gM (xs:List V)(k:Nat):cutV xs none (some ((k:Nat):Int))=xs.take k:=by
 unfold cutV;rw [HT.sIx_none,HT.sIx_nat,vC,vO];by_cases h:k≤xs.length
 ·rw [uz h]
 ·rw [Nat.min_eq_right (Nat.le_of_not_ge h),tR,uI (Nat.le_of_not_ge h)]
theorem dW {a x:Str}{c:vR}(h:List.lookup x [(a,b)]=some c):x=a/\c=b:=by
 rw [List.lookup_cons] at h;cases hx:x==a with
 |true=>rw [hx] at h;exact⟨eq_of_beq hx,(rH h).symm⟩
 |false=>rw [hx] at h;cases h
theorem none_of {H':Hp}(s:Same H H'){q:vR}(h:H' q=none):H q=none:=by
 cases e:H q with
 |none=>rfl
 |some o=>rw [s _ _ e] at h;cases h
theorem af {p:vR}{o:HO}(h:H p=none):Same H (upd H p o):=λ b u e=>by
 rw [ao (am e h)];exact e
section
variable {X:Cx}
theorem dk:∀x:V,flatV x=true->eqV x x=true:=by
 intro x h;cases x<;>simp [flatV,eqV] at h ⊢
theorem kj {v8:List (vR×v1)}{s:vT}(I:Inv X v8 σ H s){a:vR}{xs:List V}(ha:SqT X.K H a xs)(hb:SqT X.K H b xs)(fl:xs.all flatV=true){A:vX}(hu:A.units<cLine):SeqAt.EqAt A s (.ref a) (.ref b) true:=by
 by_cases e:a=b
 ·subst e;exact .same _
 ·obtain⟨its,rv,pl,hz⟩:=I.tuple ha;obtain⟨its2,rv2,pl2,hz2⟩:=I.tuple hb;have l1:=rv.length;have l2:=rv2.length;refine .of_refs e ?_;have R:=SeqAt.RcAt.tuples (A:=A) (e:=λ _=>true) (show s.heap.IsTuple a its.toArray from pl) (show s.heap.IsTuple b its2.toArray from pl2) hu (λ j h1 h2=>?_)
  ·have e2:((List.range (min its.toArray.size its2.toArray.size)).all (λ _=>true)&&its.toArray.size==its2.toArray.size)=true:=by
    rw [rh,rh,<-l1,<-l2];simp
   rw [e2] at R;exact R
  ·have j1:j<xs.length:=by simp at h1;omega
   obtain⟨u1,e1,r1⟩:=rv.get (i:=j) (x:=xs[j]) (by simp [j1]);obtain⟨u2,e2,r2⟩:=rv2.get (i:=j) (x:=xs[j]) (by simp [j1]);have g1:its.toArray[j]=u1:=by
    obtain⟨_,z⟩:=rm.mp e1;simpa using z
   have g2:its2.toArray[j]=u2:=by
    obtain⟨_,z⟩:=rm.mp e2;simpa using z
   have f1:flatV xs[j]=true:=tS.mp fl _ (tT j1);rw [g1,g2,<-dk _ f1];exact ey r1 r2 f1 f1
end
end L2
set_option maxHeartbeats 4000000
namespace QQ
open PySem PyProof.Rows
section
variable {prog:vU}{w:vV}{A:vX}{E:vS -> vT -> Prop}{s:vT}
end
end QQ
namespace L2
open PySem PySem.Spec PyProof.Rows QQ
variable {X:Cx}
def oi (K:Frag):R2:=λ x y H Q=>∃(p q:vR) (xs:List V),x=.ref p/\y=.ref q/\SqT K H p xs/\SqT K H q xs/\xs.all flatV=true/\Q (.bl false) H
theorem mF (hu:X.A.units+64<cLine):OpR X (compareOp .NotEq) (oi X.K):=by
 intro v8 s σ H x y v u Q I rx ry h;obtain⟨p,q,xs,rfl,rfl,ha,hb,fl,k⟩:=h;cases rx;cases ry;obtain⟨its,rv,pl,hz⟩:=I.tuple ha;obtain⟨its2,rv2,pl2,hz2⟩:=I.tuple hb;have l1:=rv.length;have l2:=rv2.length;refine vj (e:=λ _=>true) (show s.heap.IsTuple p its.toArray from pl) (show s.heap.IsTuple q its2.toArray from pl2) Z4 (λ j h1 h2=>?_) _ _ _ _ ?_
 ·have j1:j<xs.length:=by simp at h1;omega
  obtain⟨u1,e1,r1⟩:=rv.get (i:=j) (x:=xs[j]) (by simp [j1]);obtain⟨u2,e2,r2⟩:=rv2.get (i:=j) (x:=xs[j]) (by simp [j1]);have g1:its.toArray[j]=u1:=by
   obtain⟨_,z⟩:=rm.mp e1;simpa using z
  have g2:its2.toArray[j]=u2:=by
   obtain⟨_,z⟩:=rm.mp e2;simpa using z
  have f1:flatV xs[j]=true:=tS.mp fl _ (tT j1);rw [g1,g2,<-dk _ f1];exact ey r1 r2 f1 f1
 ·refine⟨.bl false,H,I,?_,k⟩;show Value.bool _=Value.bool _;congr 1;rw [rh,rh,<-l1,<-l2];simp
theorem kd {v8:List (vR×v1)}{σ:St}{H:Hp}{s:vT}(I:Inv X v8 σ H s){a b:vR}{ns:List Int}(ha:SqL X.K H a (ns.map V.int))(hb:SqL X.K H b (ns.map V.int)){A:vX}(hu:A.units<cLine):SeqAt.EqAt A s (.ref a) (.ref b) true:=by
 by_cases e:a=b
 ·subst e;exact .same _
 ·obtain⟨its,rv,pl,hz⟩:=I.list ha;obtain⟨its2,rv2,pl2,hz2⟩:=I.list hb;have l1:=rv.length;have l2:=rv2.length;rw [rg] at l1 l2;refine .of_refs e ?_;have R:=SeqAt.RcAt.lists (A:=A) (e:=λ _=>true) pl.isList pl2.isList (by rw [rh,rh];omega) hu (λ j h1 h2=>?_)
  ·have e2:(List.range its.toArray.size).all (λ _=>true)=true:=Z6;rw [e2] at R;exact R
  ·have j1:j<ns.length:=by simp at h1;omega
   obtain⟨u1,e1,r1⟩:=rv.get (i:=j) (x:=.int ns[j]) (by simp [j1]);obtain⟨u2,e2,r2⟩:=rv2.get (i:=j) (x:=.int ns[j]) (by simp [j1]);have g1:its.toArray[j]=u1:=by
    obtain⟨_,z⟩:=rm.mp e1;simpa using z
   have g2:its2.toArray[j]=u2:=by
    obtain⟨_,z⟩:=rm.mp e2;simpa using z
   have hh:eqV (V.int ns[j]) (V.int ns[j])=true:=dk _ rfl;rw [g1,g2,<-hh];exact ey r1 r2 rfl rfl
def pd (K:Frag)(H:Hp)(p q:vR):Prop:=∃ps qs:List vR,SqL K H p (ps.map V.ref)/\SqL K H q (qs.map V.ref)/\ps.length=qs.length/\∀(i:Nat) (a b:vR),ps[i]?=some a->qs[i]?=some b->∃ns:List Int,SqL K H a (ns.map V.int)/\SqL K H b (ns.map V.int)
def qx (K:Frag):R2:=λ x y H Q=>∃(p q:vR),x=.ref p/\y=.ref q/\pd K H p q/\Q (.bl false) H
theorem nc (hu:X.A.units+64<cLine):OpR X (compareOp .NotEq) (qx X.K):=by
 intro v8 s σ H x y v u Q I rx ry h;obtain⟨p,q,rfl,rfl,⟨ps,qs,h1,h2,hl,hi⟩,k⟩:=h;cases rx;cases ry;obtain⟨its,rv,pl,hz⟩:=I.list h1;obtain⟨its2,rv2,pl2,hz2⟩:=I.list h2;have l1:=rv.length;have l2:=rv2.length;rw [rg] at l1 l2;refine vz (e:=λ _=>true) pl.isList pl2.isList (by rw [rh,rh];omega) Z4 (λ j j1 j2=>?_) _ _ _ _ ?_
 ·have k1:j<ps.length:=by simp at j1;omega
  have k2:j<qs.length:=Z4;obtain⟨u1,e1,r1⟩:=rv.get (i:=j) (x:=.ref ps[j]) (by simp [k1]);obtain⟨u2,e2,r2⟩:=rv2.get (i:=j) (x:=.ref qs[j]) (by simp [k2]);cases r1;cases r2;have g1:its.toArray[j]=.ref ps[j]:=by
   obtain⟨_,z⟩:=rm.mp e1;simpa using z
  have g2:its2.toArray[j]=.ref qs[j]:=by
   obtain⟨_,z⟩:=rm.mp e2;simpa using z
  obtain⟨ns,q1,q2⟩:=hi j ps[j] qs[j] (by simp [k1]) (by simp [k2]);rw [g1,g2];exact kd I q1 q2 (by show X.A.units+1<_;omega)
 ·refine⟨.bl false,H,I,?_,k⟩;show Value.bool _=Value.bool _;simp
end L2
namespace QQ
open PySem PyProof.Rows
section
variable {prog:vU}{w:vV}{A:vX}{E:vS -> vT -> Prop}{s:vT}
end
end QQ
namespace L2
open PySem PySem.Spec PyProof.Rows
section
variable {X:Cx}{tg:vZ}
end
end L2
set_option maxHeartbeats 4000000
namespace L2
open PySem PySem.Spec PyProof.Rows QQ
variable {X:Cx}
def qy (K:Frag):R2:=λ x y H Q=>∃(p q:vR),x=.ref p/\y=.ref q/\((∃a b:Str,SqT K H p [.str a]/\SqT K H q [.str b]/\Q (.bl (!(a==b))) H)\/(∃a b:Bool,SqT K H p [.bl a]/\SqT K H q [.bl b]/\Q (.bl (!(a==b))) H))
theorem dz {x:V}{us:List vS}(r:Vals [x] us):∃u,us=[u]/\RelV x u:=by
 cases r with
 |cons r rr=>cases rr;exact⟨_,rfl,r⟩
theorem dQ (hu:X.A.units<cLine):OpR X (compareOp .NotEq) (qy X.K):=by
 intro v8 s σ H x y v u Q I rx ry h;obtain⟨p,q,rfl,rfl,h⟩:=h;cases rx;cases ry;rcases h with⟨a,b,h1,h2,k⟩|⟨a,b,h1,h2,k⟩
 ·obtain⟨its,rv,pl,hz⟩:=I.tuple h1;obtain⟨its2,rv2,pl2,hz2⟩:=I.tuple h2;obtain⟨u1,rfl,t1,rfl⟩:=dz rv;obtain⟨u2,rfl,t2,rfl⟩:=dz rv2;refine vj (e:=λ _=>a==b) (show s.heap.IsTuple p _ from pl) (show s.heap.IsTuple q _ from pl2) hu (λ j h1 h2=>?_) _ _ _ _ ?_
  ·have e:j=0:=by simp at h1;assumption
   subst e;exact gU _ _ a t1 b t2
  ·refine⟨.bl (!(a==b)),H,I,?_,k⟩;show Value.bool _=Value.bool _;congr 1;simp
 ·obtain⟨its,rv,pl,hz⟩:=I.tuple h1;obtain⟨its2,rv2,pl2,hz2⟩:=I.tuple h2;obtain⟨u1,rfl,r1⟩:=dz rv;obtain⟨u2,rfl,r2⟩:=dz rv2;cases r1;cases r2;refine vj (e:=λ _=>a==b) (show s.heap.IsTuple p _ from pl) (show s.heap.IsTuple q _ from pl2) hu (λ j h1 h2=>?_) _ _ _ _ ?_
  ·have e:j=0:=by simp at h1;assumption
   subst e
   first|exact uX a b|exact uX _ _
  ·refine⟨.bl (!(a==b)),H,I,?_,k⟩;show Value.bool _=Value.bool _;congr 1;simp
section
variable {X:Cx}{pos:Pos}
end
section
variable {X:Cx}{e e1:vZ}{te t1:TE}{pos p2:Pos}
end
section
variable {X:Cx}{a b:vZ}{rest:List vZ}{ta tb:TE}{pos:Pos}
end
structure MkB (K:Frag)(C:vR):Prop where
 makes:makesIn K C=true
 init:findIn K (.ref C) "__init__"=some (some (.builtin "object.__init__"))
 kp:keepIn K (.ref C)=true
def o8 (C:vR):TE:=λ _ H Q=>∀x dx,H x=none->H dx=none->dx≠x->Q (.ref x) (upd (upd H dx (.own x)) x (.ins C dx []))
theorem di {C:vR}{x:Str}{p pos:Pos}(M:MkB X.K C)(hg:Gl X x)(hm:X.mg x=some (.ref C))(hdb:autoParam ((x==("__debug__":Str))=false) ZZ):PE X (.Call (.Name x p) [] [] pos) (o8 C):=by
 intro v8 s σ H Q I h;refine sI (ld_glob I hg hm ?_ hdb);refine uw I.kIn M.kp ?_;have I2:=Inv.made (C:=C) I;have hq:=h (s.heap.objs.size+1) s.heap.objs.size (I.hok.fresh (vI _)) (I.hok.fresh (rB _)) (rL (uu _));refine u7 (jF I.kIn M.makes M.init (λ self=>Looks.of_pure (PySem.W.oi_bind self)) ?_);have Y:=vK (M:=model X.prog X.w) I.kIn M.makes;have e2:((s.heap.push emptyDict).push (instObj C s.heap.objs.size)).get? (s.heap.objs.size+1)=some (instObj C s.heap.objs.size):=by
  have:=rF (s.heap.push emptyDict) (o:=instObj C s.heap.objs.size) rfl
  rwa [tU] at this
 have t1:Looks (model X.prog X.w) ((s.heap.push emptyDict).push (instObj C s.heap.objs.size)) (typeOf (.ref (s.heap.objs.size+1))) (.ref C):=(Looks.ld e2).andThen .now;have t2:Looks (model X.prog X.w) ((s.heap.push emptyDict).push (instObj C s.heap.objs.size)) (isInstance (.ref (s.heap.objs.size+1)) (.type "object")) true:=t1.andThen (Y.top.keeps λ b o e=>rf _ (rf _ e));refine codeAny_call_builtin PySem.W.oi_plain PySem.W.entry_oi (@PySem.W.check_slot (model X.prog X.w) _ _ _ "object.__init__" "object" "__init__" (.ref (s.heap.objs.size+1)) [] [] _ PySem.W.oi_kind PySem.W.oi_split t2 (PySem.W.oi_args (.ref (s.heap.objs.size+1))) ?_);rw [oi_run];exact rA (And.intro rfl ⟨.ref (s.heap.objs.size+1),_,I2,rfl,hq⟩)
section
variable {X:Cx}
end
end L2
set_option maxHeartbeats 2000000
namespace L2
open PySem PyProof.Rows
theorem iy {c:String}{xs:Array vS}{n:Nat}:∀v,(seqObj c xs n).data≠ .cell v:=λ v h=>by cases h
theorem Inv.turn {X:Cx}{v8:List (vR×v1)}{σ:St}{H:Hp}{s:vT}{a:vR}{g:v1->v1}(I:Inv X v8 σ H s)(fa:FpOk X v8 H a):Inv X v8 σ H {s with heap:=s.heap.update a g}:=
 I.turned (t':=s.toks) (λ b o hb e=>by rw [Heap.get?_update_ne _ _ _ _ hb];exact e) fa.1 fa.2.1 fa.2.2.2.1 fa.2.2.2.2.1 fa.2.2.2.2.2
end L2
set_option maxHeartbeats 2000000
namespace L2
open PySem PyProof.Rows QQ
section
variable {X:Cx}{k:Nat}{f:vR}{fd:vW}{x:Str}{sp:Sp}{e:vZ}{te:TE}{fe:vZ}{p kp pos:Pos}{y:Str}
end
section
variable {X:Cx}
end
end L2
set_option maxHeartbeats 4000000
namespace L2
open PySem PySem.Spec PyProof.Rows QQ
section
variable {X:Cx}
end
end L2
namespace W16
end W16
namespace BP
def val (B:List Nat):Nat:=B.foldl (λ a b=>a*256+b) 0
theorem eZ (B:List Nat):∀a,B.foldl (λ a b=>a*256+b) a=a*256^B.length+val B:=by
 induction B with
 |nil=>intro a;simp [val]
 |cons b B ih=>
  intro a;have h0:val (b::B)=b*256^B.length+val B:=by
   show B.foldl (λ a b=>a*256+b) (0*256+b)=_;rw [ih,vM,Nat.zero_add]
  show B.foldl (λ a b=>a*256+b) (a*256+b)=_;rw [ih,h0,sr,sH,Nat.add_mul,sK,sY 256,Nat.add_assoc]
theorem jm:val []=0:=rfl
theorem cp (b:Nat)(B:List Nat):val (b::B)=b*256^B.length+val B:=by
 show B.foldl (λ a b=>a*256+b) (0*256+b)=_;rw [eZ,vM,Nat.zero_add]
theorem cO (A B:List Nat):val (A++B)=val A*256^B.length+val B:=by
 show(A++B).foldl (λ a b=>a*256+b) 0=_;rw [vD,eZ];rfl
theorem val_snoc (A:List Nat)(b:Nat):val (A++[b])=val A*256+b:=by
 show(A++[b]).foldl (λ a b=>a*256+b) 0=_;rw [vD];rfl
theorem val_lt {B:List Nat}(h:∀b∈B,b<256):val B<256^B.length:=by
 induction B with
 |nil=>simp [val]
 |cons b B ih=>
  rw [cp,sr,sH];have h1:=ih λ x hx=>h x (sN _ hx)
  have h2:b<256:=h b ux;have h3:b*256^B.length≤255*256^B.length:=Nat.mul_le_mul_right _ (Nat.le_of_lt_succ h2);lia
theorem pow256 (n:Nat):256^n=2^(8*n):=by rw [Nat.pow_mul]
theorem pow_pos2 (n:Nat):0<2^n:=sw Z9
theorem ku {B:List Nat}(h:∀b∈B,b<256)(n:Nat)(hn:n≤B.length):val (B.take n)=val B/256^(B.length-n):=by
 have e:val B=val (B.take n)*256^(B.drop n).length+val (B.drop n):=by rw [<-cO,ua]
 have hd:val (B.drop n)<256^(B.drop n).length:=val_lt λ b hb=>h b (tm hb)
 rw [ur] at e hd;rw [e,sY,Nat.mul_add_div (sw Z9),vJ hd,Nat.add_zero]
theorem ji {B:List Nat}(h:∀b∈B,b<256){m n:Nat}(hmn:m≤n)(hn:n≤B.length):val ((B.take n).drop m)=val B/256^(B.length-n)%256^(n-m):=by
 have e:val (B.take n)=val ((B.take n).take m)*256^((B.take n).drop m).length+val ((B.take n).drop m):=by rw [<-cO,ua]
 have hl:((B.take n).drop m).length=n-m:=by rw [ur,rW];omega
 have hd:val ((B.take n).drop m)<256^((B.take n).drop m).length:=val_lt λ b hb=>h b (sG (tm hb))
 rw [hl] at e hd;rw [<-ku h n hn,e,sY,Nat.mul_add_mod,sU hd]
theorem bits_cut {B:List Nat}(h:∀b∈B,b<256){p s:Nat}(hp:p+s≤8*B.length):
  val ((B.take ((p+s+7)/8)).drop (p/8))/2^(8*((p+s+7)/8)-(p+s))%2^s=val B/2^(8*B.length-(p+s))%2^s:=by
 have h1:p/8≤(p+s+7)/8:=Z4;have h2:(p+s+7)/8≤B.length:=Z4;rw [ji h h1 h2,pow256,pow256];have e1:2^(8*((p+s+7)/8-p/8))=2^(8*((p+s+7)/8)-(p+s))*2^(8*((p+s+7)/8-p/8)-(8*((p+s+7)/8)-(p+s))):=by
  rw [<-tM];congr 1;omega
 rw [e1,Nat.mod_mul_right_div_self,uF,<-tM];have e2:2^(8*((p+s+7)/8-p/8)-(8*((p+s+7)/8)-(p+s)))=2^s*2^(8*((p+s+7)/8-p/8)-(8*((p+s+7)/8)-(p+s))-s):=by
  rw [<-tM];congr 1;omega
 rw [e2,Nat.mod_mul_right_mod];congr 3;omega
structure BR (N T:Nat)(B:List Nat)(r k:Nat):Prop where
 tot:T=8*B.length+k
 num:N=val B*2^k+r
 low:r<2^k
 byt:∀b∈B,b<256
theorem BR.init:BR 0 0 [] 0 0:=⟨rfl,rfl,Z9,λ _ h=>nomatch h⟩
end BP
namespace W13
end W13
namespace W17
open BP W13
end W17
set_option maxHeartbeats 4000000
namespace K23
open PySem L2 QQ W17 W16
seal PE PA PS PSs PT PW PG PI
variable {f:vR}{fd fdW:vW}
noncomputable def top (i:Nat):v7:=PySem.Challenge.pw_balepress_k23_blocks_refused.main.body.getD i (.Pass ⟨0,0,0,0⟩)
abbrev dO:v7:=top 23
abbrev br:v7:=top 24
abbrev cD:v7:=top 25
abbrev cM:v7:=top 26
abbrev bp:v7:=top 27
abbrev cA:v7:=top 30
abbrev eN:v7:=top 31
abbrev bQ:v7:=top 74
abbrev bz:v7:=top 83
abbrev cV:v7:=top 84
abbrev cI:v7:=top 89
abbrev iK:v7:=aZ (top 33) 0
abbrev kc:v7:=aZ (top 93) 3
abbrev er:v7:=aZ (top 94) 1
abbrev d8:v7:=aZ (top 94) 2
abbrev d4:v7:=aZ (top 95) 2
abbrev lj:v7:=top 98
abbrev cu:v7:=top 99
abbrev vN (n:Nat):V:=.int ((n:Nat):Int)
structure Txt (K:Frag)(mg:Str->Option vS):Prop where
 isi:mg "isinstance"=none
 bool:mg "bool"=none
 int:mg "int"=none
 list:mg "list"=none
 len:mg "len"=none
 range:mg "range"=none
 max:mg "max"=none
 min:mg "min"=none
 great:∃t,mg "GREATEST"=some (.int 255 t)
 most:∃t,mg "MOST_SIZE"=some (.int 24 t)
 signs:∃t,mg "MOST_SIGNS"=some (.int 64 t)
 ahead:∃t,mg "MOST_AHEAD"=some (.int 192 t)
 far:∃t,mg "FARTHEST"=some (.int 255 t)
 least:∃t,mg "LEAST_COPIED"=some (.int 3 t)
 mostC:∃t,mg "MOST_COPIED"=some (.int 18 t)
 sum:mg "sum"=none
 enum:mg "enumerate"=none
 sort:mg "sorted"=none
 bits:∃t,mg "MOST_BITS"=some (.int 6 t)
 mlen:∃t,mg "MOST_LENGTH"=some (.int 12 t)
 things:∃t,mg "MOST_THINGS"=some (.int 300 t)
 count:∃t,mg "MOST_COUNT"=some (.int 1000000 t)
 many:∃t,mg "MANY"=some (.int 272 t)
 again:∃t,mg "AGAIN"=some (.int 7 t)
 leastA:∃t,mg "LEAST_AGAIN"=some (.int 3 t)
 mostA:∃t,mg "MOST_AGAIN"=some (.int 66 t)
 first:∃t,mg "FIRST_COPY"=some (.int 256 t)
 isnumb:∃(f:vR) (fd:vW),Fun K "is_number" "is_number" dO f fd/\mg "is_number"=some (.ref f)/\Binds K fd ["thing"] []
structure Fn (K:Frag)(mg:Str->Option vS)(x:Str)(st:v7)(ps:List Str)(f:vR)(fd:vW):Prop where
 F:Fun K x x st f fd
 m:mg x=some (.ref f)
 b:Binds K fd ps []
structure Me (K:Frag)(C:vR)(x qual:Str)(st:v7)(ps:List Str)(f:vR)(fd:vW):Prop where
 F:Fun K x qual st f fd
 m:Meth K C x f
 b:Binds K fd ps []
section
variable (K:Frag)
theorem kF:kitOne K (.type "int") (.type "bool")=some false:=by
 show(if(Value.type "int"==Value.type "bool")=true then some true else if kitMeta "bool"=true then(fastBuiltinMro "int").map (·.contains (.type "bool")) else none)=some false;decide+kernel
theorem ki:kitOne K (.type "int") (.type "int")=some true:=by
 show(if(Value.type "int"==Value.type "int")=true then some true else if kitMeta "int"=true then(fastBuiltinMro "int").map (·.contains (.type "int")) else none)=some true;decide+kernel
theorem gh:kitOne K (.type "list") (.type "list")=some true:=by
 show(if(Value.type "list"==Value.type "list")=true then some true else if kitMeta "list"=true then(fastBuiltinMro "list").map (·.contains (.type "list")) else none)=some true;decide+kernel
end
theorem dP {B:List Nat}{i:Nat}{y:V}(h:(B.map vN)[i]?=some y):∃b,B[i]?=some b/\y=vN b:=by
 rw [si] at h;cases e:B[i]? with
 |none=>rw [e] at h;cases h
 |some z=>rw [e] at h;exact⟨z,rfl,(rH h).symm⟩
theorem bM {B:List Nat}{i b:Nat}(h:B[i]?=some b):B.take (i+1)=B.take i++[b]:=by rw [List.take_add_one,h];rfl
theorem cq {n:Nat}(h:n≤2000):n≤sizeLine:=rP h Z9
theorem i6 {n:Nat}(h:n≤2000):n<sizeLine:=tY h Z9
section
def cf:Sp:=λ vs H Q _=>∃(i lo hi:Int),vs=[.int i,.int lo,.int hi]/\Q (.bl (decide (lo≤i)&&decide (i≤hi))) H
theorem i7:FnScope ["thing","least","most"] ["thing","least","most"] (aj br):=⟨rfl,rfl,rfl,Z8,rfl,Z8,Z8⟩
def ij:Sp:=λ vs H Q _=>∃(x:V) (b:Bool),vs=[x]/\((∃i,x=.int i)/\b=true)/\Q (.bl b) H
theorem kD:FnScope ["thing"] ["thing"] (aj dO):=⟨rfl,rfl,rfl,Z8,rfl,Z8,Z8⟩
theorem fU (F:Fun K "is_number" "is_number" dO f fd)(T:Txt K mg):FnOk P w K mg base CX0 0 f fd ["thing"] ij:=by
 refine F.ok0 kD λ v9 A outer s H vs Q E h=>?_
 intro _;obtain⟨x,b,rfl,hw,k⟩:=h;refine⟨_,ai (au (cn (aH bB Z7 T.isi rQ (ac (pv 0) (ac (bG (v:=.ty "int") Z7 T.int uO rfl) ae))) (cU (kB (aH bB Z7 T.isi rQ (ac (pv 0) (ac (bG (v:=.ty "bool") Z7 T.bool PyProof.Rows.boot_bool rfl) ae))))))),?_⟩;obtain⟨⟨i,rfl⟩,rfl⟩:=hw;refine⟨_,rfl,_,_,_,_,rfl,.int _,ki K,_,rfl,bh ?_⟩;exact⟨_,rfl,_,_,_,_,rfl,.int _,kF K,_,rfl,k⟩
theorem cw (F:Fn K mg "is_whole" br ["thing","least","most"] f fd)(T:Txt K mg):FnOk P w K mg base CX0 1 f fd ["thing","least","most"] cf:=by
 obtain⟨fN,fdN,NF,Nm,Nb⟩:=T.isnumb;refine F.F.ok i7 λ v9 A outer s H vs Q E hr h=>?_
 intro _;obtain⟨i,lo,hi,rfl,k⟩:=h;refine⟨_,ai (au (cn (ap (fU NF T) hr Z7 Nm NF.kp Nb .nil aw (ac (pv 0) ae)) (cU (gP iW iW (pv 1) (pv 0) (pv 2))))),?_⟩;refine⟨_,rfl,_,true,rfl,⟨⟨i,rfl⟩,rfl⟩,_,rfl,bh ?_⟩;refine⟨_,rfl,_,rfl,_,_,rfl,rfl,_,rfl,?_⟩;refine aT (λ h1=>?_) (λ h1=>?_)
 ·refine⟨_,rfl,_,_,rfl,rfl,?_⟩;rw [h1,Bool.true_and] at k;exact k
 ·have h2:decide (lo≤i)=false:=by simpa using h1
  rw [h2,uN] at k;exact k
def cT:Sp:=λ vs H Q _=>∃(a:vR) (B:List Nat) (lo hi:Int),vs=[.ref a,.int lo,.int hi]/\H a=some (.lst (B.map vN))/\(∀b∈B,lo≤((b:Nat):Int)/\((b:Nat):Int)≤hi)/\Q (.bl true) H
theorem scAreWhole:FnScope ["thing","least","most","number"] ["thing","least","most"] (aj cD):=⟨rfl,rfl,rfl,Z8,rfl,Z8,Z8⟩
theorem cy {fW:vR}(F:Fn K mg "are_whole" cD ["thing","least","most"] f fd)(W:Fn K mg "is_whole" br ["thing","least","most"] fW fdW)(T:Txt K mg):FnOk P w K mg base CX0 2 f fd ["thing","least","most"] cT:=by
 have GW:FnOk P w K mg base CX0 1 fW fdW ["thing","least","most"] cf:=cw W T;refine F.F.ok scAreWhole λ v9 A outer s H vs Q E hr h=>?_
 intro _;obtain⟨a,B,lo,hi,rfl,hB,hb,k⟩:=h;refine⟨_,ah (aI (bD (ba (aH bB Z7 T.isi rQ (ac (pv 0) (ac (bG (v:=.ty "list") Z7 T.list sQ rfl) ae))))) (ai (au cj)) ay)
  (ah (cm sV rfl (bS (pv 0)) (a8 (i:=3) scAreWhole.nd)
   (ai (aI (bD (ba (ap GW hr Z7 W.m W.F.kp W.b .nil aw (ac (pv 3) (ac (pv 1) (ac (pv 2) ae)))))) (ai (au cj)) ay)))
  (ai (au cj))),?_⟩
 refine⟨_,rfl,_,_,_,_,rfl,.lst hB,gh K,_,rfl,aW ?_⟩;refine⟨_,rfl,a,rfl,⟨_,SqL.of hB⟩,bL (D:=⟨_,_,λ _ _=>False,λ _ _=>False⟩) (K:=K) (a:=a) (xs:=B.map vN) (λ i σ H2=>∃v:Option V,σ=[some (.ref a),some (.int lo),some (.int hi),v]/\H2=H)
  ⟨none,rfl,rfl⟩ (λ i σ H2 _ z9=>by obtain⟨_,_,e⟩:=z9;exact by rw [e];exact SqL.of hB) ?_ ?_⟩
 ·rintro i y σ H2 hi ⟨v,rfl,rfl⟩;obtain⟨b,hb1,rfl⟩:=dP hi;obtain⟨h2,h3⟩:=hb b (sO hb1);refine⟨_,rfl,_,rfl,_,rfl,_,_,_,rfl,_,rfl,?_⟩;rw [rn h2,rn h3];exact aW ⟨_,rfl,rfl⟩
 ·rintro σ H2 ⟨v,rfl,rfl⟩;exact k
def spIsRow:Sp:=λ vs H Q _=>∃(a:vR) (B:List Nat),vs=[.ref a]/\H a=some (.lst (B.map vN))/\(∀b∈B,b<256)/\Q (.bl true) H
theorem jj:FnScope ["thing"] ["thing"] (aj cM):=⟨rfl,rfl,rfl,Z8,rfl,Z8,Z8⟩
structure Rows (K:Frag)(mg:Str->Option vS):Prop where
 X:Txt K mg
 whole:∃f fd,Fn K mg "is_whole" br ["thing","least","most"] f fd
 arewhole:∃f fd,Fn K mg "are_whole" cD ["thing","least","most"] f fd
 isrow:∃f fd,Fn K mg "is_row" cM ["thing"] f fd
theorem ei (F:Fn K mg "is_row" cM ["thing"] f fd)(Y:Rows K mg):FnOk P w K mg base CX0 3 f fd ["thing"] spIsRow:=by
 obtain⟨T,⟨_,_,W⟩,⟨_,_,AW⟩,_⟩:=Y;obtain⟨tg,hg⟩:=T.great;refine F.F.ok jj λ v9 A outer s H vs Q E hr h=>?_
 intro _;obtain⟨a,B,rfl,hB,hb,k⟩:=h;refine⟨_,ai (au (ap (cy AW W T) hr Z7 AW.m AW.F.kp AW.b .nil aw (ac (pv 0) (ac ag (ac (aR (v:=.int 255) Z7 hg ⟨tg,rfl⟩) ae))))),?_⟩;exact⟨_,rfl,a,B,0,255,rfl,hB,λ b z=>by have:=hb b z;lia,k⟩
def spNeedRow:Sp:=λ vs H Q _=>∃(a:vR) (B:List Nat),vs=[.ref a]/\H a=some (.lst (B.map vN))/\(∀b∈B,b<256)/\∀l,H l=none->Q (.ref l) (upd H l (.lst (B.map vN)))
theorem eJ:FnScope ["thing"] ["thing"] (aj bp):=⟨rfl,rfl,rfl,Z8,rfl,Z8,Z8⟩
theorem bY (F:Fn K mg "need_row" bp ["thing"] f fd)(Y:Rows K mg):FnOk P w K mg base CX0 4 f fd ["thing"] spNeedRow:=by
 obtain⟨fR,fdR,R⟩:=Y.isrow;have T:=Y.X;refine F.F.ok eJ λ v9 A outer s H vs Q E hr h=>?_
 intro _;obtain⟨a,B,rfl,hB,hb,k⟩:=h;refine⟨_,ah (aI (bD (ba (ap (ei R Y) hr Z7 R.m R.F.kp R.b .nil aw (ac (pv 0) ae)))) (ai bR) ay)
  (ai (au (bq cb Z7 T.list sQ (ac (pv 0) ae)))),?_⟩
 refine⟨_,rfl,a,B,rfl,hB,hb,_,rfl,aW ?_⟩;exact⟨_,rfl,a,_,rfl,.inl (SqL.of hB),k⟩
def spNeedSize:Sp:=λ vs H Q _=>∃s:Nat,vs=[vN s]/\s≤24/\Q .non H
theorem ir:FnScope ["size"] ["size"] (aj cA):=⟨rfl,rfl,rfl,Z8,rfl,Z8,Z8⟩
theorem ib {fW:vR}(F:Fn K mg "need_size" cA ["size"] f fd)(W:Fn K mg "is_whole" br ["thing","least","most"] fW fdW)(T:Txt K mg):FnOk P w K mg base CX0 2 f fd ["size"] spNeedSize:=by
 have GW:FnOk P w K mg base CX0 1 fW fdW ["thing","least","most"] cf:=cw W T;obtain⟨tg,hg⟩:=T.most;refine F.F.ok ir λ v9 A outer s H vs Q E hr h=>?_
 intro _;obtain⟨z,rfl,hz,k⟩:=h;refine⟨_,ai (aI (bD (ba (ap GW hr Z7 W.m W.F.kp W.b .nil aw (ac (pv 0) (ac ag (ac (aR (v:=.int 24) Z7 hg ⟨tg,rfl⟩) ae)))))) (ai bR) ay),?_⟩;refine⟨_,rfl,_,_,_,rfl,_,rfl,?_⟩;have e1:(decide ((0:Int)≤(z:Int))&&decide ((z:Int)≤24))=true:=by
  rw [rn Z5,rn (by exact Nat.ToInt.of_le rfl rfl hz)];rfl
 rw [e1];exact aW k
def spOnes:Sp:=λ vs H Q _=>∃s:Nat,vs=[vN s]/\s≤1000/\Q (vN (2^s-1)) H
theorem pB:FnScope ["size"] ["size"] (aj eN):=⟨rfl,rfl,rfl,Z8,rfl,Z8,Z8⟩
theorem nk (F:Fn K mg "ones" eN ["size"] f fd):FnOk P w K mg base CX0 1 f fd ["size"] spOnes:=by
 refine F.F.ok pB λ v9 A outer s H vs Q E hr h=>?_
 intro _;obtain⟨z,rfl,hz,k⟩:=h;refine⟨_,ai (au (ak bA (ak bK ag (pv 0)) ag)),?_⟩;refine⟨_,rfl,_,_,rfl,rfl,⟨rN _,Z5,Z9⟩,_,_,rfl,rfl,?_⟩;have e1:(1:Int)*2^((z:Nat):Int).toNat-1=((2^z-1:Nat):Int):=by
  have:=BP.pow_pos2 z;rw [rD,Int.one_mul];have e2:((2^z:Nat):Int)=(2:Int)^z:=Z6;exact(Int.ofNat_sub this).symm
 dsimp only;rw [e1];exact k
end
theorem gR (a b k:Nat)(h:b<2^k):(a*2^k)&&& b=0:=by
 have e1:b&&& (2^k-1)=b:=by rw [tK,sU h]
 have e2:(a*2^k)&&& (2^k-1)=0:=by rw [tK,Nat.mul_mod_left]
 have e3:(a*2^k)&&& (b&&& (2^k-1))=((a*2^k)&&& (2^k-1))&&& b:=by rw [Nat.and_comm b,Nat.and_assoc]
 rw [e1,e2,Nat.zero_and] at e3;exact e3
theorem eh (k:Nat):((2^k:Nat):Int)=(2:Int)^k:=Z6
theorem o2 (a b k:Nat)(h:b<2^k):Builtin.bitOr ((a:Int)*2^((k:Nat):Int).toNat) (b:Int)=((a*2^k+b:Nat):Int):=by
 have e0:(a:Int)*2^((k:Nat):Int).toNat=((a*2^k:Nat):Int):=by rw [rD,Int.natCast_mul,eh]
 rw [e0,PyProof.Rows.bitOr_and,uH (rN (_*2^_)) (rN _),rD,rD,gR a b k h];exact Eq.symm ((λ {a b}=>Int.neg_inj.mp) rfl)
theorem dq (x k:Nat):Builtin.bitAnd (x:Int) ((2^k-1:Nat):Int)=((x%2^k:Nat):Int):=by
 rw [uH (rN _) Z5,rD,rD,tK]
theorem gr (x k:Nat):(x:Int)/2^((k:Nat):Int).toNat=((x/2^k:Nat):Int):=by
 rw [rD,<-eh];rfl
theorem cE (x k:Nat):(x:Int)*2^((k:Nat):Int).toNat=((x*2^k:Nat):Int):=by
 rw [rD,Int.natCast_mul,eh]
theorem mz {B:List Nat}{m n:Nat}(hm:m≤n)(hn:n≤B.length):cutV (B.map vN) (some (m:Int)) (some (n:Int))=((B.take n).drop m).map vN:=by
 unfold cutV;rw [HT.sIx_nat,HT.sIx_nat,rg,uz hn,uz (rP hm hn),List.map_drop,u4,List.drop_take]
section
def d6:Sp:=λ vs H Q _=>∃(a:vR) (B:List Nat) (p s:Nat),vs=[.ref a,vN p,vN s]/\H a=some (.lst (B.map vN))/\(∀b∈B,b<256)/\p+s≤8*B.length/\s≤24/\
 ∀H',Same H H'->Q (vN (BP.val B/2^(8*B.length-(p+s))%2^s)) H'
end
theorem pS:¬(("whole_bytes":Str)="rest"):=Z8
theorem lS:¬(("whole_bytes":Str)="rest_size"):=Z8
theorem qM:¬(("rest":Str)="rest_size"):=Z8
noncomputable def fW (d:vR) (r k:Nat):List (Str×V):=[("whole_bytes",.ref d),("rest",vN r),("rest_size",vN k)]
theorem pO (d:vR):aY "rest_size" (.int 0) (aY "rest" (.int 0) (aY "whole_bytes" (.ref d) []))=fW d 0 0:=by
 show(aY "rest_size" (.int 0) (if("whole_bytes":Str)="rest" then _ else(("whole_bytes":Str),V.ref d):: [("rest",V.int 0)]))=_;rw [rO pS];show(if("whole_bytes":Str)="rest_size" then _ else(("whole_bytes":Str),V.ref d)::(if("rest":Str)="rest_size" then _ else(("rest":Str),V.int 0):: [("rest_size",V.int 0)]))=_;rw [rO lS,rO qM];rfl
def oP (C:vR)(H:Hp)(p d:vR)(N T:Nat):Prop:=∃(dx:vR) (B:List Nat) (r k:Nat),H p=some (.ins C dx (fW d r k))/\H d=some (.lst (B.map vN))/\BP.BR N T B r k/\k<8
structure CB (K:Frag)(mg:Str->Option vS)(C:vR):Prop where
 cl:Cls K C
 nW:NoAttr K C "whole_bytes"
 nR:NoAttr K C "rest"
 nS:NoAttr K C "rest_size"
section
variable {C:vR}
def nV (C:vR):Sp:=λ vs H Q _=>∃(p dx:vR),vs=[.ref p]/\H p=some (.ins C dx [])/\∀(d:vR) (H':Hp),H d=none->oP C H' p d 0 0->(∀b o,H b=some o->b≠p->H' b=some o)->Q .non H'
theorem mv:FnScope ["self"] ["self"] (aj iK):=⟨rfl,rfl,rfl,Z8,rfl,Z8,Z8⟩
theorem lJ (F:Fun K "__init__" "BitRow.__init__" iK f fd)(T:CB K mg C):FnOk P w K mg base CX0 1 f fd ["self"] (nV C):=by
 refine F.ok mv λ v9 A outer s H vs Q E hr h=>?_
 intro _;obtain⟨p,dx,rfl,hp,k⟩:=h;refine⟨_,ah (bu (pv 0) (aq ae) rfl) (ah (bu (pv 0) ag rfl) (ai (bu (pv 0) ag rfl))),?_⟩;refine⟨sy _,λ d hd=>?_⟩;have npd:p≠d:=am hp hd;refine⟨_,rfl,p,C,dx,[],rfl,(by rw [ao npd];exact hp),T.cl,T.nW,(by show 0<1000;decide),_,rfl,p,C,dx,_,rfl,ad,T.cl,T.nR,(by show 1<1000;decide),?_⟩;refine⟨_,rfl,p,C,dx,_,rfl,ad,T.cl,T.nS,?_,?_⟩
 ·show(if("whole_bytes":Str)="rest" then _ else(("whole_bytes":Str),V.ref d):: [("rest",V.int 0)]).length<1000
  try dsimp only
  rw [rO pS];show 2<1000;decide
 refine k d _ hd ⟨dx,[],0,0,Eq.trans ad (sv (λ l=>some (HO.ins C dx l)) (pO d)),by rw [ao npd.symm,ao npd.symm,ao npd.symm,ad];rfl,BP.BR.init,Z9⟩ λ b o e hb=>?_
 rw [ao hb,ao hb,ao hb,ao (am e hd)];exact e
end
theorem oG:¬(("held":Str)="taken"):=Z8
noncomputable def fR (d:vR) (t:Nat):List (Str×V):=[("held",.ref d),("taken",vN t)]
theorem jd (d:vR)(t:Nat):aY "taken" (vN t) (aY "held" (.ref d) [])=fR d t:=by
 show(if("held":Str)="taken" then _ else(("held":Str),V.ref d):: [("taken",vN t)])=_;rw [rO oG];rfl
theorem ow (d:vR)(t t':Nat):aY "taken" (vN t') (fR d t)=fR d t':=by
 show(if("held":Str)="taken" then _ else(("held":Str),V.ref d)::(if("taken":Str)="taken" then [(("taken":Str),vN t')] else _))=_;rw [rO oG,se rfl];rfl
theorem eo (d:vR)(t:Nat):(fR d t).lookup ("held":Str)=some (.ref d):=by
 rw [<-jd,aA,rO oG,aA,se rfl]
theorem cZ (d:vR)(t:Nat):(fR d t).lookup ("taken":Str)=some (vN t):=by
 rw [<-jd,aA,se rfl]
theorem gW (d:vR)(t:Nat){m:Str}(h1:autoParam (¬m="taken") ZY)(h2:autoParam (¬m="held") ZY):(fR d t).lookup m=none:=by
 rw [<-jd,aA,rO h1,aA,rO h2];rfl
theorem oz (d:vR)(t:Nat):(fR d t).length<1000:=by show 2<1000;decide
section
variable {C:vR}
end
end K23
namespace CK
variable {p s w:Nat}
noncomputable def T (w p s:Nat):Nat:=((s*2)%2^w)^^^(if s.testBit (w-1) then p else 0)
theorem lr (a b:Nat):(a^^^b)*2=(a*2)^^^(b*2):=by
 have h:= @vB 1 a b;rw [tQ,tQ,tQ] at h;simpa using h
theorem pX (w p a b:Nat):T w p (a^^^b)=T w p a^^^T w p b:=by
 unfold T;rw [lr,u9,va];cases ha:a.testBit (w-1)<;>cases hb:b.testBit (w-1)
 ·simp
 ·simp [rS]
 ·simp;rw [rS,tJ (b*2%2^w),<-rS]
 ·simp;rw [rS (a*2%2^w),tJ p,rS (b*2%2^w),vq,vP]
theorem pb (w p:Nat):T w p 0=0:=by simp [T]
theorem mO (hp:p<2^w):T w p s<2^w:=by
 unfold T;refine sR (ss _ (sw Z9)) ?_
 split
 ·exact hp
 ·exact sw Z9
theorem qT (h:s*2<2^w):T w p s=s*2:=by
 unfold T;have hb:s.testBit (w-1)=false:=by
  refine uG ?_;cases w with
  |zero=>simp at h;lia
  |succ w=>rw [sH] at h;simp;exact Nat.lt_of_mul_lt_mul_right h
 rw [hb,sU h];simp
theorem qm (hw:0<w)(hp:p%2=1)(hs:s<2^w)(h:T w p s=0):s=0:=by
 unfold T at h;cases hb:s.testBit (w-1) with
 |true=>
  rw [hb] at h;simp at h;have h2:(s*2%2^w^^^p).testBit 0=true:=by
   rw [va,Nat.testBit_mod_two_pow];have e1:(s*2).testBit 0=false:=by rw [Nat.testBit_zero];simp
   have e2:p.testBit 0=true:=by rw [Nat.testBit_zero];simp [hp]
   rw [e1,e2];simp
  rw [h] at h2;simp at h2
 |false=>
  rw [hb] at h;simp at h;obtain⟨w',rfl⟩:∃w',w=w'+1:=⟨w-1,Z4⟩;have h3:s<2^w':=by
   have hb':s.testBit w'=false:=hb;refine Nat.lt_of_not_le λ hle=>?_
   have e:s.testBit w'=true:=by
    rw [sP];have:s/2^w'=1:=by
     have h4:s/2^w'<2:=uW (by rw [sH] at hs;exact hs);have h5:1≤s/2^w':=(Nat.le_div_iff_mul_le (sw Z9)).mpr Z4;omega
    rw [this];decide
   rw [hb'] at e;cases e
  have h6:s*2<2^(w'+1):=by rw [sH];omega
  rw [sU h6] at h;omega
noncomputable def Tn (w p:Nat):Nat->Nat->Nat
 |0,s=>s
 |n+1,s=>T w p (Tn w p n s)
theorem lM (w p n a b:Nat):Tn w p n (a^^^b)=Tn w p n a^^^Tn w p n b:=by
 induction n with
 |zero=>rfl
 |succ n ih=>show T w p (Tn w p n (a^^^b))=_;rw [ih,pX];rfl
theorem Tn_lt {n:Nat}(hp:p<2^w)(hs:s<2^w):Tn w p n s<2^w:=by
 cases n with
 |zero=>exact hs
 |succ n=>exact mO hp
theorem kW {n:Nat}(hw:0<w)(hp:p%2=1)(hp2:p<2^w)(hs:s<2^w)(h:Tn w p n s=0):s=0:=by
 induction n with
 |zero=>exact h
 |succ n ih=>exact ih (qm hw hp (Tn_lt hp2 hs) h)
theorem qv {n:Nat}(h:s*2^n<2^w):Tn w p n s=s*2^n:=by
 induction n with
 |zero=>simp [Tn]
 |succ n ih=>
  have h':s*2^n*2<2^w:=by rw [sH,<-sK] at h;exact h
  show T w p (Tn w p n s)=_;rw [ih (Nat.lt_of_add_left_lt h'),qT h',sH,sK]
noncomputable def F (w p:Nat):Nat->Nat->Nat->Nat
 |0,s,_=>s
 |m+1,s,V=>T w p (F w p m s (V/2)^^^((V%2)*2^(w-1)))
theorem mul_pow_xor (a b k:Nat)(hb:b<2^k):(a*2^k)^^^b=a*2^k+b:=by
 have h:=Nat.two_pow_add_eq_or_of_lt hb a;rw [sY] at h;rw [h];apply Nat.eq_of_testBit_eq;intro i;rw [va,Nat.testBit_or,Nat.testBit_mul_two_pow];by_cases hi:i<k
 ·have:¬k≤i:=Nat.not_le_of_lt hi;simp [this]
 ·have hbi:b.testBit i=false:=uG (rj hb (tu Z9 (uS hi)));simp [hbi]
theorem xor_mul_pow (a b k:Nat):(a*2^k)^^^(b*2^k)=(a^^^b)*2^k:=by
 have h:= @vB k a b;rw [tQ,tQ,tQ] at h;exact h.symm
theorem pj:∀(m:Nat) (s V:Nat),m≤w->F w p m s V=Tn w p m (s^^^((V%2^m)*2^(w-m)))
 |0,s,V,_=>by simp [F,Tn,Nat.mod_one]
 |m+1,s,V,h=>by
  show T w p (F w p m s (V/2)^^^((V%2)*2^(w-1)))=T w p (Tn w p m _);rw [pj m s (V/2) (Nat.le_of_succ_le h)];have e1:(V%2)*2^(w-1)=Tn w p m ((V%2)*2^(w-(m+1))):=by
   have e:(V%2)*2^(w-(m+1))*2^m=(V%2)*2^(w-1):=by rw [sK,<-tM];congr 2;lia
   rw [qv,e];rw [e];have h2:V%2<2:=ss _ Z9;have h3:2^w=2*2^(w-1):=by rw [<-uy];congr 1;lia
   rw [h3];exact(tx (sw Z9)).mpr h2
  rw [e1,<-lM,rS];congr 3;have e2:2^(w-m)=2*2^(w-(m+1)):=by rw [<-uy];congr 1;lia
  rw [e2,<-sK,xor_mul_pow];congr 1;have h2:V%2<2^1:=ss _ Z9;have:=mul_pow_xor (V/2%2^m) (V%2) 1 h2;rw [Nat.pow_one] at this;rw [this,sH,sY (2^m) 2,Nat.mod_mul];lia
theorem ii (w p j:Nat):∀(m s V:Nat),F w p (j+m) s V=F w p m (F w p j s (V/2^m)) V
 |0,s,V=>by simp [F]
 |m+1,s,V=>by
  show T w p (F w p (j+m) s (V/2)^^^_)=T w p (F w p m (F w p j s (V/2^(m+1))) (V/2)^^^_);rw [ii w p j m s (V/2),uF,<-uy]
theorem kU (w p:Nat):∀m,F w p m 0 0=0
 |0=>rfl
 |m+1=>by
  show T w p (F w p m 0 (0/2)^^^((0%2)*2^(w-1)))=0;rw [Nat.zero_div,kU w p m,Nat.zero_mod,vM,vq,pb]
theorem kL (w p m:Nat):∀(n s V:Nat),F w p (m+n) s (V*2^n)=Tn w p n (F w p m s V)
 |0,s,V=>by simp [Tn]
 |n+1,s,V=>by
  show T w p (F w p (m+n) s (V*2^(n+1)/2)^^^((V*2^(n+1)%2)*2^(w-1)))=T w p (Tn w p n (F w p m s V));have e1:V*2^(n+1)/2=V*2^n:=by rw [sH,<-sK,Nat.mul_div_cancel _ Z9]
  have e2:V*2^(n+1)%2=0:=by rw [sH,<-sK,Nat.mul_mod_left]
  rw [e1,e2,kL w p m n s V,vM,vP]
def B (w p s b:Nat):Nat:=Tn w p 8 (s^^^(b*2^(w-8)))
def G (w p:Nat):Nat->Nat->Nat->Nat
 |0,s,_=>s
 |n+1,s,V=>B w p (G w p n s (V/256)) (V%256)
theorem G_F (hw:8≤w):∀(n s V:Nat),G w p n s V=F w p (8*n) s V
 |0,s,V=>rfl
 |n+1,s,V=>by
  show B w p (G w p n s (V/256)) (V%256)=_;rw [G_F hw n s (V/256),Nat.mul_succ,ii,pj 8 _ _ hw];rfl
theorem G_xor (w p:Nat):∀(n a b U V:Nat),G w p n (a^^^b) (U^^^V)=G w p n a U^^^G w p n b V
 |0,a,b,U,V=>rfl
 |n+1,a,b,U,V=>by
  show B w p (G w p n (a^^^b) ((U^^^V)/256)) ((U^^^V)%256)=B w p _ _^^^B w p _ _;have e1:(U^^^V)/256=U/256^^^V/256:=Nat.xor_div_two_pow (n:=8);have e2:(U^^^V)%256=U%256^^^V%256:=u9 (n:=8);unfold B;rw [e1,e2,G_xor w p n a b,<-lM,<-xor_mul_pow];congr 1;rw [rS,rS];congr 1;rw [<-rS,<-rS];congr 1;exact tJ _ _
theorem G_lt {n V:Nat}(hp:p<2^w)(hs:s<2^w):G w p n s V<2^w:=by
 cases n with
 |zero=>exact hs
 |succ n=>exact mO hp
theorem burst {n pat pl:Nat}(hw:8≤w)(hp:p%2=1)(hp2:p<2^w)(h0:0<pat){k:Nat}(hk:pat<2^k)(hkw:k≤w)(hfit:pl+k≤8*n):G w p n 0 (pat*2^pl)≠0:=by
 intro h;rw [G_F hw,show 8*n=(8*n-pl)+pl by omega,kL] at h;have lt1:F w p (8*n-pl) 0 pat<2^w:=by
  cases hm:8*n-pl with
  |zero=>exact sw Z9
  |succ m=>exact mO hp2
 have h1:=kW Z4 hp hp2 lt1 h;rw [show 8*n-pl=(8*n-pl-k)+k by omega,ii,vJ hk,kU,pj k _ _ hkw,vQ,sU hk] at h1;have lt2:pat*2^(w-k)<2^w:=by
  have:pat*2^(w-k)<2^k*2^(w-k):=(tx (sw Z9)).mpr hk;rw [<-tM,show k+(w-k)=w by omega] at this;exact this
 have h2:=kW Z4 hp hp2 lt2 h1;have h3:0<pat*2^(w-k):=Nat.mul_pos h0 (sw Z9);omega
end CK
set_option maxHeartbeats 4000000
namespace L2
open PySem PySem.Spec PyProof.Rows QQ
section
variable {κ:Type}[DecidableEq κ]
end
section
variable {P:vU}{w:vV}{H:Hp}{h:vY}{a:vR}
end
section
variable {X:Cx}{v8:List (vR × v1)}{σ:St}{H:Hp}{s:vT}{a:vR}{y v:V}{u r:vS}{o:Option V}{A:vX}{E:vS -> vT -> Prop}
theorem Inv.big (I:Inv X v8 σ H s):sysModules<s.heap.objs.size:=by
 have h:mainGlobals<s.heap.objs.size:=(I.mod.glob.keeps I.bk).lt;exact Nat.lt_trans Z9 h
end
section
variable {X:Cx}{v8:List (vR × v1)}{σ:St}{H:Hp}{s:vT}{a:vR}{kvs:List (Key × V)}{k:Key}{u:vS}{A:vX}{E:vS -> vT -> Prop}
end
section
variable {X:Cx}{o i e value:vZ}{pos pos' tpos:Pos}{td ty tv:TE}
end
theorem kX {P:vU}{w:vV}{H:Hp}(h:vY)(hb:sysModules<h.objs.size):ObjOk P w H (h.push {cls:=.type "dict",data:=.dict #[]}) h.objs.size (.dK []):=
 ⟨sy _,tO.mpr (sJ (rL hb)),[],.nil,Heap.DictOf.new h⟩
def pf:TE:=λ _ H Q=>∀p,H p=none->Q (.ref p) (upd H p (.dK []))
section
variable {X:Cx}{pos:Pos}
theorem kK:PE X (.Dict [] [] pos) pf:=λ v8 s σ H Q I h=>
 wpAny_Dict_empty ⟨.ref s.heap.objs.size,_,I.laid (a:=s.heap.objs.size) (o:=.dK []) (t':=s.toks) (λ _ _ q=>rf _ q) (rB _) (kX s.heap I.big),rfl,h _ (I.hok.fresh (rB _))⟩
end
section
variable {X:Cx}
end
end L2
set_option maxHeartbeats 4000000
namespace QQ
open PySem PyProof.Rows
section
variable {prog:vU}{w:vV}{A:vX}{E:vS -> vT -> Prop}{s:vT}
end
end QQ
namespace L2
open PySem PySem.Spec PyProof.Rows QQ
section
variable {X:Cx}
def EqG (K:Frag)(H:Hp)(x y:V):Prop:=(x=y/\(flatV x=true\/∃a,x=.ref a))\/∃(a b:vR) (xs:List V),x=.ref a/\y=.ref b/\SqT K H a xs/\SqT K H b xs/\xs.all flatV=true
def gp (K:Frag)(H:Hp)(p q:vR):Prop:=∃xs ys:List V,SqL K H p xs/\SqL K H q ys/\xs.length=ys.length/\∀(i:Nat) (x y:V),xs[i]?=some x->ys[i]?=some y->EqG K H x y
theorem eQ {v8:List (vR×v1)}{σ:St}{H:Hp}{s:vT}(I:Inv X v8 σ H s){p q:vR}(h:gp X.K H p q){A:vX}(hu:A.units<cLine):∃its its2:List vS,s.heap.IsList p its.toArray/\s.heap.IsList q its2.toArray/\its.toArray.size=its2.toArray.size/\∀j (h1:j<its.toArray.size) (h2:j<its2.toArray.size),SeqAt.EqAt A s its.toArray[j] its2.toArray[j] true:=by
 obtain⟨xs,ys,h1,h2,hl,hi⟩:=h;obtain⟨its,rv,pl,hz⟩:=I.list h1;obtain⟨its2,rv2,pl2,hz2⟩:=I.list h2;have l1:=rv.length;have l2:=rv2.length;refine⟨its,its2,pl.isList,pl2.isList,by rw [rh,rh];omega,λ j j1 j2=>?_⟩;have k1:j<xs.length:=by simp at j1;omega
 have k2:j<ys.length:=Z4;obtain⟨u1,e1,r1⟩:=rv.get (i:=j) (x:=xs[j]) (by simp [k1]);obtain⟨u2,e2,r2⟩:=rv2.get (i:=j) (x:=ys[j]) (by simp [k2]);have g1:its.toArray[j]=u1:=by
  obtain⟨_,z⟩:=rm.mp e1;simpa using z
 have g2:its2.toArray[j]=u2:=by
  obtain⟨_,z⟩:=rm.mp e2;simpa using z
 rw [g1,g2];rcases hi j xs[j] ys[j] (by simp [k1]) (by simp [k2]) with⟨z1,f|⟨a,z2⟩⟩|⟨a,b,zs,z1,z2,q1,q2,fl⟩
 ·rw [<-z1] at r2;rw [<-dk _ f];exact ey r1 r2 f f
 ·rw [<-z1] at r2;rw [z2] at r1 r2;cases r1;cases r2;exact SeqAt.EqAt.same _
 ·rw [z1] at r1;rw [z2] at r2;cases r1;cases r2;exact kj I q1 q2 fl hu
def n9 (K:Frag):R2:=λ x y H Q=>∃(p q:vR),x=.ref p/\y=.ref q/\gp K H p q/\Q (.bl false) H
theorem mD (hu:X.A.units+64<cLine):OpR X (compareOp .NotEq) (n9 X.K):=by
 intro v8 s σ H x y v u Q I rx ry h;obtain⟨p,q,rfl,rfl,h,k⟩:=h;cases rx;cases ry;obtain⟨its,its2,pl,pl2,hz,he⟩:=eQ (A:=X.A.in1) I h (by show X.A.units+1<_;omega);refine vz (e:=λ _=>true) pl pl2 hz Z4 he _ _ _ _ ?_;refine⟨.bl false,H,I,?_,k⟩;show Value.bool _=Value.bool _;simp
def qe (K:Frag):R2:=λ x y H Q=>∃(p q:vR),x=.ref p/\y=.ref q/\gp K H p q/\Q (.bl true) H
theorem ml (hu:X.A.units+64<cLine):OpR X (compareOp .Eq) (qe X.K):=by
 intro v8 s σ H x y v u Q I rx ry h;obtain⟨p,q,rfl,rfl,h,k⟩:=h;cases rx;cases ry;obtain⟨its,its2,pl,pl2,hz,he⟩:=eQ (A:=X.A.in1) I h (by show X.A.units+1<_;omega);refine SeqAt.RcAt.lists (e:=λ _=>true) pl pl2 hz Z4 he _ _ _ _ ?_;refine⟨.bl true,H,I,?_,k⟩;show Value.bool _=Value.bool _;simp
theorem OpR.either {f:vS->vS->Sem vS}{r t:R2}(h:OpR X f r)(g:OpR X f t):OpR X f (λ x y H Q=>r x y H Q\/t x y H Q):=by
 intro v8 s σ H x y v u Q I rx ry z;rcases z with z|z
 ·exact h v8 s σ H x y v u Q I rx ry z
 ·exact g v8 s σ H x y v u Q I rx ry z
end
end L2
set_option maxHeartbeats 4000000
namespace K23.Ck
open PySem L2 QQ BP
seal PE PA PS PSs PT PW PG PI
variable {f:vR}{fd fdW:vW}{p s w:Nat}{dV:vS}{R:List Nat}
abbrev jw:v7:=top 38
abbrev iT:v7:=aZ (top 39) 0
abbrev oR:v7:=aZ (top 39) 1
abbrev iR:v7:=aZ (top 39) 2
abbrev eA:v7:=top 40
structure Txt (K:Frag)(mg:Str->Option vS):Prop where
 R:Rows K mg
 tabA:∃d,mg "ALL_ONES"=some (.ref d)/\TabK K d 255 65535
 tabL:∃d,mg "LOWER_BITS"=some (.ref d)/\TabK K d 29 45
theorem gs (a:Nat):∀b,a+b=(a^^^b)+2*(a&&& b):=by
 induction a using Nat.strongRecOn with
 |_ a ih=>
  intro b;by_cases h0:a=0
  ·subst h0;simp
  ·have h:=ih (a/2) (Nat.bitwise_rec_lemma h0) (b/2);have e1:(a^^^b)/2=a/2^^^b/2:=Nat.xor_div_two_pow (n:=1);have e2:(a&&& b)/2=a/2&&& b/2:=Nat.and_div_two_pow (n:=1);have m1:(a^^^b)%2=a%2^^^b%2:=u9 (n:=1);have m2:(a&&& b)%2=a%2&&& b%2:=Nat.and_mod_two_pow (n:=1);have d1:=vc (a^^^b) 2;have d2:=vc (a&&& b) 2;rw [e1,m1] at d1;rw [e2,m2] at d2;clear e1 e2 m1 m2 ih h0;have k:a%2+b%2=(a%2^^^b%2)+2*(a%2&&& b%2):=by
    rcases vn a with e|e<;>rcases vn b with f|f<;>rw [e,f]<;>rfl
   have:=vc a 2;have:=vc b 2;generalize a/2^^^b/2=u,a/2&&& b/2=v,a%2^^^b%2=x,a%2&&& b%2=y,a^^^b=m,a&&& b=n,a/2=q,b/2=r,a%2=t,b%2=z at*;lia
theorem cg (a b:Nat):Builtin.bitXor (a:Int) (b:Int)=((a^^^b:Nat):Int):=by
 have e:Builtin.bitXor (a:Int) (b:Int)=(a:Int)+(b:Int)-2*Builtin.bitAnd (a:Int) (b:Int):=by
  unfold Builtin.bitXor;rw [PyProof.Rows.bitOr_and];lia
 rw [e,uH Z5 (rN _),rD,rD];have:=gs a b;lia
def WP (w p:Nat):Prop:=(w=8/\p=29)\/(w=16/\p=45)
theorem WP.facts (h:WP w p):8≤w/\w≤16/\p%2=1/\p<2^w:=by
 rcases h with⟨rfl,rfl⟩|⟨rfl,rfl⟩<;>decide
theorem rb (hw:0<w)(hs:s<2^w):CK.T w p s=if s/2^(w-1)=1 then s*2%2^w^^^p else s*2%2^w:=by
 unfold CK.T;rw [sP];have h2:s/2^(w-1)<2:=uW (by
  have:2^(w-1)*2=2^w:=by rw [<-sH];congr 1;exact Nat.sub_add_cancel hw
  exact tX hs this.symm)
 rcases uP (s/2^(w-1)) 1 with h|h
 ·have e:s/2^(w-1)=0:=Nat.lt_one_iff.mp h;rw [e];simp
 ·have e:s/2^(w-1)=1:=uB (Nat.lt_succ_iff.mp h2) h;rw [e];simp
def crc (w p s:Nat)(R:List Nat):Nat:=R.foldl (CK.B w p) s
theorem gw (w p s:Nat)(R:List Nat)(b:Nat):crc w p s (R++[b])=CK.B w p (crc w p s R) b:=by
 unfold crc;rw [vD];rfl
theorem og:∀(n:Nat) (R:List Nat),R.length=n->(∀b∈R,b<256)->crc w p s R=CK.G w p n s (BP.val R):=by
 intro n
 induction n with
 |zero=>
  intro R h _;have e:R=[]:=List.length_eq_zero_iff.mp h;subst e;rfl
 |succ n ih=>
  intro R h hb;obtain⟨A,b,rfl⟩:∃A b,R=A++[b]:=by
   rcases List.eq_nil_or_concat R with e|⟨A,b,e⟩
   ·subst e;simp at h
   ·exact⟨A,b,by simpa using e⟩
  have hbb:b<256:=hb b Z6;rw [rq,List.length_singleton] at h;rw [gw,ih A (Nat.add_right_cancel h) λ x hx=>hb x (sg _ hx),BP.val_snoc];show _=CK.B w p (CK.G w p n s ((BP.val A*256+b)/256)) ((BP.val A*256+b)%256);have e1:(BP.val A*256+b)/256=BP.val A:=Z5;have e2:(BP.val A*256+b)%256=b:=Z5;rw [e1,e2]
theorem km (hp:p<2^w)(hs:s<2^w)(hb:∀b∈R,b<256):crc w p s R<2^w:=by
 rw [og R.length R rfl hb];exact CK.G_lt hp hs
section
variable {P:vU}{w:vV}{K:Frag}{mg:Str -> Option vS}{base:vY}
def kY:Sp:=λ vs H Q _=>∃(n p s b:Nat),vs=[vN s,vN b,vN n]/\WP n p/\s<2^n/\b<256/\Q (vN (CK.B n p s b)) H
theorem scWith:FnScope ["state","byte","wide","step","goes_out"] ["state","byte","wide"] (aj jw):=⟨rfl,rfl,rfl,Z8,rfl,Z8,Z8⟩
theorem nr (F:Fn K mg "with_byte" jw ["state","byte","wide"] f fd)(X:Txt K mg):FnOk P w K mg base CX0 1 f fd ["state","byte","wide"] kY:=by
 obtain⟨dA,mA,tA⟩:=X.tabA;obtain⟨dL,mL,tL⟩:=X.tabL;refine F.F.ok scWith λ v9 A outer st H vs Q E hr h=>?_
 intro _;obtain⟨n,p,s,b,rfl,hw,hs,hb,q⟩:=h;obtain⟨h8,h16,hodd,hp⟩:=hw.facts;refine⟨_,ah (av (i:=0) scWith.nd (ak dy (pv 0) (ak bK (pv 1) (ak bA (pv 2) ag))))
  (ah (cm sV rfl (cL rfl X.R.X.range (ac ag ae)) (a8 (i:=3) scWith.nd)
   (ah (av (i:=4) scWith.nd (ak fZ (pv 0) (ak bA (pv 2) ag)))
   (ah (av (i:=0) scWith.nd (ak iN (ak bK (pv 0) ag) (aS gn (aR (v:=.ref dA) Z7 mA rfl) (pv 2) (λ _ _=>rfl))))
   (ai (aI (ax bg (pv 4) ag (az _)) (ai (av (i:=0) scWith.nd (ak dy (pv 0) (aS gn (aR (v:=.ref dL) Z7 mL rfl) (pv 2) (λ _ _=>rfl))))) ay)))))
  (ai (au (pv 0)))),?_⟩
 have e8:(n:Int)-8=((n-8:Nat):Int):=Z5;have e1':(n:Int)-1=((n-1:Nat):Int):=Z5;refine⟨_,rfl,_,rfl,_,rfl,_,_,rfl,rfl,?_⟩;dsimp only;rw [e8];refine⟨_,_,rfl,rfl,⟨rN _,Z5,Z5⟩,_,_,rfl,rfl,?_⟩;dsimp only;rw [cE,cg];have hs0:s^^^b*2^(n-8)<2^n:=by
  refine sR hs ?_;have:b*2^(n-8)<2^8*2^(n-8):=(tx (sw Z9)).mpr hb;rw [<-tM,show 8+(n-8)=n by lia] at this;exact this
 refine⟨8,rfl,Z9,Z9,fj (D:=⟨_,_,λ _ _=>False,λ _ _=>False⟩) (lo:=0) (n:=8)
  (λ i σ H2=>∃v3 v4,σ=[some (vN (CK.Tn n p i (s^^^b*2^(n-8)))),some (vN b),some (vN n),v3,v4]/\H2=H) ⟨none,none,rfl,rfl⟩ ?_ ?_⟩
 ·rintro i σ H2 hi ⟨v3,v4,rfl,rfl⟩;have wa:=CK.Tn_lt (n:=i) hp hs0;have eT:CK.Tn n p (i+1) (s^^^b*2^(n-8))=CK.T n p (CK.Tn n p i (s^^^b*2^(n-8))):=rfl;rw [eT];generalize CK.Tn n p i (s^^^b*2^(n-8))=z at*;have hz16:z<2^16:=rj wa (tu Z9 h16);have go:=rb (p:=p) (Nat.zero_lt_of_lt h8) wa;refine⟨_,rfl,_,rfl,_,_,rfl,rfl,?_⟩;dsimp only;rw [e1'];refine⟨_,_,rfl,rfl,Z5,?_⟩;dsimp only;rw [gr];have em:(z:Int)*2^(1:Int).toNat=((z*2:Nat):Int):=cE z 1;refine⟨_,rfl,_,_,rfl,rfl,⟨Z9,Z9,Z5⟩,_,rfl,dA,_,_,_,rfl,rfl,.inl tA,?_⟩;rcases hw with⟨rfl,rfl⟩|⟨rfl,rfl⟩
  ·refine .inl ⟨rfl,_,_,rfl,rfl,?_⟩;dsimp only;rw [em,show Builtin.bitAnd ((z*2:Nat):Int) 255=((z*2%2^8:Nat):Int) from dq (z*2) 8];refine⟨_,rfl,rfl,_,rfl,aT (λ h1=>?_) (λ h1=>?_)⟩
   ·have h1':z/2^(8-1)=1:=by have:=V.int.inj (rE h1);exact Eq.symm ((λ {m n}=>Int.ofNat_inj.mp) this.symm)
    rw [se h1'] at go;refine⟨_,rfl,_,rfl,dL,_,_,_,rfl,rfl,.inl tL,.inl ⟨rfl,_,_,rfl,rfl,?_⟩⟩;dsimp only;rw [show Builtin.bitXor ((z*2%2^8:Nat):Int) 29=((z*2%2^8^^^29:Nat):Int) from cg _ 29,go];exact⟨_,_,rfl,rfl⟩
   ·have h1':¬z/2^(8-1)=1:=λ e=>h1 (rn (sv V.int Z5))
    rw [rO h1'] at go;rw [go];exact⟨_,_,rfl,rfl⟩
  ·refine .inr ⟨rfl,_,_,rfl,rfl,?_⟩;dsimp only;rw [em,show Builtin.bitAnd ((z*2:Nat):Int) 65535=((z*2%2^16:Nat):Int) from dq (z*2) 16];refine⟨_,rfl,rfl,_,rfl,aT (λ h1=>?_) (λ h1=>?_)⟩
   ·have h1':z/2^(16-1)=1:=by have:=V.int.inj (rE h1);exact Eq.symm ((λ {m n}=>Int.ofNat_inj.mp) this.symm)
    rw [se h1'] at go;refine⟨_,rfl,_,rfl,dL,_,_,_,rfl,rfl,.inl tL,.inr ⟨rfl,_,_,rfl,rfl,?_⟩⟩;dsimp only;rw [show Builtin.bitXor ((z*2%2^16:Nat):Int) 45=((z*2%2^16^^^45:Nat):Int) from cg _ 45,go];exact⟨_,_,rfl,rfl⟩
   ·have h1':¬z/2^(16-1)=1:=λ e=>h1 (rn (sv V.int Z5))
    rw [rO h1'] at go;rw [go];exact⟨_,_,rfl,rfl⟩
 ·rintro σ H2 ⟨v3,v4,rfl,rfl⟩;exact⟨_,rfl,q⟩
end
theorem lS:¬(("wide":Str)="state"):=Z8
noncomputable def fC (n s:Nat):List (Str×V):=[("wide",vN n),("state",vN s)]
theorem jf (n s:Nat):aY "state" (vN s) (aY "wide" (vN n) [])=fC n s:=by
 show(if("wide":Str)="state" then _ else(("wide":Str),vN n):: [("state",vN s)])=_;rw [rO lS];rfl
theorem oX (n s s':Nat):aY "state" (vN s') (fC n s)=fC n s':=by
 show(if("wide":Str)="state" then _ else(("wide":Str),vN n)::(if("state":Str)="state" then [(("state":Str),vN s')] else _))=_;rw [rO lS,se rfl];rfl
theorem lA (n s:Nat):(fC n s).lookup ("wide":Str)=some (vN n):=by
 rw [<-jf,aA,rO lS,aA,se rfl]
theorem gJ (n s:Nat):(fC n s).lookup ("state":Str)=some (vN s):=by
 rw [<-jf,aA,se rfl]
theorem oq (n s:Nat){m:Str}(h1:autoParam (¬m="state") ZY)(h2:autoParam (¬m="wide") ZY):(fC n s).lookup m=none:=by
 rw [<-jf,aA,rO h1,aA,rO h2];rfl
theorem oH (n s:Nat):(fC n s).length<1000:=by show 2<1000;decide
structure CC (K:Frag)(mg:Str->Option vS)(C:vR):Prop where
 cl:Cls K C
 nW:NoAttr K C "wide"
 nS:NoAttr K C "state"
 m:mg "Check"=some (.ref C)
section
variable {P:vU}{w:vV}{K:Frag}{mg:Str -> Option vS}{base:vY}{C:vR}
def mZ (C:vR):Sp:=λ vs H Q _=>∃(p dx:vR) (n q:Nat),vs=[.ref p,vN n]/\WP n q/\H p=some (.ins C dx [])/\∀H':Hp,H' p=some (.ins C dx (fC n (2^n-1)))->(∀b o,H b=some o->b≠p->H' b=some o)->Q .non H'
theorem mX:FnScope ["self","wide"] ["self","wide"] (aj iT):=⟨rfl,rfl,rfl,Z8,rfl,Z8,Z8⟩
theorem li {fW:vR}(F:FunD K "__init__" "Check.__init__" iT dV f fd)(W:Fn K mg "is_whole" br ["thing","least","most"] fW fdW)(T:CC K mg C)(X:Txt K mg):FnOk P w K mg base CX0 2 f fd ["self","wide"] (mZ C):=by
 have GW:FnOk P w K mg base CX0 1 fW fdW ["thing","least","most"] cf:=cw W X.R.X;obtain⟨dA,mA,tA⟩:=X.tabA;refine F.ok mX λ v9 A outer st H vs Q E hr h=>?_
 intro _;obtain⟨p,dx,n,q,rfl,hw,hp,k⟩:=h;refine⟨_,ah (aI (PW.pt (fc (bD (ba (ap GW hr Z7 W.m W.F.kp W.b .nil aw (ac (pv 1) (ac ag (ac ag ae))))))
   (eB (ax gq (pv 1) (aR (v:=.ref dA) Z7 mA rfl) Z7)))) (ai bR) ay)
  (ah (bu (pv 0) (pv 1) rfl)
  (ai (bu (pv 0) (aS gn (aR (v:=.ref dA) Z7 mA rfl) (pv 1) (λ _ _=>rfl)) rfl))),?_⟩
 refine⟨_,rfl,_,_,_,rfl,_,rfl,?_⟩;have e1:(decide ((8:Int)≤(n:Int))&&decide ((n:Int)≤16))=true:=by
  obtain⟨h8,h16,_⟩:=hw.facts;rw [rn (Int.toNat_le.mp h8),rn Z5];rfl
 rw [e1];refine aW ?_;have hn:(n:Int)=8\/(n:Int)=16:=by rcases hw with⟨rfl,_⟩|⟨rfl,_⟩<;>simp
 refine⟨_,rfl,dA,_,_,_,rfl,rfl,tA,hn,_,rfl,aW ?_⟩;refine⟨_,rfl,_,rfl,p,C,dx,_,rfl,hp,T.cl,T.nW,(by show 0<1000;decide),?_⟩;refine⟨_,rfl,dA,_,_,_,rfl,rfl,.inl tA,?_⟩;have fin:∀(z:Int),z=((2^n-1:Nat):Int)->Q .non (upd (upd H p (.ins C dx (aY "wide" (vN n) []))) p (.ins C dx (aY "state" (.int z) (aY "wide" (vN n) [])))):=λ z ez=>by
  rw [ez,show aY "state" (V.int ((2^n-1:Nat):Int)) (aY "wide" (vN n) [])=fC n (2^n-1) from jf n _];refine k _ ad λ b o e hb=>?_
  rw [ao hb,ao hb];exact e
 rcases hw with⟨rfl,rfl⟩|⟨rfl,rfl⟩
 ·exact .inl ⟨rfl,_,rfl,p,C,dx,_,rfl,ad,T.cl,T.nS,(by show 1<1000;decide),fin _ rfl⟩
 ·exact .inr ⟨rfl,_,rfl,p,C,dx,_,rfl,ad,T.cl,T.nS,(by show 1<1000;decide),fin _ rfl⟩
def qC (C:vR):Sp:=λ vs H Q _=>∃(p dx a:vR) (n q s:Nat) (B:List Nat),vs=[.ref p,.ref a]/\WP n q/\s<2^n/\H p=some (.ins C dx (fC n s))/\H a=some (.lst (B.map vN))/\(∀b∈B,b<256)/\
 ∀H':Hp,H' p=some (.ins C dx (fC n (crc n q s B)))->(∀b o,H b=some o->b≠p->H' b=some o)->Q .non H'
theorem scAdd:FnScope ["self","row","byte"] ["self","row"] (aj oR):=⟨rfl,rfl,rfl,Z8,rfl,Z8,Z8⟩
theorem o9 {fN fR fW fY:vR}{fdN fdR fdY:vW}(F:Fun K "add" "Check.add" oR f fd)(N:Fn K mg "need_row" bp ["thing"] fN fdN)(R:Fn K mg "is_row" cM ["thing"] fR fdR)(W:Fn K mg "is_whole" br ["thing","least","most"] fW fdW)
  (Y:Fn K mg "with_byte" jw ["state","byte","wide"] fY fdY) (T:CC K mg C) (X:Txt K mg):FnOk P w K mg base CX0 5 f fd ["self","row"] (qC C):=by
 have GN:FnOk P w K mg base CX0 4 fN fdN ["thing"] spNeedRow:=bY N X.R;have GY:FnOk P w K mg base CX0 1 fY fdY ["state","byte","wide"] kY:=nr Y X;refine F.ok scAdd λ v9 A outer st H vs Q E hr h=>?_
 intro _;obtain⟨p,dx,a,n,q,s,B,rfl,hw,hs,hp,ha,hb,k⟩:=h;obtain⟨h8,h16,hodd,hq⟩:=hw.facts;have hr1:Room 1 _:=hr.mono Z9;refine⟨_,ai (cm sV rfl (bS (ap GN hr Z7 N.m N.F.kp N.b .nil aw (ac (pv 1) ae))) (a8 (i:=2) scAdd.nd)
  (ai (bu (pv 0) (ap GY hr1 Z7 Y.m Y.F.kp Y.b .nil aw (ac (bd (pv 0) rfl) (ac (pv 2) (ac (bd (pv 0) rfl) ae)))) rfl))),?_⟩
 refine⟨_,rfl,a,B,rfl,ha,hb,λ l hl=>?_⟩;have npl:p≠l:=am hp hl;refine⟨l,rfl,⟨_,SqL.of ad⟩,bL (K:=K) (a:=l) (xs:=B.map vN) (λ i σ H2=>∃v:Option V,σ=[some (.ref p),some (.ref a),v]/\H2 p=some (.ins C dx (fC n (crc n q s (B.take i))))/\H2 l=some (.lst (B.map vN))/\∀b o,H b=some o->b≠p->H2 b=some o)
  ⟨none,rfl,by rw [ao npl];exact hp,ad,λ b o e _=>by rw [ao (am e hl)];exact e⟩ (λ i σ H2 _ z9=>by obtain⟨_,_,_,e,_⟩:=z9;exact SqL.of e) ?_ ?_⟩
 ·rintro i y σ H2 hi ⟨v,rfl,hp2,hl2,oth⟩;obtain⟨b,hb1,rfl⟩:=dP hi;have hb2:=hb b (sO hb1);have wa:crc n q s (B.take i)<2^n:=km hq hs λ x hx=>hb x (sG hx)
  refine⟨_,rfl,p,C,dx,_,_,rfl,hp2,T.cl,T.nS,gJ _ _,_,rfl,_,rfl,p,C,dx,_,_,rfl,hp2,T.cl,T.nW,lA _ _,n,q,_,b,rfl,hw,wa,hb2,?_⟩;refine⟨_,rfl,p,C,dx,_,rfl,hp2,T.cl,T.nS,oH _ _,?_⟩;refine⟨some (vN b),rfl,?_,by rw [ao npl.symm];exact hl2,λ c o e hc=>by rw [ao hc];exact oth c o e hc⟩;rw [ad,oX,bM hb1,gw]
 ·rintro σ H2 ⟨v,rfl,hp2,hl2,oth⟩;rw [rg,tR] at hp2;exact k H2 hp2 oth
def nL (C:vR):Sp:=λ vs H Q _=>∃(p dx:vR) (n s:Nat),vs=[.ref p]/\H p=some (.ins C dx (fC n s))/\Q (vN s) H
theorem nq:FnScope ["self"] ["self"] (aj iR):=⟨rfl,rfl,rfl,Z8,rfl,Z8,Z8⟩
theorem ll (F:Fun K "value" "Check.value" iR f fd)(T:CC K mg C):FnOk P w K mg base CX0 1 f fd ["self"] (nL C):=by
 refine F.ok nq λ v9 A outer st H vs Q E hr h=>?_
 intro _;obtain⟨p,dx,n,s,rfl,hp,k⟩:=h;refine⟨_,ai (au (bd (pv 0) rfl)),?_⟩;exact⟨_,rfl,p,C,dx,_,_,rfl,hp,T.cl,T.nS,gJ _ _,k⟩
def chk (n q:Nat)(B:List Nat):Nat:=crc n q (2^n-1) B
def jN:Sp:=λ vs H Q _=>∃(a:vR) (n q:Nat) (B:List Nat),vs=[.ref a,vN n]/\WP n q/\H a=some (.lst (B.map vN))/\(∀b∈B,b<256)/\∀H',Same H H'->Q (vN (chk n q B)) H'
theorem scCheckOf:FnScope ["row","wide","check"] ["row","wide"] (aj eA):=⟨rfl,rfl,rfl,Z8,rfl,Z8,Z8⟩
structure Chk (K:Frag)(mg:Str->Option vS)(C:vR):Prop where
 X:Txt K mg
 T:CC K mg C
 whole:∃f fd,Fn K mg "is_whole" br ["thing","least","most"] f fd
 isrow:∃f fd,Fn K mg "is_row" cM ["thing"] f fd
 needrow:∃f fd,Fn K mg "need_row" bp ["thing"] f fd
 withb:∃f fd,Fn K mg "with_byte" jw ["state","byte","wide"] f fd
 init:∃f fd dV,FunD K "__init__" "Check.__init__" iT dV f fd/\Binds K fd ["self","wide"] []/\Mk K C f
 add:∃f fd,Me K C "add" "Check.add" oR ["self","row"] f fd
 value:∃f fd,Me K C "value" "Check.value" iR ["self"] f fd
theorem eu (F:FunD K "check_of" "check_of" eA dV f fd)(Z:Chk K mg C):FnOk P w K mg base CX0 6 f fd ["row","wide"] jN:=by
 obtain⟨X,T,⟨_,_,W⟩,⟨_,_,R⟩,⟨_,_,N⟩,⟨_,_,Y⟩,⟨_,_,_,FI,bI,M⟩,⟨_,_,Ad⟩,⟨_,_,Va⟩⟩:=Z;refine F.ok scCheckOf λ v9 A outer st H vs Q E hr h=>?_
 intro _;obtain⟨a,n,q,B,rfl,hw,ha,hb,k⟩:=h;have hr1:Room 1 _:=hr.mono Z9;have hr3:Room 3 _:=hr.mono Z9;refine⟨_,ah (av (i:=2) scCheckOf.nd (dU M (li FI W T X) hr3 Z7 T.m bI .nil aw (ac (pv 1) ae)))
  (ah (cF (bV (pv 2) T.cl Ad.m (o9 Ad.F N R W Y T X) hr Ad.b .nil aw (ac (pv 0) ae)))
  (ai (au (cx (pv 2) T.cl Va.m (ll (mg:=mg) Va.F T) hr1 Va.b .nil aw)))),?_⟩
 refine⟨_,rfl,λ x dx nx ndx nex=>?_⟩;have s0:Same H (upd (upd H dx (.own x)) x (.ins C dx [])):=λ b o e=>by
  rw [ao (am e nx),ao (am e ndx)];exact e
 refine⟨x,dx,n,q,rfl,hw,ad,λ H1 hx1 kp=>⟨rfl,?_⟩⟩;have s1:Same H H1:=λ b o e=>kp b o (s0 b o e) (am e nx)
 refine⟨_,rfl,x,dx,_,rfl,hx1,oq _ _,_,rfl,x,dx,a,n,q,_,B,rfl,hw,?_,hx1,s1 _ _ ha,hb,λ H2 hx2 kp2=>?_⟩
 ·have:=sw (n:=n) (show 0<2 from Z9);exact Nat.sub_one_lt_of_lt this
 have s2:Same H H2:=λ b o e=>kp2 b o (s1 b o e) (am e nx)
 refine⟨_,rfl,x,dx,_,rfl,hx2,oq _ _,x,dx,n,_,rfl,hx2,k H2 s2⟩
end
abbrev pC:v7:=top 41
abbrev bC:v7:=top 42
abbrev dg:v7:=top 104
abbrev ip:v7:=aZ (top 105) 0
abbrev pZ:v7:=aZ (top 105) 1
structure FnK (K:Frag)(mg:Str->Option vS)(x:Str)(st:v7)(ps:List Str)(f:vR)(fd:vW):Prop where
 F:∃dV,FunD K x x st dV f fd
 m:mg x=some (.ref f)
 b:Binds K fd ps []
 d:∃t,Binds K fd ps [.int 16 t]
theorem FnK.kp {K:Frag}{mg:Str->Option vS}{x:Str}{st:v7}{ps:List Str}(F:FnK K mg x st ps f fd):keepIn K (.ref f)=true:=F.F.elim λ _ h=>h.kp
noncomputable def two (n:Nat):List Nat:=[n/256,n%256]
def sld (R:List Nat):List Nat:=R++two (chk 16 45 R)
def wc (a b:Nat):List Nat:=[a,b,chk 8 29 [a,b]]
theorem wp8:WP 8 29:=.inl ⟨rfl,rfl⟩
theorem jC:WP 16 45:=.inr ⟨rfl,rfl⟩
theorem dw {n q:Nat}(h:WP n q)(hb:∀b∈R,b<256):chk n q R<2^n:=by
 obtain⟨_,_,_,hq⟩:=h.facts;exact km hq (by have:=sw (n:=n) (show 0<2 from Z9);exact Nat.sub_one_lt_of_lt this) hb
theorem mq {n:Nat}(h:n<65536):∀b∈two n,b<256:=by
 intro b hb;simp only [two,rY,List.not_mem_nil,or_false] at hb;lia
theorem bH (hb:∀b∈R,b<256):∀b∈sld R,b<256:=λ b h=>(sL.mp h).elim (hb b) (mq (dw jC hb) b)
theorem gB {a b:Nat}(ha:a<256)(hb:b<256):∀c∈wc a b,c<256:=by
 intro c hc;have h8:chk 8 29 [a,b]<256:=dw wp8 (λ c hc=>by simp at hc;lia);simp only [wc,rY,List.not_mem_nil,or_false] at hc;lia
structure Cks (K:Frag)(mg:Str->Option vS)(C:vR):Prop where
 Z:Chk K mg C
 checkof:∃f fd,FnK K mg "check_of" eA ["row","wide"] f fd
 two:∃f fd,Fn K mg "in_two_bytes" pC ["number"] f fd
 withcheck:∃f fd,Fn K mg "with_check" bC ["row"] f fd
 headrow:∃f fd,Fn K mg "head_row" dg ["first","inside"] f fd
section
variable {P:vU}{w:vV}{K:Frag}{mg:Str -> Option vS}{base:vY}{C:vR}
def pT:Sp:=λ vs H Q _=>∃n:Nat,vs=[vN n]/\n<65536/\∀l,H l=none->Q (.ref l) (upd H l (.lst ((two n).map vN)))
theorem qz:FnScope ["number"] ["number"] (aj pC):=⟨rfl,rfl,rfl,Z8,rfl,Z8,Z8⟩
theorem oO (F:Fn K mg "in_two_bytes" pC ["number"] f fd):FnOk P w K mg base CX0 1 f fd ["number"] pT:=by
 refine F.F.ok qz λ v9 A outer st H vs Q E hr h=>?_
 intro _;obtain⟨n,rfl,hn,k⟩:=h;refine⟨_,ai (au (aq (ac (ak fZ (pv 0) ag) (ac (ak iN (pv 0) ag) ae)))),?_⟩;refine⟨_,rfl,_,_,rfl,rfl,(by show(0:Int)≤8;decide),_,rfl,_,_,rfl,rfl,(by show 2≤sizeLine;decide),λ l nl=>?_⟩;have e1:((n:Nat):Int)/2^Int.toNat 8=((n/256:Nat):Int):=by
  show((n:Nat):Int)/256=_;lia
 have e2:Builtin.bitAnd ((n:Nat):Int) 255=((n%256:Nat):Int):=by
  have:=dq n 8;exact this
 try dsimp only
 rw [e1,e2];exact k l nl
def dF:Sp:=λ vs H Q _=>∃(a:vR) (R:List Nat),vs=[.ref a]/\H a=some (.lst (R.map vN))/\(∀b∈R,b<256)/\R.length≤1000/\∀l H',H l=none->Same H H'->H' l=some (.lst ((sld R).map vN))->Q (.ref l) H'
theorem gY:FnScope ["row"] ["row"] (aj bC):=⟨rfl,rfl,rfl,Z8,rfl,Z8,Z8⟩
theorem fJ (F:Fn K mg "with_check" bC ["row"] f fd)(Y:Cks K mg C):FnOk P w K mg base CX0 7 f fd ["row"] dF:=by
 obtain⟨_,_,Co⟩:=Y.checkof;obtain⟨_,FC⟩:=Co.F;obtain⟨_,_,Tw⟩:=Y.two;obtain⟨t16,B16⟩:=Co.d;refine F.F.ok gY λ v9 A outer st H vs Q E hr h=>?_
 intro _;obtain⟨a,R,rfl,ha,hb,hl,k⟩:=h;have hr1:Room 1 _:=hr.mono Z9;refine⟨_,ai (au (ak aO (pv 0) (ap (oO Tw) hr1 Z7 Tw.m Tw.F.kp Tw.b .nil aw (ac (ap (eu FC Y.Z) hr Z7 Co.m Co.kp B16 (.cons (a:=V.int 16) ⟨_,rfl⟩ .nil) aw (ac (pv 0) ae)) ae)))),?_⟩;refine⟨_,rfl,_,rfl,a,16,45,R,rfl,jC,ha,hb,λ H1 s1=>?_⟩;refine⟨chk 16 45 R,rfl,dw jC hb,λ l1 n1=>?_⟩;have s2:=af (o:=.lst ((two (chk 16 45 R)).map vN)) n1;have h11:(upd H1 l1 (.lst ((two (chk 16 45 R)).map vN))) l1=some (.lst ((two (chk 16 45 R)).map vN)):=ad;have ha2:=s2 _ _ (s1 _ _ ha);have s12:=s1.trans s2;generalize upd H1 l1 (.lst ((two (chk 16 45 R)).map vN))=H2 at*;refine⟨a,l1,_,_,rfl,rfl,ha2,h11,cq (by rw [rg];show R.length+2≤2000;lia),λ l nl=>?_⟩;exact k l _ (none_of s12 nl) (s12.trans (af nl)) (by rw [ad,<-tD];rfl)
def jS:Sp:=λ vs H Q _=>∃(x y:Nat),vs=[vN x,vN y]/\x<256/\y<256/\∀l H',H l=none->Same H H'->H' l=some (.lst ((wc x y).map vN))->Q (.ref l) H'
theorem jD:FnScope ["first","inside"] ["first","inside"] (aj dg):=⟨rfl,rfl,rfl,Z8,rfl,Z8,Z8⟩
theorem iD (F:Fn K mg "head_row" dg ["first","inside"] f fd)(Y:Cks K mg C):FnOk P w K mg base CX0 7 f fd ["first","inside"] jS:=by
 obtain⟨_,_,Co⟩:=Y.checkof;obtain⟨_,FC⟩:=Co.F;refine F.F.ok jD λ v9 A outer st H vs Q E hr h=>?_
 intro _;obtain⟨x,y,rfl,hx,hy,k⟩:=h;refine⟨_,ai (au (aq (ac (pv 0) (ac (pv 1) (ac (ap (eu FC Y.Z) hr Z7 Co.m Co.kp Co.b .nil aw (ac (aq (ac (pv 0) (ac (pv 1) ae))) (ac ag ae))) ae))))),?_⟩;refine⟨_,rfl,_,rfl,_,rfl,_,rfl,(by show 2≤sizeLine;decide),λ l1 n1=>?_⟩;have s1:=af (o:=.lst [vN x,vN y]) n1;have h11:(upd H l1 (.lst [vN x,vN y])) l1=some (.lst [vN x,vN y]):=ad;generalize upd H l1 (.lst [vN x,vN y])=H1 at*;refine⟨l1,8,29,[x,y],rfl,wp8,h11,λ c hc=>by simp at hc;omega,λ H2 s2=>⟨(by show 3≤sizeLine;decide),λ l nl=>?_⟩⟩;exact k l _ (none_of (s1.trans s2) nl) ((s1.trans s2).trans (af nl)) ad
end
end K23.Ck
set_option maxHeartbeats 2000000
namespace L2
open PySem PySem.Spec PySem.Calls PyProof.Rows QQ PySem.W
variable {pos:Pos}{qual x:Str}{h':vY}{k t':Nat}{P Tb c:vR}{H':Hp}{scope:Scope}
section
variable {X:Cx}{v8:List (vR × v1)}{σ:St}{H:Hp}{s:vT}
theorem Inv.grown {c':vR}{ps more:Array vS}{oc:v1}(I:Inv X v8 σ H s)(hP:H P=some (.tbl ps))(k:Heap.ExtBut P s.heap h')(hc:s.heap.objs.size≤c')
  (hoc:h'.get? c'=some oc) (hP':h'.get? P=some (tabObj (ps++more))):Inv X v8 σ (upd (upd H P (.tbl (ps++more))) c' (.frz oc (.own c'))) {s with heap:=h',toks:=t'}:=by
 have hn:H c'=none:=I.hok.fresh hc;have nPc:P≠c':=am hP hn;have at_:∀{b:vR} {u:HO},H b=some u->b≠P->(upd (upd H P (.tbl (ps++more))) c' (.frz oc (.own c'))) b=some u:=λ {b u} e n=>by
  rw [ao (am e hn),ao n];exact e
 refine I.step (g':=s.gens) (d':=s.drawn) (ch:=[]) (λ _ z=>nomatch z) (λ b o _ _ _ e n=>k b o (am hP n).symm e) (λ b o _ _ _ e n=>⟨o.slots,k b o (am hP n).symm e⟩) (λ b o _ e n=>?_)
  (λ b o _ e=>?_) (λ b xs e=>at_ e (eV e hP (by intro z;cases z))) (λ b o u e=>at_ e (eV e hP (by intro z;cases z))) (λ b qs e=>?_) (λ m hm=>?_) (λ b u e=>?_) I.bare
 ·rw [ao (rL (rj (rk e) hc)),ao (am hP n).symm];exact n
 ·by_cases z:b=P
  ·subst z;exact⟨_,hP'⟩
  ·exact⟨o,k b o z e⟩
 ·by_cases z:b=P
  ·subst z;rw [hP] at e;cases e;exact⟨more,by rw [ao nPc,ad]⟩
  ·exact⟨#[],by rw [at_ e z];simp⟩
 ·obtain⟨o,es,ep,ho,r⟩:=hm;exact⟨o,es,ep,k _ o (am hP I.free).symm ho,r⟩
 ·by_cases z:b=c'
  ·subst z;rw [ad] at e;cases e;exact⟨hoc,oc,hoc⟩
  ·rw [ao z] at e;by_cases y:b=P
   ·subst y;rw [ad] at e;cases e;exact hP'
   ·rw [ao y] at e;refine(I.hok b u e).stay (λ c v hcb q=>k c v ?_ q) (λ c q=>at_ q (eV q hP (by intro z;cases z))) λ c xs q=>at_ q (eV q hP (by intro z;cases z))
    rcases hcb with hcb|hcb
    ·rw [hcb];exact y
    ·exact eV hcb hP (by intro z;cases z)
def lD (P:vR)(H H':Hp):Prop:=∀c o,c≠P->H c=some o->H' c=some o
def TbOk (P:vR)(pos:Pos)(qual:Str)(H:Hp):Prop:=∃ps:Array vS,H P=some (.tbl ps)/\(ps=#[]\/∃(c':vR) (oc:v1) (vs:Array vS) (t:Tok),ps=#[rawInt pos.line,rawInt pos.col,.ref c']/\H c'=some (.frz oc (.own c'))/\oc.data=.fields vs/\vs[1]?=some (.str qual t))
theorem TbOk.same (h:TbOk P pos qual H)(s:Same H H'):TbOk P pos qual H':=by
 obtain⟨ps,e,h⟩:=h;refine⟨ps,s _ _ e,?_⟩;rcases h with h|⟨c',oc,vs,t,a,b,r⟩
 ·exact .inl h
 ·exact .inr ⟨c',oc,vs,t,a,s _ _ b,r⟩
theorem eE (pos:Pos)(v:vS):codeAmong pos [rawInt pos.line,rawInt pos.col,v]=some v:=by
 have:=codeAmong_snoc (c:=v) (pos:=pos) [] trivial rfl;simpa using this
theorem lf {params:Arguments}{body:vZ}{clos:List (Str×vR)}{E:vS->vT->Prop}{Q:vS->vT->Prop}(I:Inv X v8 σ H s)(T:TbOk P pos (X.env.qual++"<lambda>") H)
  (hcode:X.env.code=.ref c) (C:CodeHd X.base c P) (hbm:∃bm o,X.mg "__builtins__"=some (.ref bm)/\bm≠builtinsNs/\bm≠mainGlobals/\X.base.get? bm=some o/\o.cls=.type "module"/\o.dict=some builtinsNs/\o.data=.plain)
  (hdef:defaultsOf params X.env=([],[])) (hcl:closureFor scope X.env=pure clos)
  (h:∀(f c':vR) (pm ctv:vS) (H':Hp) (s':vT),Inv X v8 σ H' s'->FpOk X v8 H' f->s'.heap.get? f=some (kla_obj "<lambda>" (X.env.qual++"<lambda>") params body scope clos pm c' ctv)->s'.heap.CodeRec (.ref c') (X.env.qual++"<lambda>")->
   (∃oc vs t,H' c'=some (.frz oc (.own c'))/\oc.data=.fields vs/\vs[1]?=some (.str (X.env.qual++"<lambda>") t))->TbOk P pos (X.env.qual++"<lambda>") H'->lD P H H'->Q (.ref f) s'):
  wpAny (model X.prog X.w) X.A (eval (.Lambda params body scope pos) X.env) Q E s:=by
 refine kla_eval hdef ?_;obtain⟨ps,hP,T⟩:=T;have hPo:s.heap.get? P=some (tabObj ps):=I.hok P _ hP;have M:=I.ok.mod;have hg:s.heap.Ns mainGlobals X.mg:=M.glob.keeps I.bk;have hgP:mainGlobals≠P:=λ z=>by
  obtain⟨o,es,ep,e,hd,_⟩:=hg;rw [z,hPo] at e;cases e;cases hd
 have hb:s.heap.BuiltinsAt X.mg P:=by
  obtain⟨bm,o,b1,b2,b3,b4,b5,b6,b7⟩:=hbm;refine⟨bm,o,b1,b2,b3,λ z=>?_,I.bk _ _ b4,b5,b6,b7⟩;have:=I.bk _ _ b4;rw [z,hPo] at this;cases this;cases b5
 rcases T with rfl|⟨c',oc,vs,t,rfl,hc',d1,d2⟩
 ·refine kla_makeFunction (mg:=X.mg) hcl I.ok.glob hg hcode (C.keeps I.bk) hPo trivial rfl hgP hb λ c' ctv h' tk hx hge wa hrec htb=>?_
  obtain⟨c2,oc,vs,t,e2,hoc,d1,d2⟩:=hrec;cases e2;have I1:=I.grown (t':=tk) hP hx hge hoc htb;have hn:H c'=none:=I.hok.fresh hge;have nPc:P≠c':=am hP hn;have I2:=I1.kept (t':=tk) (h':=h'.push (kla_obj "<lambda>" (X.env.qual++"<lambda>") params body scope clos ((X.mg "__name__").getD .none) c' ctv)) λ b u e=>rf _ e
  have hoc2:(h'.push (kla_obj "<lambda>" (X.env.qual++"<lambda>") params body scope clos ((X.mg "__name__").getD .none) c' ctv)).get? c'=some oc:=rf _ hoc;refine h h'.objs.size c' _ ctv _ _ I2 (I1.fpOk (rB _) (I1.hok.fresh (rB _))) (rF _ rfl) ⟨c',oc,vs,t,rfl,hoc2,d1,d2⟩ ⟨oc,vs,t,ad,d1,d2⟩
   ⟨_,by rw [ao nPc,ad],.inr ⟨c',oc,vs,t,Z6,ad,d1,d2⟩⟩ λ b o n e=>?_
  rw [ao (am e hn),ao n];exact e
 ·have hoc:s.heap.get? c'=some oc:=(I.hok _ _ hc').1;refine kla_makeFunctionHit (cv:=.ref c') (mg:=X.mg) hcl I.ok.glob hg hcode (C.keeps I.bk) hPo (by simp [TriplesOk,rawInt]) (eE pos _) hb λ ctv h' tk hk hsz=>?_
  have I2:=I.kept (t':=tk) (h':=h'.push {cls:=.type "function",data:=.func (kla_fn "<lambda>" (X.env.qual++"<lambda>") params body scope clos ((X.mg "__name__").getD .none) (.ref c') ctv)}) λ b u e=>rf _ (hk b u e)
  refine h h'.objs.size c' _ ctv _ _ I2 (I.fpOk hsz (I.hok.fresh hsz)) (rF _ rfl) ⟨c',oc,vs,t,rfl,rf _ (hk _ _ hoc),d1,d2⟩ ⟨oc,vs,t,hc',d1,d2⟩
   ⟨_,hP,.inr ⟨c',oc,vs,t,rfl,hc',d1,d2⟩⟩ λ b o n e=>e
end
noncomputable def jp (X:Cx) (N:List Str) (qual:Str) (scope:Scope) (cl:List (Str×vR)) (f:vR) (cd:vS) (A:vX) (s:vT) (H:Hp):Cx where
 prog:=X.prog
 w:=X.w
 K:=X.K
 mg:=X.mg
 base:=X.base
 A:=A.deeper (envX qual scope s.heap.objs.size f cd cl)
 N:=N
 s₀:=s
 H₀:=H
 env:=envX qual scope s.heap.objs.size f cd cl
 outer:=X.stack
 stack:=envX qual scope s.heap.objs.size f cd cl::X.stack
 ex:=[]
 calm:=true
 fn:=λ _=>false
 pn:=[]
 xe:=λ _ _=>False
structure LCaps (X:Cx)(y:Str)(Nc:List Str)(scope:Scope)(cl:List (Str×vR))(js:List Nat):Prop where
 kind:scope.kind=.function
 co:scope.isCoroutine=false
 gen:scope.isGenerator=false
 nocell:∀x∈scope.names,x.2≠ .cell
 par:scope.names.lookup y=some .local
 clos:closureFor scope X.env=pure cl
 sub:∀x c,cl.lookup x=some c->X.env.cells.lookup x=some c
 has:∀x,(scope.names.lookup x=some .cell\/scope.names.lookup x=some .free)->∃c,cl.lookup x=some c
 len:js.length=Nc.length
 slot:∀(i:Nat) (x:Str) (j:Nat),Nc[i]?=some x->js[i]?=some j->X.N[j]?=some x/\X.env.scope.names.lookup x=some .cell/\scope.names.lookup x=some .free/\∀c,X.env.cells.lookup x=some c->cl.lookup x=some c
noncomputable def nj (js:List Nat) (σ:St) (v:V):St:=some v::js.map λ j=>(σ[j]?).getD none
section
variable {X:Cx}{v8:List (vR × v1)}{σ:St}{H:Hp}{s:vT}
theorem mr {y:Str}{Nc:List Str}{cl:List (Str×vR)}{js:List Nat}{f:vR}{cd:vS}{v:V}{u:vS}(I:Inv X v8 σ H s)(C:LCaps X y Nc scope cl js)(r:RelV v u)
  (hn:h'.Ns s.heap.objs.size (λ z=>([(y,u)]:List (Str×vS)).reverse.lookup z)) (hk:∀b o,s.heap.get? b=some o->h'.get? b=some o):
  Inv (jp X (y::Nc) qual scope cl f cd X.A.in1 s H) [] (nj js σ v) H {s with heap:=h',toks:=t'}:=by
 have e0:=I.env0.in1;have noA:∀b:vR,b∉(jp X (y::Nc) qual scope cl f cd X.A.in1 s H).ex:=λ b z=>absurd (show b∈([]:List vR) from z) Z6
 have sub:∀{x:Str} {c:vR},(jp X (y::Nc) qual scope cl f cd X.A.in1 s H).env.cells.lookup x=some c->X.env.cells.lookup x=some c:=λ {x c} e=>C.sub x c e
 refine⟨⟨I.ok.mod,C.kind,rfl,rfl,rB _,λ x z c e1 e2=>I.ok.inj x z c (sub e1) (sub e2),λ x hx=>C.has x hx,λ x c e _=>(by cases e),e0.qt,Around.frames_deeper e0.frames,.inr ⟨rfl,rfl⟩,
  λ b z=>absurd z (noA b),I.bs,e0.bsz,λ b _ _=>noA b,λ b z=>absurd z (noA b),e0.funs,e0.frf⟩,
  rfl,I.bare,Un.kept hk,⟨_,hn,λ i x v' h1 h2 h3=>?_⟩,λ x c e=>?_,I.hok.fresh (rB _),λ x c e=>I.freeC x c (sub e),λ p hp=>absurd (show p∈([]:List (vR×v1)) from hp) Z6,I.hok.kept hk,?_⟩
 ·cases i with
  |zero=>
   have h1':some y=some x:=h1;cases h1';have h2':some (some v)=some (some v'):=h2;cases h2';refine⟨u,r,.inl ⟨C.par,?_⟩⟩;show([(y,u)]:List (Str×vS)).reverse.lookup y=some u;simp [List.lookup]
  |succ i=>
   have h1':Nc[i]?=some x:=h1;have h2':(js.map λ j=>(σ[j]?).getD none)[i]?=some (some v'):=h2;rw [si] at h2';cases ej:js[i]? with
   |none=>rw [ej] at h2';cases h2'
   |some j=>
    rw [ej] at h2';have h3':(σ[j]?).getD none=some v':=rH h2';obtain⟨hj1,hk1,hk2,hc⟩:=C.slot i x j h1' ej;have hj2:σ[j]?=some (some v'):=by
     cases e:σ[j]? with
     |none=>rw [e] at h3';cases h3'
     |some w'=>rw [e] at h3';exact sv some h3'
    obtain⟨mo,hno,hl⟩:=I.loc;obtain⟨u',r',l⟩:=hl j x v' hj1 hj2 (.inr (.inl hk1));refine⟨u',r',?_⟩;rcases l with⟨q,_⟩|⟨_,c,ec,o,ho,hd⟩
    ·have q':X.env.scope.names.lookup x=some .local:=q;rw [hk1] at q';cases q'
    ·exact .inr ⟨.inr hk2,c,hc c ec,o,hk c o ho,hd⟩
 ·obtain⟨v',o,ho,hd⟩:=I.cell x c (sub e);exact⟨v',o,hk c o ho,hd⟩
 ·show(some v::js.map λ j=>(σ[j]?).getD none).length=(y::Nc).length;rw [sr,rg,C.len,sr]
theorem FpOk.at {b:vR}(f:FpOk X v8 H b)(n:H' b=none):FpOk X v8 H' b:=⟨n,f.2⟩
end
section
variable {X:Cx}{k:Nat}{e body:vZ}{te:TE}{p kp pos lpos:Pos}{y:Str}{Nc:List Str}{scope:Scope}{params:Arguments}{cl:List (Str × vR)}{js:List Nat}{P c:vR}
end
section
variable {X:Cx}{o e:vZ}{es:List vZ}{m:Str}{apos pos:Pos}{k:Nat}{ta:TE}{t:TA}
end
abbrev BmAt (mg:Str->Option vS)(h:vY):Prop:=∃bm o,mg "__builtins__"=some (.ref bm)/\bm≠builtinsNs/\bm≠mainGlobals/\h.get? bm=some o/\o.cls=.type "module"/\o.dict=some builtinsNs/\o.data=.plain
theorem jK {P:vU}{w:vV}{K:Frag}{mg mb:Str->Option vS}{fa a:vR}{fd:vW}{sp:Sp}{s₁:vT}{vs:List vS}{ns:List Int}
  (KX:K.In s₁.heap) (hns:s₁.heap.Ns mainGlobals mg) (hb:s₁.heap.Ns builtinsNs mb) (hbb:∀x:Str,x≠ "__name__"->mb x=bootBuiltins x) (hlim:s₁.heap.NoLimit) (hg:s₁.gens=#[])
  (ha:s₁.heap.get? a=some {cls:=.type "list",data:=.seq vs.toArray}) (hi:IntsAre vs ns) (hl:ns.length≤sizeLine) (hr:Room k callerA)
  (hT:s₁.heap.get? Tb=some (tabObj #[])) (hC:CodeHd s₁.heap c Tb) (hKT:K.lookup Tb=none) (hbm:BmAt mg s₁.heap)
  (F:∀base:vY,K.In base->base.Ns mainGlobals mg->CodeHd base c Tb->BmAt mg base->FnOk P w K mg base CX0 k fa fd [x] sp) (hbind:∀(s:vT) (u:vS),BindsTo s fd ⟨[u],[]⟩ [(x,u)])
  (hsp:∀H:Hp,SqL K H a (ns.map V.int)->H Tb=some (.tbl #[])->a≠Tb->sp [.ref a] H (λ v _=>v=.bl true) λ _ _ _=>False):
  codeAny (model P w) callerA (.call (.ref fa) ⟨[.ref a],[]⟩) (λ r s'=>r=.ok (.ret (.bool true))/\OldK s₁.heap s'.heap/\s'.os=s₁.os/\AllBare s'.gens) s₁:=by
 have rv:=jJ hi;have lenV:=hi.length;have naT:a≠Tb:=λ z=>by rw [z,hT] at ha;cases ha
 have core:∀H:Hp,(∀b,b≠Tb->H b=none\/∃ob xs,H b=some (.frz ob (.lst xs)))->H Tb=some (.tbl #[])->SqL K H a (ns.map V.int)->HOk P w H s₁.heap->(∀b,H b≠none->b=a\/b=Tb)->(H a≠none->K.lookup a=none)->
   codeAny (model P w) callerA (.call (.ref fa) ⟨[.ref a],[]⟩) (λ r s'=>r=.ok (.ret (.bool true))/\OldK s₁.heap s'.heap/\s'.os=s₁.os/\AllBare s'.gens) s₁:=by
  intro H hO hHT hS hok hA hK;have base_of:∀{b:vR} {o:v1},s₁.heap.get? b=some o->H b=none->(hidT s₁.heap H).get? b=some o:=λ e n=>lP e n
  have noH:∀{b:vR} {o:v1},s₁.heap.get? b=some o->(b=a->False)->(b=Tb->False)->H b=none:=λ {b o} e n1 n2=>by
   cases q:H b with
   |none=>rfl
   |some u=>
    rcases hA b (by rw [q];simp) with z|z
    ·exact(n1 z).elim
    ·exact(n2 z).elim
  have noA:∀{b:vR} {o:v1} {es:Array DictEntry} {ep:Nat},s₁.heap.get? b=some o->o.data=.dict es ep->H b=none:=λ {b o es ep} e d=>noH e (λ z=>by
   subst z;rw [ha] at e;cases e;have d':Data.seq vs.toArray _=Data.dict es ep:=d;cases d') (λ z=>by
   subst z;rw [hT] at e;cases e;have d':Data.fields #[]=Data.dict es ep:=d;cases d')
  have nsK:∀{b:vR} {m:Str->Option vS},s₁.heap.Ns b m->(hidT s₁.heap H).Ns b m:=λ {b m} ⟨o,es,ep,e,d,r⟩=>⟨o,es,ep,base_of e (noA e d),d,r⟩
  have hKb:K.In (hidT s₁.heap H):=λ b o e=>base_of (KX b o e) (by
   cases q:H b with
   |none=>rfl
   |some u=>
    rcases hA b (by rw [q];simp) with z|z
    ·subst z;rw [hK (by rw [q];simp)] at e;cases e
    ·subst z;rw [hKT] at e;cases e)
  have hM:Mod K mg (hidT s₁.heap H):=⟨hKb,nsK hns,⟨mb,nsK hb,hbb⟩,let⟨mc,h1,h2⟩:=hlim;⟨mc,nsK h1,h2⟩⟩;have hCb:CodeHd (hidT s₁.heap H) c Tb:=by
   obtain⟨o,vs',file,tf,flags,tg,inF,text,tt,e1,r1,r2,r3,r4,r5,r6,r7,r8,hne⟩:=hC;exact⟨o,vs',file,tf,flags,tg,inF,text,tt,base_of e1 (noH e1 (λ z=>by
    subst z;rw [ha] at e1;cases e1;have r2':Data.seq vs.toArray _=Data.fields vs':=r2;cases r2') hne),r1,r2,r3,r4,r5,r6,r7,r8,hne⟩
  have hBb:BmAt mg (hidT s₁.heap H):=by
   obtain⟨bm,o,b1,b2,b3,b4,b5,b6,b7⟩:=hbm;exact⟨bm,o,b1,b2,b3,base_of b4 (noH b4 (λ z=>by
    subst z;rw [ha] at b4;cases b4;have b7':Data.seq vs.toArray _=Data.plain:=b7;cases b7') (λ z=>by
    subst z;rw [hT] at b4;cases b4;have b7':Data.fields #[]=Data.plain:=b7;cases b7')),b5,b6,b7⟩
  have e0:Env0 P w K mg (hidT s₁.heap H) callerA [] s₁ H:=⟨rfl,hM,λ b o e=>nQ e,uQ (jz _ _),trivial,λ b hb=>absurd (show b∈([]:List vR) from hb) Z6,hok,.of_eq hg,.inl rfl⟩;refine codeAny_mono ((F _ hKb (nsK hns) hCb hBb).run callerA [] s₁ H ⟨[.ref a],[]⟩ [.ref a] [.ref a] _ _ hr e0 (hbind s₁ (.ref a)) (.cons rfl .nil) (hsp H hS hHT naT)) λ r s' h=>?_
  cases r with
  |error e=>exact False.elim h
  |ok fl=>
   cases fl with
   |next=>exact False.elim h
   |brk=>exact False.elim h
   |cont=>exact False.elim h
   |ret u=>
    obtain⟨v,H',os,bare,un,hok',r',q⟩:=h;have q':v=.bl true:=q;subst q';obtain rfl:u=Value.bool true:=r';have keep:∀b o,b≠Tb->s₁.heap.get? b=some o->s'.heap.get? b=some o:=λ b o n e=>by
     cases q:H b with
     |none=>exact un.keep b o e q (by intro z;exact absurd (show b∈([]:List vR) from z) Z6) Z6
     |some u=>
      rcases hO b n with z|⟨ob,xs,z⟩
      ·rw [q] at z;cases z
      ·have z2:=un.frzs b ob _ z;obtain⟨e1,_⟩:=hok b _ z;obtain⟨e2,_⟩:=hok' b _ z2;rw [e] at e1;cases e1;exact e2
    obtain⟨more,hm⟩:=un.tbls Tb #[] hHT;have hTo:s'.heap.get? Tb=some (tabObj (#[]++more)):=hok' Tb _ hm;refine⟨rfl,⟨λ b o e=>?_,λ b o e=>?_⟩,os,bare⟩
    ·by_cases z:b=Tb
     ·subst z;rw [hT] at e;cases e;exact .inr (.inl ⟨(hC.tab hT).isCodeTable,rfl,#[],more,rfl,hTo⟩)
     ·exact .inl (keep b o z e)
    ·by_cases z:b=Tb
     ·subst z;exact⟨_,hTo⟩
     ·exact⟨o,keep b o z e⟩
 cases hk:K.lookup a with
 |some o=>
  have e:=KX a o hk;rw [ha] at e;cases e;refine core (λ b=>if b=Tb then some (.tbl #[]) else none) (λ b n=>.inl (rO n)) (se rfl) (.inr ⟨_,vs.toArray,_,hk,rfl,rfl,rfl,by rw [rh,lenV];exact hl,by simpa using rv⟩) (λ b u z=>?_) (λ b z=>?_) λ z=>absurd (rO naT) z
  ·by_cases hb:b=Tb
   ·have z':=(se hb).symm.trans z;cases z';subst hb;exact hT
   ·have z':=(rO hb).symm.trans z;cases z'
  ·by_cases hb:b=Tb
   ·exact .inr hb
   ·exact absurd (rO hb) z
 |none=>
  refine core (λ b=>if b=Tb then some (.tbl #[]) else if b=a then some (.frz {cls:=.type "list",data:=.seq vs.toArray} (.lst (ns.map V.int))) else none) (λ b n=>?_) (se rfl) (.inl (.inr ⟨{cls:=.type "list",data:=.seq vs.toArray},by show(if a=Tb then _ else _)=_;rw [rO naT,se rfl]⟩)) (λ b u z=>?_) (λ b z=>?_) λ _=>hk
  ·by_cases hb:b=a
   ·exact .inr ⟨_,_,(rO n).trans (se hb)⟩
   ·exact .inl ((rO n).trans (rO hb))
  ·by_cases hT':b=Tb
   ·have z':=(se hT').symm.trans z;cases z';subst hT';exact hT
   ·by_cases hb:b=a
    ·have z':=((rO hT').trans (se hb)).symm.trans z;cases z';subst hb;exact⟨ha,by rw [rg];exact hl,vs,_,rv,ha⟩
    ·have z':=((rO hT').trans (rO hb)).symm.trans z;cases z'
  ·by_cases hT':b=Tb
   ·exact .inr hT'
   ·by_cases hb:b=a
    ·exact .inl hb
    ·exact absurd ((rO hT').trans (rO hb)) z
theorem walk_ofT {l:PySem.W.OpenLaw}{n:Nat}{q:vU}{loose:List Str}{XP:(Str->Option vS)->vY->Prop}{YP:vV->vY->Prop}{d:DefRec}{K:Params->Frag}{sp:vV->Sp}
  (hn:l.most=some n) (hn2:n≤sizeLine) (hdf:d.params.defaults=[]) (hr:Room k callerA)
  (hY:∀(w:vV) (h:vY),YP w h->(K w.params).In h/\h.get? Tb=some (tabObj #[])) (hC:∀w:vV,codeHdIn (K w.params) c Tb=true) (hKT:∀w:vV,(K w.params).lookup Tb=none)
  (F:∀(w:vV) (mg:Str->Option vS) (fa:vR) (h:vY),(K w.params).In h->h.Ns mainGlobals mg->mg d.name=some (.ref fa)->
   ∃fd:vW,(∀(s:vT) (u:vS),BindsTo s fd ⟨[u],[]⟩ [(x,u)])/\
    ∀base:vY,(K w.params).In base->base.Ns mainGlobals mg->CodeHd base c Tb->BmAt mg base->FnOk l.prog w (K w.params) mg base CX0 k fa fd [x] (sp w))
  (hsp:∀(w:vV) (H:Hp) (a:vR) (ns:List Int),ns.length≤n->SqL (K w.params) H a (ns.map V.int)->H Tb=some (.tbl #[])->a≠Tb->sp w [.ref a] H (λ v _=>v=.bl true) λ _ _ _=>False):
  PySem.W.WalkO q loose XP YP l.row.toRowW d [] (λ f vs=>PySem.call f vs):=by
 refine Att.attach_call hn hdf λ w s₀ s₁ mg mb fa o pm cd doc a vs ns G Y ho hd hcd hmg hobj hints hlen hg=>?_
 obtain⟨KX,hT⟩:=hY w _ Y;obtain⟨fd,hb,hF⟩:=F w mg fa _ KX G.T.g hmg;have hbm:BmAt mg s₁.heap:=by
  obtain⟨bm,ob,b1,b2,b3,b4,b5,b6⟩:=G.T.bmain;refine⟨bm,ob,b1,b2,λ z=>?_,b3,b4,b5,b6⟩;obtain⟨o,es,ep,e,hd,_⟩:=G.T.g;rw [z,e] at b3;cases b3;rw [hd] at b6;cases b6
 exact jK KX G.T.g G.T.b G.T.builtins G.T.nolimit hg hobj hints (rP hlen hn2) hr hT (codeHd_of_K KX (hC w)) (hKT w) hbm hF hb λ H hS hHT na=>hsp w H a ns hlen hS hHT na
end L2
namespace L2
open PySem
variable {j k:Nat}{b x:Str}
theorem ky {a:Str}{i:Nat}(h1: [a,b][i]?=some x)(h2: [none,some k][i]?=some (some j)):x=b/\j=k:=by
 rcases i with _|_|i
 ·cases h2
 ·cases h1;cases h2;exact⟨rfl,rfl⟩
 ·cases h1
theorem slotsL {c:Str}{i l:Nat}(h1: [b,c][i]?=some x)(h2: [k,l][i]?=some j):(x=b/\j=k)\/(x=c/\j=l):=by
 rcases i with _|_|i
 ·cases h1;cases h2;exact .inl ⟨rfl,rfl⟩
 ·cases h1;cases h2;exact .inr ⟨rfl,rfl⟩
 ·cases h1
end L2
set_option maxHeartbeats 4000000
namespace L2
open PySem PySem.Spec PySem.Calls PyProof.Rows QQ PySem.W
section
variable {X:Cx}{o:vZ}{m:Str}{apos pos:Pos}{k:Nat}{ta:TE}
end
end L2
namespace K23.Ck
open PySem L2 QQ W17 W16 BP
seal PE PA PS PSs PT PW PG PI
abbrev cJ:v7:=top 108
theorem pk:¬(("way":Str)="count"):=Z8
theorem pV:¬(("way":Str)="inside"):=Z8
theorem qw:¬(("count":Str)="inside"):=Z8
noncomputable def fH (a b c:Nat):List (Str×V):=[("way",vN a),("count",vN b),("inside",vN c)]
theorem jq (a b c:Nat):aY "inside" (vN c) (aY "count" (vN b) (aY "way" (vN a) []))=fH a b c:=by
 show(aY "inside" (vN c) (if("way":Str)="count" then _ else(("way":Str),vN a):: [("count",vN b)]))=_;rw [rO pk];show(if("way":Str)="inside" then _ else(("way":Str),vN a)::(if("count":Str)="inside" then _ else(("count":Str),vN b):: [("inside",vN c)]))=_;rw [rO pV,rO qw];rfl
theorem pe (a b c:Nat):(fH a b c).lookup ("way":Str)=some (vN a):=by rw [<-jq,aA,rO pV,aA,rO pk,aA,se rfl]
theorem pE (a b c:Nat):(fH a b c).lookup ("count":Str)=some (vN b):=by rw [<-jq,aA,rO qw,aA,se rfl]
theorem qf (a b c:Nat):(fH a b c).lookup ("inside":Str)=some (vN c):=by rw [<-jq,aA,se rfl]
structure CH (K:Frag)(mg:Str->Option vS)(C:vR):Prop where
 cl:Cls K C
 nW:NoAttr K C "way"
 nC:NoAttr K C "count"
 nI:NoAttr K C "inside"
 m:mg "Head"=some (.ref C)
 init:∃f fd,Fun K "__init__" "Head.__init__" ip f fd/\Binds K fd ["self","way","count","inside"] []/\Mk K C f
 row:∃f fd,Me K C "row" "Head.row" pZ ["self"] f fd
section
variable {C CC':vR}
def ni (C:vR):Sp:=λ vs H Q _=>∃(p dx a b c:Nat),vs=[.ref p,vN a,vN b,vN c]/\H p=some (.ins C dx [])/\∀H',H' p=some (.ins C dx (fH a b c))->(∀b o,H b=some o->b≠p->H' b=some o)->Q .non H'
theorem nG:FnScope ["self","way","count","inside"] ["self","way","count","inside"] (aj ip):=⟨rfl,rfl,rfl,Z8,rfl,Z8,Z8⟩
theorem kC {f:vR}{fd:vW}(F:Fun K "__init__" "Head.__init__" ip f fd)(T:CH K mg C):FnOk P w K mg base CX0 1 f fd ["self","way","count","inside"] (ni C):=by
 refine F.ok nG λ v9 A outer st H vs Q E hr h=>?_
 intro _;obtain⟨p,dx,a,b,c,rfl,hp,k⟩:=h;refine⟨_,ah (bu (pv 0) (pv 1) rfl)
  (ah (bu (pv 0) (pv 2) rfl)
  (ai (bu (pv 0) (pv 3) rfl))),?_⟩
 refine⟨_,rfl,_,rfl,p,C,dx,[],rfl,hp,T.cl,T.nW,(by show 0<1000;decide),?_⟩;refine⟨_,rfl,_,rfl,p,C,dx,_,rfl,ad,T.cl,T.nC,(by show 1<1000;decide),?_⟩;refine⟨_,rfl,_,rfl,p,C,dx,_,rfl,ad,T.cl,T.nI,(by rw [show(aY "count" (vN b) (aY "way" (vN a) [])).length=2 by show(if("way":Str)="count" then _ else(("way":Str),vN a):: [("count",vN b)]).length=2;rw [rO pk];rfl];decide),?_⟩;exact k _ (Eq.trans ad (sv (λ l=>some (HO.ins C dx l)) (jq a b c))) λ d o e hd=>by rw [ao hd,ao hd,ao hd];exact e
end
end K23.Ck
set_option maxHeartbeats 4000000
namespace K23.Rf
open PySem L2 QQ W16
seal PE PA PS PSs PT PW PG PI
variable {f:vR}{fd fdW:vW}{t:String}{H:Hp}
section
variable (K:Frag)
theorem oJ:kitOne K (.type "bool") (.type "bool")=some true:=by
 show(if(Value.type "bool"==Value.type "bool")=true then some true else if kitMeta "bool"=true then(fastBuiltinMro "bool").map (·.contains (.type "bool")) else none)=some true;decide+kernel
theorem kJ {c:String}(h:(["NoneType","str","list","tuple","dict"].contains t&& ["int","bool"].contains c)=true):kitOne K (.type t) (.type c)=some false:=by
 show(if(Value.type t==Value.type c)=true then some true else if kitMeta c=true then(fastBuiltinMro t).map (·.contains (.type c)) else none)=some false;have ht:t="NoneType"\/t="str"\/t="list"\/t="tuple"\/t="dict":=by
  have:=(Bool.and_eq_true_iff.mp h).1;simpa using this
 have hc:c="int"\/c="bool":=by
  have:=(Bool.and_eq_true_iff.mp h).2;simpa using this
 rcases ht with rfl|rfl|rfl|rfl|rfl<;>rcases hc with rfl|rfl<;>decide+kernel
theorem kit_nl (h: ["NoneType","str","int","bool","tuple","dict"].contains t=true):kitOne K (.type t) (.type "list")=some false:=by
 show(if(Value.type t==Value.type "list")=true then some true else if kitMeta "list"=true then(fastBuiltinMro t).map (·.contains (.type "list")) else none)=some false;have ht:t="NoneType"\/t="str"\/t="int"\/t="bool"\/t="tuple"\/t="dict":=by simpa using h
 rcases ht with rfl|rfl|rfl|rfl|rfl|rfl<;>decide+kernel
theorem oK:kitOne K (.type "bool") (.type "int")=some true:=by
 show(if(Value.type "bool"==Value.type "int")=true then some true else if kitMeta "int"=true then(fastBuiltinMro "bool").map (·.contains (.type "int")) else none)=some true;decide+kernel
def NoInt (H:Hp)(x:V):Prop:=∃t b c,TyOf K H x t/\kitOne K t (.type "int")=some c/\kitOne K t (.type "bool")=some b/\(c=false\/b=true)
def WhV (H:Hp)(x:V)(lo hi:Int)(b:Bool):Prop:=(∃i,x=.int i/\b=(decide (lo≤i)&&decide (i≤hi)))\/(NoInt K H x/\b=false)
variable {K}
theorem NoInt.bl (b:Bool):NoInt K H (.bl b):=⟨_,true,true,.bl b,oK K,oJ K,.inr rfl⟩
theorem NoInt.of {x:V}(ty:TyOf K H x (.type t))(h: ["NoneType","str","list","tuple","dict"].contains t=true):NoInt K H x:=
 ⟨_,false,false,ty,kJ K (by rw [h];rfl),kJ K (by rw [h];rfl),.inl rfl⟩
theorem NoInt.non:NoInt K H .non:=.of .non Z9
def NoRow (K:Frag)(H:Hp)(x:V):Prop:=(∃t,TyOf K H x t/\kitOne K t (.type "list")=some false)\/
 ∃(a:vR) (xs:List V) (j:Nat) (y:V),x=.ref a/\H a=some (.lst xs)/\(∀i:Nat,i<j->∃n:Nat,n<256/\xs[i]?=some (vN n))/\xs[j]?=some y/\WhV K H y 0 255 false
def IsR (H:Hp)(x:V)(B:List Nat):Prop:=∃a,x=.ref a/\H a=some (.lst (B.map vN))/\∀b∈B,b<256
end
theorem mapI (R:List Nat):R.map vN=(R.map λ b=>((b:Nat):Int)).map V.int:=by rw [List.map_map];rfl
section
def cf (K:Frag):Sp:=λ vs H Q _=>∃(x:V) (lo hi:Int) (b:Bool),vs=[x,.int lo,.int hi]/\WhV K H x lo hi b/\Q (.bl b) H
def ij (K:Frag):Sp:=λ vs H Q _=>∃(x:V) (b:Bool),vs=[x]/\((∃i,x=.int i/\b=true)\/(NoInt K H x/\b=false))/\Q (.bl b) H
theorem fU (F:Fun K "is_number" "is_number" dO f fd)(T:Txt K mg):FnOk P w K mg base CX0 0 f fd ["thing"] (ij K):=by
 refine F.ok0 kD λ v9 A outer s H vs Q E h=>?_
 intro _;obtain⟨x,b,rfl,hw,k⟩:=h;refine⟨_,ai (au (cn (aH bB Z7 T.isi rQ (ac (pv 0) (ac (bG (v:=.ty "int") Z7 T.int uO rfl) ae))) (cU (kB (aH bB Z7 T.isi rQ (ac (pv 0) (ac (bG (v:=.ty "bool") Z7 T.bool PyProof.Rows.boot_bool rfl) ae))))))),?_⟩;rcases hw with⟨i,rfl,rfl⟩|⟨⟨t,b',c,ty,k1,k2,k3⟩,rfl⟩
 ·refine⟨_,rfl,_,_,_,_,rfl,.int _,ki K,_,rfl,bh ?_⟩;exact⟨_,rfl,_,_,_,_,rfl,.int _,kF K,_,rfl,k⟩
 ·refine⟨_,rfl,_,_,_,_,rfl,ty,k1,_,rfl,?_⟩;cases c with
  |false=>exact aW k
  |true=>
   rcases k3 with k3|k3
   ·cases k3
   ·subst k3;exact bh ⟨_,rfl,_,_,_,_,rfl,ty,k2,_,rfl,k⟩
theorem cw (F:Fn K mg "is_whole" br ["thing","least","most"] f fd)(T:Txt K mg):FnOk P w K mg base CX0 1 f fd ["thing","least","most"] (cf K):=by
 obtain⟨fN,fdN,NF,Nm,Nb⟩:=T.isnumb;refine F.F.ok i7 λ v9 A outer s H vs Q E hr h=>?_
 intro _;obtain⟨x,lo,hi,b,rfl,hw,k⟩:=h;refine⟨_,ai (au (cn (ap (fU NF T) hr Z7 Nm NF.kp Nb .nil aw (ac (pv 0) ae)) (cU (gP iW iW (pv 1) (pv 0) (pv 2))))),?_⟩;rcases hw with⟨i,rfl,rfl⟩|⟨hN,rfl⟩
 ·refine⟨_,rfl,_,true,rfl,.inl ⟨i,rfl,rfl⟩,_,rfl,bh ?_⟩;refine⟨_,rfl,_,rfl,_,_,rfl,rfl,_,rfl,?_⟩;refine aT (λ h1=>?_) (λ h1=>?_)
  ·refine⟨_,rfl,_,_,rfl,rfl,?_⟩;rw [h1,Bool.true_and] at k;exact k
  ·have h2:decide (lo≤i)=false:=by simpa using h1
   rw [h2,uN] at k;exact k
 ·exact⟨_,rfl,_,false,rfl,.inr ⟨hN,rfl⟩,_,rfl,aW k⟩
def cT (K:Frag):Sp:=λ vs H Q _=>∃x:V,vs=[x,.int 0,.int 255]/\((∃B,IsR H x B/\Q (.bl true) H)\/(NoRow K H x/\Q (.bl false) H))
theorem jg (b:Nat)(h:b<256):(decide ((0:Int)≤(b:Int))&&decide ((b:Int)≤255))=true:=by
 rw [rn (rN _),rn Z5];rfl
theorem cy {fW:vR}(F:Fn K mg "are_whole" cD ["thing","least","most"] f fd)(W:Fn K mg "is_whole" br ["thing","least","most"] fW fdW)(T:Txt K mg):FnOk P w K mg base CX0 2 f fd ["thing","least","most"] (cT K):=by
 have GW:FnOk P w K mg base CX0 1 fW fdW ["thing","least","most"] (cf K):=cw W T;refine F.F.ok scAreWhole λ v9 A outer s H vs Q E hr h=>?_
 intro _;obtain⟨x,rfl,h⟩:=h;refine⟨_,ah (aI (bD (ba (aH bB Z7 T.isi rQ (ac (pv 0) (ac (bG (v:=.ty "list") Z7 T.list sQ rfl) ae))))) (ai (au cj)) ay)
  (ah (cm sV rfl (bS (pv 0)) (a8 (i:=3) scAreWhole.nd)
   (ai (aI (bD (ba (ap GW hr Z7 W.m W.F.kp W.b .nil aw (ac (pv 3) (ac (pv 1) (ac (pv 2) ae)))))) (ai (au cj)) ay)))
  (ai (au cj))),?_⟩
 rcases h with⟨B,⟨a,rfl,hB,hb⟩,k⟩|⟨⟨t,ty,kl⟩|⟨a,xs,j,y,rfl,hL,hg1,hj,hy⟩,k⟩
 ·refine⟨_,rfl,_,_,_,_,rfl,.lst hB,gh K,_,rfl,aW ?_⟩;refine⟨_,rfl,a,rfl,⟨_,SqL.of hB⟩,bL (K:=K) (a:=a) (xs:=B.map vN) (λ i σ H2=>∃v:Option V,σ=[some (.ref a),some (.int 0),some (.int 255),v]/\H2=H)
   ⟨none,rfl,rfl⟩ (λ i σ H2 _ z9=>by obtain⟨_,_,e⟩:=z9;exact by rw [e];exact SqL.of hB) ?_ ?_⟩
  ·rintro i y σ H2 hi ⟨v,rfl,rfl⟩;obtain⟨b,hb1,rfl⟩:∃b,b∈B/\y=vN b:=by
    rw [si] at hi;cases e:B[i]? with
    |none=>rw [e] at hi;cases hi
    |some z=>rw [e] at hi;exact⟨z,sO e,(rH hi).symm⟩
   refine⟨_,rfl,_,rfl,_,rfl,_,_,_,_,rfl,.inl ⟨_,rfl,rfl⟩,_,rfl,?_⟩;rw [jg b (hb b hb1)];exact aW ⟨_,rfl,rfl⟩
  ·rintro σ H2 ⟨v,rfl,rfl⟩;exact k
 ·exact⟨_,rfl,_,_,_,_,rfl,ty,kl,_,rfl,bh k⟩
 ·refine⟨_,rfl,_,_,_,_,rfl,.lst hL,gh K,_,rfl,aW ?_⟩;refine⟨_,rfl,a,rfl,⟨_,SqL.of hL⟩,bL (K:=K) (a:=a) (xs:=xs) (λ i σ H2=>i≤j/\∃v:Option V,σ=[some (.ref a),some (.int 0),some (.int 255),v]/\H2=H)
   ⟨sy _,none,rfl,rfl⟩ (λ i σ H2 _ z9=>by obtain⟨_,_,_,e⟩:=z9;exact by rw [e];exact SqL.of hL) ?_ ?_⟩
  ·rintro i z σ H2 hi ⟨hij,v,rfl,rfl⟩;by_cases e:i=j
   ·subst e;rw [hj] at hi;cases hi;exact⟨_,rfl,_,rfl,_,rfl,_,_,_,_,rfl,hy,_,rfl,bh k⟩
   ·obtain⟨n,hn,e2⟩:=hg1 i (Nat.lt_of_le_of_ne hij e);rw [e2] at hi;cases hi;refine⟨_,rfl,_,rfl,_,rfl,_,_,_,_,rfl,.inl ⟨_,rfl,rfl⟩,_,rfl,?_⟩;rw [jg n hn];exact aW ⟨Z5,_,rfl,rfl⟩
  ·rintro σ H2 ⟨hij,v,rfl,rfl⟩;have:=(rm.mp hj).1;lia
def spIsRow (K:Frag):Sp:=λ vs H Q _=>∃x:V,vs=[x]/\((∃B,IsR H x B/\Q (.bl true) H)\/(NoRow K H x/\Q (.bl false) H))
theorem ei {fW:vR}(F:Fn K mg "is_row" cM ["thing"] f fd)(W:Fn K mg "is_whole" br ["thing","least","most"] fW fdW)(Y:Rows K mg):FnOk P w K mg base CX0 3 f fd ["thing"] (spIsRow K):=by
 obtain⟨fA,fdA,AW⟩:=Y.arewhole;have T:=Y.X;obtain⟨tg,hg⟩:=T.great;refine F.F.ok jj λ v9 A outer s H vs Q E hr h=>?_
 intro _;obtain⟨x,rfl,h⟩:=h;refine⟨_,ai (au (ap (cy AW W T) hr Z7 AW.m AW.F.kp AW.b .nil aw (ac (pv 0) (ac ag (ac (aR (v:=.int 255) Z7 hg ⟨tg,rfl⟩) ae))))),?_⟩;exact⟨_,rfl,x,rfl,h⟩
def spNeedRow (K:Frag)(cR:vR):Sp:=λ vs H Q E=>∃x:V,vs=[x]/\((∃B,IsR H x B/\∀l,H l=none->Q (.ref l) (upd H l (.lst (B.map vN))))\/(NoRow K H x/\E (.ref cR) none H))
theorem bY {cR:vR}{fW fR:vR}{fdR:vW}(F:Fn K mg "need_row" bp ["thing"] f fd)(R:Fn K mg "is_row" cM ["thing"] fR fdR)(W:Fn K mg "is_whole" br ["thing","least","most"] fW fdW)(Y:Rows K mg)(mR:mg "BadRow"=some (.ref cR))(xR:ExC K cR):
  FnOk P w K mg base (CXE P w) 31 f fd ["thing"] (spNeedRow K cR):=by
 have GR:FnOk P w K mg base CX0 3 fR fdR ["thing"] (spIsRow K):=ei R W Y;have T:=Y.X;refine F.F.okE eJ λ v9 A outer s H vs Q E hr h=>?_
 intro _;obtain⟨x,rfl,h⟩:=h;have hr2:Room 3 _:=hr.mono Z9;refine⟨_,ah (aI (bD (ba (ap GR hr2 Z7 R.m R.F.kp R.b .nil aw (ac (pv 0) ae)))) (ai (aU aV (hr.hd Z9) Z7 mR xR aB)) ay)
  (ai (au (bq cb Z7 T.list sQ (ac (pv 0) ae)))),?_⟩
 rcases h with⟨B,⟨a,rfl,hB,hb⟩,k⟩|⟨hN,k⟩
 ·refine⟨_,rfl,_,rfl,.inl ⟨B,⟨a,rfl,hB,hb⟩,_,rfl,aW ?_⟩⟩;exact⟨_,rfl,a,_,rfl,.inl (SqL.of hB),k⟩
 ·exact⟨_,rfl,_,rfl,.inr ⟨hN,_,rfl,bh k⟩⟩
end
end K23.Rf
set_option maxHeartbeats 4000000
namespace L2
open PySem PySem.Spec PyProof.Rows QQ
section
variable {X:Cx}
def tFs (n:Int)(te:TE):TE:=λ σ H Q=>te σ H λ v H1=>v=.int n/\∀z:Str,Q (.str z) H1
theorem p9 {n:Int}{e:vZ}{te:TE}{a b:Str}{j1 j2:Nat}{p1 p2 p3 pos:Pos}(he:PE X e te)(hn:autoParam (n.natAbs.log2<1920) ZZ)(h1:autoParam ((Str.empty++a).length≤sizeLine) ZZ)(h2:autoParam ((Str.empty++a++Str.ofString (toString n)).length≤sizeLine) ZZ)
  (h3:autoParam ((Str.empty++a++Str.ofString (toString n)++b).length≤sizeLine) ZZ):PE X (.JoinedStr [.Constant (.str a) j1 p1,.FormattedValue e (-1) none p2,.Constant (.str b) j2 p3] pos) (tFs n te):=by
 intro v8 s σ H Q I h;refine wpAny_JoinedStr ?_;show wpAny _ _ (eval (.Constant (.str a) j1 p1) X.env) _ _ s;refine vw ⟨a,_,rfl,h1,?_⟩;show wpAny _ _ (eval (.FormattedValue e (-1) none p2) X.env) _ _ _;refine wpAny_FormattedValue_plain (thn (he v8 _ σ H _ (I.tok _) h) λ v s1 z9=>?_);obtain⟨y,H1,I1,r1,q1⟩:=z9;obtain⟨rfl,q1⟩:=q1;obtain⟨t,rfl⟩:=r1;refine wpAny_formatField_int hn ⟨Str.ofString (toString n),_,rfl,h2,?_⟩;show wpAny _ _ (eval (.Constant (.str b) j2 p3) X.env) _ _ _;refine vw ⟨b,_,rfl,h3,h3,?_⟩;exact⟨.str _,H1,(I1.tok _),⟨_,rfl⟩,q1 _⟩
end
end L2
set_option maxHeartbeats 4000000
namespace K23.Rf
open PySem L2 QQ W16
seal PE PA PS PSs PT PW PG PI
variable {f fN:vR}{fd fdN:vW}{x:V}{H H':Hp}
section
variable {K:Frag}
theorem TyOf.same {t:vS}(s:Same H H')(h:TyOf K H x t):TyOf K H' x t:=by
 cases h with
 |non=>exact .non
 |bl y=>exact .bl y
 |int i=>exact .int i
 |str y=>exact .str y
 |flt y=>exact .flt y
 |lst e=>exact .lst (s _ _ e)
 |frz e=>exact .frz (s _ _ e)
 |tup e=>exact .tup (s _ _ e)
 |dK e=>exact .dK (s _ _ e)
 |dT e=>exact .dT (s _ _ e)
 |ins e cl ha hn htk hm=>exact .ins (s _ _ e) cl ha hn htk hm
theorem NoInt.same (s:Same H H')(h:NoInt K H x):NoInt K H' x:=by
 obtain⟨t,b,c,ty,r⟩:=h;exact⟨t,b,c,TyOf.same s ty,r⟩
theorem NoRow.same (s:Same H H')(h:NoRow K H x):NoRow K H' x:=by
 rcases h with⟨t,ty,r⟩|⟨a,xs,j,y,e,hl,hg,hj,hy⟩
 ·exact .inl ⟨t,TyOf.same s ty,r⟩
 ·refine .inr ⟨a,xs,j,y,e,s _ _ hl,hg,hj,?_⟩;rcases hy with hy|⟨hy,r⟩
  ·exact .inl hy
  ·exact .inr ⟨hy.same s,r⟩
end
theorem IsR.same {B:List Nat}(h:IsR H x B)(s:Same H H'):IsR H' x B:=by
 obtain⟨a,e,h1,h2⟩:=h;exact⟨a,e,s _ _ h1,h2⟩
def Win (H:Hp)(x:V)(W:List Nat):Prop:=(x=.non/\W=[])\/IsR H x W
def NoWin (K:Frag)(H:Hp)(x:V)(m:Nat):Prop:=(x≠ .non/\NoRow K H x)\/∃W,IsR H x W/\m<W.length
structure Nr (K:Frag)(mg:Str->Option vS)(cR:vR):Prop where
 Y:Rows K mg
 need:∃f fd,Fn K mg "need_row" bp ["thing"] f fd
 mR:mg "BadRow"=some (.ref cR)
 xR:ExC K cR
section
variable {cR:vR}
theorem Nr.ok (Z:Nr K mg cR):∃f fd,Fn K mg "need_row" bp ["thing"] f fd/\∀(P:vU) (w:vV) (base:vY),FnOk P w K mg base (CXE P w) 31 f fd ["thing"] (spNeedRow K cR):=by
 obtain⟨f,fd,N⟩:=Z.need;obtain⟨_,_,R⟩:=Z.Y.isrow;obtain⟨_,_,W⟩:=Z.Y.whole;exact⟨f,fd,N,λ _ _ _=>bY N R W Z.Y Z.mR Z.xR⟩
def jB (K:Frag)(cR:vR):Sp:=λ vs H Q E=>∃x:V,vs=[x,.int 192]/\((∃W,Win H x W/\W.length≤192/\∀l,H l=none->Q (.ref l) (upd H l (.lst (W.map vN))))\/(NoWin K H x 192/\∀H',Same H H'->E (.ref cR) none H'))
theorem scNeedWin:FnScope ["before","most","window"] ["before","most"] (aj bQ):=⟨rfl,rfl,rfl,Z8,rfl,Z8,Z8⟩
theorem iS (F:Fn K mg "need_window" bQ ["before","most"] f fd)(Z:Nr K mg cR):
  FnOk P w K mg base (CXE P w) 32 f fd ["before","most"] (jB K cR):=by
 obtain⟨_,_,N,GN'⟩:=Z.ok;have GN:=GN' P w base;have T:=Z.Y.X;refine F.F.okE scNeedWin λ v9 A outer s H vs Q E hr h=>?_
 intro _;obtain⟨x,rfl,h⟩:=h;refine⟨_,ah (aI (ax ic (pv 0) bf (az _)) (ai (au (aq ae))) ay)
  (ah (av (i:=2) scNeedWin.nd (ap GN hr Z7 N.m N.F.kp N.b .nil aV (ac (pv 0) ae)))
  (ah (aI (ax ek (aH aF Z7 T.len sF (ac (pv 2) ae)) (pv 1) (az _)) (ai (aU aV (hr.hd Z9) Z7 Z.mR Z.xR (p9 (n:=192) (pv 1)))) ay)
  (ai (au (pv 2))))),?_⟩
 rcases h with⟨W,⟨rfl,rfl⟩|⟨b,rfl,hB,hb⟩,hl,k⟩|⟨⟨hx,hN⟩|⟨W,⟨b,rfl,hB,hb⟩,hl⟩,k⟩
 ·exact⟨_,rfl,rfl,_,rfl,aT (λ _=>⟨Z9,k⟩) (λ h=>absurd (rn rfl) h)⟩
 ·refine⟨_,rfl,rfl,_,rfl,aT (λ h=>absurd (rE h) (by intro z;cases z)) (λ _=>?_)⟩;refine⟨_,rfl,_,rfl,.inl ⟨W,⟨b,rfl,hB,hb⟩,λ l hn=>?_⟩⟩;refine⟨_,rfl,l,_,rfl,.inl (SqL.of ad),_,rfl,_,_,rfl,rfl,_,rfl,aT (λ h=>?_) (λ _=>?_)⟩
  ·have:=rE h;rw [rg] at this;exact absurd (Int.ofNat_lt.1 this) (Nat.not_lt.2 hl)
  ·exact⟨_,rfl,k l hn⟩
 ·refine⟨_,rfl,rfl,_,rfl,aT (λ h=>absurd (rE h) hx) (λ _=>?_)⟩;exact⟨_,rfl,x,rfl,.inr ⟨hN,k _ (Same.refl H)⟩⟩
 ·refine⟨_,rfl,rfl,_,rfl,aT (λ h=>absurd (rE h) (by intro z;cases z)) (λ _=>?_)⟩;refine⟨_,rfl,_,rfl,.inl ⟨W,⟨b,rfl,hB,hb⟩,λ l hn=>?_⟩⟩;refine⟨_,rfl,l,_,rfl,.inl (SqL.of ad),_,rfl,_,_,rfl,rfl,_,rfl,aT (λ _=>?_) (λ h=>?_)⟩
  ·exact⟨_,rfl,rfl,λ z=>k _ (af hn)⟩
  ·exfalso;exact h (rn (by rw [rg];exact Int.ofNat_lt.2 hl))
def gO (K:Frag)(cR:vR):Sp:=λ vs H Q E=>∃x:V,vs=[x]/\((∃W,Win H x W/\W.length≤192/\∀l,H l=none->Q (.ref l) (upd H l (.lst (W.map vN))))\/(NoWin K H x 192/\∀H',Same H H'->E (.ref cR) none H'))
theorem gL:FnScope ["before"] ["before"] (aj bz):=⟨rfl,rfl,rfl,Z8,rfl,Z8,Z8⟩
theorem ok_needahead (F:Fn K mg "need_ahead" bz ["before"] f fd)(N:Fn K mg "need_window" bQ ["before","most"] fN fdN)(Z:Nr K mg cR):
  FnOk P w K mg base (CXE P w) 33 f fd ["before"] (gO K cR):=by
 have GN:=iS (P:=P) (w:=w) (base:=base) N Z;obtain⟨tg,hg⟩:=Z.Y.X.ahead;refine F.F.okE gL λ v9 A outer s H vs Q E hr h=>?_
 intro _;obtain⟨x,rfl,h⟩:=h;refine⟨_,ai (au (ap GN hr Z7 N.m N.F.kp N.b .nil aV (ac (pv 0) (ac (aR (v:=.int 192) Z7 hg ⟨tg,rfl⟩) ae)))),?_⟩;exact⟨_,rfl,x,rfl,h⟩
def NoSg (K:Frag)(H:Hp)(x y:V):Prop:=NoRow K H x\/∃T,IsR H x T/\(T.length=0\/64<T.length\/(T.length≤64/\NoWin K H y 192))
def gQ (K:Frag)(cR:vR):Sp:=λ vs H _ E=>∃x y:V,vs=[x,y]/\NoSg K H x y/\∀H',Same H H'->E (.ref cR) none H'
theorem scNeedSigns:FnScope ["text","before","signs"] ["text","before"] (aj cV):=⟨rfl,rfl,rfl,Z8,rfl,Z8,Z8⟩
theorem NoWin.same {m:Nat}(h:NoWin K H x m)(s:Same H H'):NoWin K H' x m:=by
 rcases h with⟨h1,h⟩|⟨W,h,r⟩
 ·exact .inl ⟨h1,h.same s⟩
 ·exact .inr ⟨W,h.same s,r⟩
theorem ok_needsigns {fA:vR}{fdA:vW}(F:Fn K mg "need_signs" cV ["text","before"] f fd)(A':Fn K mg "need_ahead" bz ["before"] fA fdA)(NW:Fn K mg "need_window" bQ ["before","most"] fN fdN)(Z:Nr K mg cR):
  FnOk P w K mg base (CXE P w) 34 f fd ["text","before"] (gQ K cR):=by
 have GA:=ok_needahead (P:=P) (w:=w) (base:=base) A' NW Z;obtain⟨_,_,N,GN'⟩:=Z.ok;have GN:=GN' P w base;have T:=Z.Y.X;obtain⟨tg,hg⟩:=T.signs;refine F.F.okE scNeedSigns λ v9 A outer s H vs Q E hr h=>?_
 intro _;obtain⟨x,y,rfl,h,k⟩:=h;have hr1:Room 31 _:=hr.mono Z9;refine⟨_,ah (av (i:=2) scNeedSigns.nd (ap GN hr1 Z7 N.m N.F.kp N.b .nil aV (ac (pv 0) ae)))
  (ah (aI (PW.pt (fc (ax bg (aH aF Z7 T.len sF (ac (pv 2) ae)) ag (az _)) (eB (ax ek (aH aF Z7 T.len sF (ac (pv 2) ae)) (aR (v:=.int 64) Z7 hg ⟨tg,rfl⟩) (az _))))) (ai (aU aV (hr.hd Z9) Z7 Z.mR Z.xR aB)) ay)
  (ah (cF (ap GA hr Z7 A'.m A'.F.kp A'.b .nil aV (ac (pv 1) ae)))
  (ai (au (pv 2))))),?_⟩
 rcases h with h|⟨T',⟨b,rfl,hB,hb⟩,h⟩
 ·exact⟨_,rfl,x,rfl,.inr ⟨h,k _ (Same.refl H)⟩⟩
 refine⟨_,rfl,_,rfl,.inl ⟨T',⟨b,rfl,hB,hb⟩,λ l hn=>?_⟩⟩;have s1:=af (o:=.lst (T'.map vN)) hn;have hll:(upd H l (.lst (T'.map vN))) l=some (.lst (T'.map vN)):=ad;generalize upd H l (.lst (T'.map vN))=H1 at*;refine⟨_,rfl,l,_,rfl,.inl (SqL.of hll),rfl,_,rfl,aT (λ _=>bh (k _ s1)) (λ h0=>?_)⟩;have h0:¬T'.length=0:=λ z=>h0 (rn (by rw [rg,z];rfl))
 refine⟨_,rfl,l,_,rfl,.inl (SqL.of hll),_,_,rfl,rfl,_,rfl,aT (λ _=>k _ s1) (λ h1=>?_)⟩;have h1:¬64<T'.length:=λ z=>h1 (rn (by rw [rg];exact Int.ofNat_lt.2 z))
 rcases h with h|h|⟨_,h⟩
 ·exact absurd h h0
 ·exact absurd h h1
 ·exact⟨_,rfl,y,rfl,.inr ⟨h.same s1,λ H' s2=>k _ (s1.trans s2)⟩⟩
end
end K23.Rf
set_option maxHeartbeats 4000000
namespace K23
open PySem L2 QQ W17 W16 BP
seal PE PA PS PSs PT PW PG PI
variable {f fB fL fO:vR}{fd fdB fdL fdO:vW}
abbrev df:v7:=top 32
abbrev iw:v7:=aZ (top 34) 0
abbrev jn:v7:=aZ (top 34) 1
abbrev gZ:v7:=aZ (top 34) 2
abbrev iU:v7:=aZ (top 34) 5
def bt (R:List Nat)(t s:Nat):Nat:=val R/2^(8*R.length-(t+s))%2^s
section
theorem scBitsAt:FnScope ["row","place","size","end","bytes_to_end","number","byte"] ["row","place","size"] (aj df):=scK Z8
theorem fg (F:Fn K mg "bits_at" df ["row","place","size"] f fd)(O:Fn K mg "ones" eN ["size"] fO fdO)(T:Txt K mg):FnOk P w K mg base CX0 2 f fd ["row","place","size"] d6:=by
 have GO:FnOk P w K mg base CX0 1 fO fdO ["size"] spOnes:=nk O;refine F.F.ok scBitsAt λ v9 A outer st H vs Q E hr h=>?_
 intro _;obtain⟨a,B,p,s,rfl,hB,hb,hps,hs,k⟩:=h;refine⟨_,ah (av (i:=3) scBitsAt.nd (ak aM (pv 1) (pv 2)))
  (ah (av (i:=4) scBitsAt.nd (ak aN (ak aM (pv 3) ag) ag))
  (ah (av (i:=5) scBitsAt.nd ag)
  (ah (cm sV rfl (bS (bi bw (pv 0) (bo (ak aN (pv 1) ag)) (bo (pv 4)))) (a8 (i:=6) scBitsAt.nd)
   (ai (av (i:=5) scBitsAt.nd (ak pL (ak bK (pv 5) ag) (pv 6)))))
  (ai (au (ak iN (ak fZ (pv 5) (ak bA (ak bj ag (pv 4)) (pv 3))) (ap GO hr (by rfl) O.m O.F.kp O.b .nil aw (ac (pv 2) ae)))))))),?_⟩
 refine⟨_,rfl,_,rfl,_,_,rfl,rfl,?_⟩;refine⟨_,rfl,_,_,rfl,rfl,_,_,rfl,rfl,⟨by decide,by decide⟩,?_⟩;have e1:((p:Int)+(s:Int)+7)/8=(((p+s+7)/8:Nat):Int):=by omega
 have e2:(p:Int)/8=((p/8:Nat):Int):=by omega
 have e3:(p:Int)+(s:Int)=((p+s:Nat):Int):=by omega
 have h1:p/8≤(p+s+7)/8:=by omega
 have h2:(p+s+7)/8≤B.length:=by omega
 try dsimp only
 rw [e1,e3];refine⟨_,rfl,_,rfl,_,_,rfl,rfl,⟨by decide,by decide⟩,_,rfl,_,rfl,_,rfl,a,_,rfl,SqL.of hB,λ l hl=>?_⟩
 try dsimp only
 rw [e2,mz h1 h2];have hc:∀b∈(B.take ((p+s+7)/8)).drop (p/8),b<256:=λ b hb'=>hb b (sG (tm hb'))
 have hcl:((B.take ((p+s+7)/8)).drop (p/8)).length≤4:=by rw [ur,rW];omega
 have key:=BP.bits_cut hb hps;generalize (B.take ((p+s+7)/8)).drop (p/8)=C at*;have sm:Same H (upd H l (.lst (C.map vN))):=λ b o e=>by rw [ao (am e hl)];exact e
 refine⟨l,rfl,⟨_,SqL.of ad⟩,bL (D:=⟨_,_,λ _ _=>False,λ _ _=>False⟩) (K:=K) (a:=l) (xs:=C.map vN) (λ i σ H2=>∃v:Option V,σ=[some (.ref a),some (vN p),some (vN s),some (vN (p+s)),some (vN ((p+s+7)/8)),some (vN (BP.val (C.take i))),v]/\H2=upd H l (.lst (C.map vN)))
  ⟨none,rfl,rfl⟩ (λ i σ H2 _ z9=>by obtain⟨_,_,e⟩:=z9;exact by rw [e];exact SqL.of ad) ?_ ?_⟩
 ·rintro i y σ H2 hi ⟨v,rfl,rfl⟩;obtain⟨b,hb1,rfl⟩:=dP hi;have hb2:b<256:=hc b (sO hb1);have hil:i<C.length:=(rm.mp hb1).1;have hv:BP.val (C.take i)<256^(C.take i).length:=BP.val_lt λ b hb'=>hc b (sG hb')
  have hv2:BP.val (C.take i)<256^4:=rj hv (tu (by decide) (by rw [rW];omega));refine⟨_,rfl,_,_,rfl,rfl,⟨by decide,by decide,?_⟩,_,rfl,_,_,rfl,rfl,?_⟩
  ·have:(256:Nat)^4<2^64:=by decide
   omega
  ·have e:=o2 (BP.val (C.take i)) b 8 hb2;have e':BP.val (C.take i)*2^8+b=BP.val (C.take (i+1)):=by rw [bM hb1,BP.val_snoc]
   try dsimp only
   rw [e'] at e;exact⟨some (vN b),sv (λ z:Int=>[some (V.ref a),some (vN p),some (vN s),some (vN (p+s)),some (vN ((p+s+7)/8)),some (V.int z),some (vN b)]) e,rfl⟩
 ·rintro σ H2 ⟨v,rfl,rfl⟩
  try dsimp only
  rw [rg,tR];have e4:(8:Int)*(((p+s+7)/8:Nat):Int)-((p+s:Nat):Int)=((8*((p+s+7)/8)-(p+s):Nat):Int):=by omega
  refine⟨_,rfl,_,rfl,_,_,rfl,rfl,.inl ⟨by decide,by decide⟩,_,rfl,_,_,rfl,rfl,?_⟩
  try dsimp only
  rw [e4];refine⟨_,_,rfl,rfl,by omega,_,rfl,s,rfl,by omega,_,_,rfl,rfl,?_⟩
  try dsimp only
  rw [gr,dq,key];exact k _ sm
end
structure ReadAt (C:vR)(H:Hp)(p d:vR)(R:List Nat)(t:Nat):Prop where
 ob:∃dx,H p=some (.ins C dx (fR d t))
 ls:H d=some (.lst (R.map vN))
 by':∀b∈R,b<256
 le:t≤8*R.length
structure CRd (K:Frag)(mg:Str->Option vS)(C:vR):Prop where
 cl:Cls K C
 nH:NoAttr K C "held"
 nT:NoAttr K C "taken"
section
variable {C:vR}
def my (C:vR):Sp:=λ vs H Q _=>∃(p dx a:vR) (R:List Nat),vs=[.ref p,.ref a]/\H p=some (.ins C dx [])/\H a=some (.lst (R.map vN))/\(∀b∈R,b<256)/\
 ∀(d:vR) (H':Hp),H d=none->ReadAt C H' p d R 0->(∀b o,H b=some o->b≠p->H' b=some o)->Q .non H'
theorem mj:FnScope ["self","row"] ["self","row"] (aj iw):=scK Z8
theorem lx {fN:vR}{fdN:vW}(F:Fun K "__init__" "BitReader.__init__" iw f fd)(N:Fn K mg "need_row" bp ["thing"] fN fdN)(Y:Rows K mg)(T:CRd K mg C):FnOk P w K mg base CX0 5 f fd ["self","row"] (my C):=by
 have GN:FnOk P w K mg base CX0 4 fN fdN ["thing"] spNeedRow:=bY N Y;refine F.ok mj λ v9 A outer st H vs Q E hr h=>?_
 intro _;obtain⟨p,dx,a,R',rfl,hp,ha,hb,k⟩:=h;refine⟨_,ah (bu (pv 0) (ap GN hr (by rfl) N.m N.F.kp N.b .nil aw (ac (pv 1) ae)) rfl) (ai (bu (pv 0) ag rfl)),?_⟩;refine⟨_,rfl,a,R',rfl,ha,hb,λ d hd=>?_⟩;have npd:p≠d:=am hp hd;refine⟨_,rfl,p,C,dx,[],rfl,(by rw [ao npd];exact hp),T.cl,T.nH,(by show 0<1000;decide),_,rfl,p,C,dx,_,rfl,ad,T.cl,T.nT,(by show 1<1000;decide),?_⟩;refine k d _ hd ⟨⟨dx,Eq.trans ad (sv (λ l=>some (HO.ins C dx l)) (jd d 0))⟩,by rw [ao npd.symm,ao npd.symm,ad],hb,sy _⟩ λ b o e hb=>?_
 rw [ao hb,ao hb,ao (am e hd)];exact e
def spLeft (C:vR):Sp:=λ vs H Q _=>∃(p d:vR) (R:List Nat) (t:Nat),vs=[.ref p]/\ReadAt C H p d R t/\Q (vN (8*R.length-t)) H
theorem px:FnScope ["self"] ["self"] (aj gZ):=scK Z8
theorem jh (F:Fun K "left" "BitReader.left" gZ f fd)(T:CRd K mg C)(X:Txt K mg):FnOk P w K mg base CX0 1 f fd ["self"] (spLeft C):=by
 refine F.ok px λ v9 A outer st H vs Q E hr h=>?_
 intro _;obtain⟨p,d,R,t,rfl,⟨⟨dx,hp⟩,hd,hb,ht⟩,q⟩:=h;refine⟨_,ai (au (ak bA (ak bj ag (aH aF (by rfl) X.len sF (ac (bd (pv 0) rfl) ae))) (bd (pv 0) rfl))),?_⟩;refine⟨_,rfl,p,C,dx,_,_,rfl,hp,T.cl,T.nH,eo _ _,d,_,rfl,.inl (SqL.of hd),_,_,rfl,rfl,.inl ⟨by decide,by decide⟩,?_⟩;refine⟨_,rfl,p,C,dx,_,_,rfl,hp,T.cl,T.nT,cZ _ _,_,_,rfl,rfl,?_⟩;have e:(8:Int)*((R.map vN).length:Int)-(t:Int)=((8*R.length-t:Nat):Int):=by rw [rg];omega
 try dsimp only
 rw [e];exact q
def iV (C cN:vR):Sp:=λ vs H Q E=>∃(p d:vR) (R:List Nat) (t s:Nat),vs=[.ref p,vN s]/\ReadAt C H p d R t/\s≤24/\
 (t+s≤8*R.length->∀H',ReadAt C H' p d R (t+s)->(∀c o,H c=some o->c≠p->H' c=some o)->Q (vN (bt R t s)) H')/\(8*R.length<t+s->E (.ref cN) none H)
theorem scTake:FnScope ["self","size","number"] ["self","size"] (aj jn):=scK Z8
theorem mI {fS fW':vR}{fdS fdW:vW}(F:Fun K "take" "BitReader.take" jn f fd)(S:Fn K mg "need_size" cA ["size"] fS fdS)(W:Fn K mg "is_whole" br ["thing","least","most"] fW' fdW)
  (B:Fn K mg "bits_at" df ["row","place","size"] fB fdB) (O:Fn K mg "ones" eN ["size"] fO fdO) (L:Me K C "left" "BitReader.left" gZ ["self"] fL fdL) (T:CRd K mg C) (X:Txt K mg) {cN:vR} (mN:mg "NoBits"=some (.ref cN)) (xN:ExC K cN):
  FnOk P w K mg base (CX1 P w) 31 f fd ["self","size"] (iV C cN):=by
 have GS:FnOk P w K mg base CX0 2 fS fdS ["size"] spNeedSize:=ib S W X;have GB:FnOk P w K mg base CX0 2 fB fdB ["row","place","size"] d6:=fg B O X;have GL:FnOk P w K mg base CX0 1 fL fdL ["self"] (spLeft C):=jh L.F T X;refine F.okE scTake λ v9 A outer st H vs Q E hr h=>?_
 intro _;obtain⟨p,d,R,t,s,rfl,S0,hs,q,qE⟩:=h;obtain⟨⟨dx,hp⟩,hd,hb,ht⟩:=id S0;have npd:p≠d:=eV hp hd (by intro z;cases z);have hr1:Room 1 _:=hr.mono (by decide);have hr2:Room 2 _:=hr.mono (by decide);refine⟨_,ah (cF (ap GS hr2 (by rfl) S.m S.F.kp S.b .nil aw (ac (pv 1) ae)))
  (ah (aI (ax ek (pv 1) (cx (pv 0) T.cl L.m GL hr1 L.b .nil aw) (az _)) (ai (aU aV (hr.hd (by decide)) (by rfl) mN xN aB)) ay)
  (ah (av (i:=2) scTake.nd (ap GB hr2 (by rfl) B.m B.F.kp B.b .nil aw (ac (bd (pv 0) rfl) (ac (bd (pv 0) rfl) (ac (pv 1) ae)))))
  (ah (bu (pv 0) (ak aM (bd (pv 0) rfl) (pv 1)) rfl)
  (ai (au (pv 2)))))),?_⟩
 refine⟨_,rfl,s,rfl,hs,?_⟩;refine⟨_,rfl,_,rfl,p,dx,_,rfl,hp,gW _ _ (by decide+kernel) (by decide+kernel),p,d,R,t,rfl,S0,_,_,rfl,rfl,_,rfl,aT (λ h0=>?_) (λ h0=>?_)⟩
 ·have:=rE h0;exact qE (by omega)
 have hts:t+s≤8*R.length:=by
  have:¬(((8*R.length-t:Nat):Int)<(s:Int)):=λ z=>h0 (rn z)
  omega
 have q:=q hts;refine⟨_,rfl,p,C,dx,_,_,rfl,hp,T.cl,T.nH,eo _ _,_,rfl,p,C,dx,_,_,rfl,hp,T.cl,T.nT,cZ _ _,_,rfl,d,R,t,s,rfl,hd,hb,hts,hs,λ H1 sm=>?_⟩;have hp1:=sm _ _ hp;refine⟨_,rfl,p,C,dx,_,_,rfl,hp1,T.cl,T.nT,cZ _ _,_,rfl,_,_,rfl,rfl,_,rfl,p,C,dx,_,rfl,hp1,T.cl,T.nT,oz _ _,?_⟩;have e1:(t:Int)+(s:Int)=((t+s:Nat):Int):=by omega
 try dsimp only
 rw [e1,ow];refine⟨_,rfl,?_⟩;refine q _ ⟨⟨dx,ad⟩,by rw [ao npd.symm];exact sm _ _ hd,hb,hts⟩ λ c o e n1=>?_
 rw [ao n1];exact sm c o e
def i4 (C:vR):Sp:=λ vs H Q _=>∃(p d:vR) (R:List Nat) (t:Nat),vs=[.ref p]/\ReadAt C H p d R t/\∀H',Same H H'->Q (.bl (decide (8*R.length-t<8)&&decide (BP.val R%2^(8*R.length-t)=0))) H'
theorem scAtEnd:FnScope ["self","left"] ["self"] (aj iU):=scK Z8
theorem kz (F:Fun K "at_end" "BitReader.at_end" iU f fd)
  (B:Fn K mg "bits_at" df ["row","place","size"] fB fdB) (O:Fn K mg "ones" eN ["size"] fO fdO) (L:Me K C "left" "BitReader.left" gZ ["self"] fL fdL) (T:CRd K mg C) (X:Txt K mg):
  FnOk P w K mg base CX0 3 f fd ["self"] (i4 C):=by
 have GB:FnOk P w K mg base CX0 2 fB fdB ["row","place","size"] d6:=fg B O X;have GL:FnOk P w K mg base CX0 1 fL fdL ["self"] (spLeft C):=jh L.F T X;refine F.ok scAtEnd λ v9 A outer st H vs Q E hr h=>?_
 intro _;obtain⟨p,d,R,t,rfl,S0,q⟩:=h;obtain⟨⟨dx,hp⟩,hd,hb,ht⟩:=id S0;have hr1:Room 1 _:=hr.mono (by decide);refine⟨_,ah (av (i:=1) scAtEnd.nd (cx (pv 0) T.cl L.m GL hr1 L.b .nil aw))
  (ai (au (cn (bx gF (pv 1) ag (az _)) (cU (bx bg (ap GB hr (by rfl) B.m B.F.kp B.b .nil aw (ac (bd (pv 0) rfl) (ac (bd (pv 0) rfl) (ac (pv 1) ae)))) ag (az _)))))),?_⟩
 refine⟨_,rfl,p,dx,_,rfl,hp,gW _ _ (by decide+kernel) (by decide+kernel),p,d,R,t,rfl,S0,?_⟩;refine⟨_,rfl,_,_,rfl,rfl,_,rfl,?_⟩;by_cases h8:8*R.length-t<8
 rotate_left
 ·have e0:decide (((8*R.length-t:Nat):Int)<8)=false:=sf (by omega)
  try dsimp only
  rw [e0];rw [sf h8,uN] at q;exact aW (q _ (Same.refl _))
 have e0:decide (((8*R.length-t:Nat):Int)<8)=true:=rn (by omega)
 try dsimp only
 rw [e0];rw [rn h8,Bool.true_and] at q;refine bh ?_;refine⟨_,rfl,p,C,dx,_,_,rfl,hp,T.cl,T.nH,eo _ _,_,rfl,p,C,dx,_,_,rfl,hp,T.cl,T.nT,cZ _ _,_,rfl,d,R,t,8*R.length-t,rfl,hd,hb,by omega,by omega,λ H1 sm=>?_⟩;have e1:8*R.length-(t+(8*R.length-t))=0:=by omega
 try dsimp only
 rw [e1,Nat.pow_zero,Nat.div_one];refine⟨rfl,?_⟩;have e2:decide (vN (BP.val R%2^(8*R.length-t))=V.int 0)=decide (BP.val R%2^(8*R.length-t)=0):=by
  by_cases h0:BP.val R%2^(8*R.length-t)=0
  ·rw [rn h0,rn (by rw [h0];rfl)]
  ·rw [sf h0,sf (λ z=>h0 (by have:=V.int.inj z;omega))]
 rw [e2];exact q H1 sm
end
end K23
namespace CK
variable {m p s w:Nat}
theorem oU (hw:0<w)(hs:s<2^w):s.testBit (w-1)=decide (2^w≤s*2):=by
 rw [sP];have e:2^w=2^(w-1)*2:=by rw [<-sH];congr 1;exact(Nat.sub_eq_iff_eq_add hw).mp rfl
 have hp:0<2^(w-1):=sw Z9;have wa:s/2^(w-1)<2:=uW (tX hs e);by_cases h:2^w≤s*2
 ·have:1≤s/2^(w-1):=(Nat.le_div_iff_mul_le hp).mpr Z5;have e1:s/2^(w-1)=1:=Nat.eq_of_le_of_lt_succ this wa;rw [e1];simp [h]
 ·have:s/2^(w-1)=0:=vJ Z5;rw [this];simp [h]
theorem qr (hw:0<w)(hp:p<2^w)(hs:s<2^w):T w p s=if s.testBit (w-1) then(s*2)^^^(2^w+p) else s*2:=by
 unfold T;rw [oU hw hs];by_cases h:2^w≤s*2
 ·simp only [h,decide_true,if_true];have e1:s*2%2^w=s*2-2^w:=by
   rw [Nat.mod_eq_sub_mod h,sU Z4]
  have e2:s*2=(1*2^w)^^^(s*2-2^w):=by
   rw [mul_pow_xor 1 _ w Z4];omega
  have e3:2^w+p=(1*2^w)^^^p:=by
   rw [mul_pow_xor 1 _ w hp];lia
  rw [e1,e3]
  conv=>rhs;rw [e2]
  rw [tJ (1*2^w) p,<-rS,tJ (1*2^w),rS,rS,tJ p,<-rS (1*2^w),vq,vQ]
 ·simp only [h,decide_false,if_false,sZ,vP];exact sU (Nat.lt_of_not_le h)
noncomputable def lay (w m s V:Nat):Nat:=(s*2^m)^^^((V%2^m)*2^w)
theorem eK {V:Nat}(hw:0<w):lay w (m+1) s V=((s^^^((V/2^m%2)*2^(w-1)))*2^(m+1))^^^((V%2^m)*2^w):=by
 unfold lay;have e1:V%2^(m+1)=((V/2^m%2)*2^m)^^^(V%2^m):=by
  rw [mul_pow_xor _ _ m (ss _ (sw Z9)),sH,Nat.mod_mul,sY (2^m),Nat.add_comm]
 have e2:(V/2^m%2)*2^(w-1)*2^(m+1)=(V/2^m%2)*2^m*2^w:=by
  rw [sK,sK,<-tM,<-tM];congr 2;lia
 rw [e1,<-xor_mul_pow,<-xor_mul_pow,e2,rS]
theorem nJ {V:Nat}(hw:0<w)(hs:s<2^w):(lay w (m+1) s V).testBit (w+m)=(s^^^((V/2^m%2)*2^(w-1))).testBit (w-1):=by
 rw [eK hw,va,Nat.testBit_mul_two_pow];have h1:((V%2^m)*2^w).testBit (w+m)=false:=by
  apply uG;rw [tM,sY (2^w)];exact(tx (sw Z9)).mpr (ss _ (sw Z9))
 have h2:m+1≤w+m:=Z5;rw [h1,show w+m-(m+1)=w-1 by lia];simp [h2]
theorem lv {V:Nat}(hw:0<w)(hp:p<2^w)(hs:s<2^w):
  (if(lay w (m+1) s V)/2^(w+m)%2=1 then lay w (m+1) s V^^^((2^w+p)*2^m) else lay w (m+1) s V)=lay w m (T w p (s^^^((V/2^m%2)*2^(w-1)))) V:=by
 have hb:=nJ (m:=m) (V:=V) hw hs;rw [sP] at hb;have hs1:s^^^((V/2^m%2)*2^(w-1))<2^w:=by
  refine sR hs ?_;have e:2^w=2*2^(w-1):=by rw [<-uy];congr 1;lia
  rw [e];exact(tx (sw Z9)).mpr (ss _ Z9)
 rw [qr hw hp hs1,<-hb,eK hw];generalize s^^^((V/2^m%2)*2^(w-1))=u at*;unfold lay;by_cases h:(u*2^(m+1)^^^V%2^m*2^w)/2^(w+m)%2=1
 ·simp only [h,decide_true,if_true];rw [<-xor_mul_pow,uy,<-sK,rS,rS,tJ (V%2^m*2^w)]
 ·simp only [h,decide_false,if_false,sZ];rw [uy,<-sK]
noncomputable def dv (w p n:Nat):Nat->Nat->Nat
 |0,N=>N
 |k+1,N=>if dv w p n k N/2^(n+w-1-k)%2=1 then dv w p n k N^^^((2^w+p)*2^(n-1-k)) else dv w p n k N
theorem qS (hp:p<2^w):∀(m s V:Nat),s<2^w->F w p m s V<2^w
 |0,s,V,h=>h
 |m+1,s,V,h=>mO hp
theorem oh {n V:Nat}(hw:0<w)(hp:p<2^w)(hs:s<2^w)(hV:V<2^n):∀k,k≤n->dv w p n k ((V*2^w)^^^(s*2^n))=lay w (n-k) (F w p k s (V/2^(n-k))) V
 |0,_=>by
  unfold dv lay F;rw [vO,sU hV,tJ]
 |k+1,h=>by
  have ih:=oh hw hp hs hV k (Nat.le_of_succ_le h);have e:n-k=(n-(k+1))+1:=Z5;unfold dv;rw [ih,show n+w-1-k=w+(n-(k+1)) by omega,show n-1-k=n-(k+1) by lia,e];rw [lv hw hp (qS hp _ _ _ hs)];congr 1;show _=T w p (F w p k s (V/2^(n-(k+1))/2)^^^_);rw [uF,<-sH]
theorem dv_end {n V:Nat}(hw:0<w)(hp:p<2^w)(hs:s<2^w)(hV:V<2^n):dv w p n n ((V*2^w)^^^(s*2^n))=F w p n s V:=by
 rw [oh hw hp hs hV n (rB _)];unfold lay;simp [Nat.mod_one]
end CK
set_option maxHeartbeats 4000000
namespace K23.Ck
open PySem L2 QQ
variable {f:vR}{fd:vW}
abbrev fV:v7:=top 113
abbrev iA:v7:=top 114
abbrev eU:v7:=top 116
theorem mm {X:Cx}:OpR X (binaryOp .LShift) (rI (λ i j=>0≤j/\j≤1000000/\i.natAbs<2^100000) λ i j=>.int (i*2^j.toNat)):=opI λ i j _ _ _ _ _ hc q=>by
 refine PyProof.Rows.lshift_int hc.1 ?_ q;have:=PyProof.Rows.intBits_le hc.2.2;have:=hc.2.1;lia
theorem lN {w p:Nat}{B:List Nat}(hw:WP w p)(hb:∀b∈B,b<256):chk w p B=CK.F w p (8*B.length) (2^w-1) (BP.val B):=by
 unfold chk;rw [og B.length B rfl hb,CK.G_F hw.facts.1]
section
def lU (K:Frag):Sp:=λ vs H Q _=>∃(a:vR) (ns:List Int) (k:Nat),vs=[.ref a,vN k]/\SqL K H a (ns.map V.int)/\Q (.int (ns.getD k 0)) H
theorem pz:FnScope ["_law_script","_law_k"] ["_law_script","_law_k"] (aj fV):=⟨rfl,rfl,rfl,Z8,rfl,Z8,Z8⟩
theorem nu (F:Fn K mg "_law_cell_at" fV ["_law_script","_law_k"] f fd)(X:K23.Txt K mg):FnOk P w K mg base CX0 1 f fd ["_law_script","_law_k"] (lU K):=by
 refine F.F.ok pz λ v9 A outer st H vs Q E hr h=>?_
 intro _;obtain⟨a,ns,k,rfl,hS,q⟩:=h;refine⟨_,ah (aI (ax gF (pv 1) (aH aF Z7 X.len sF (ac (pv 0) ae)) (az _)) (ai (au (aS aG (pv 0) (pv 1) (λ _ _=>rfl)))) ay)
  (ai (au ag)),?_⟩
 refine⟨_,rfl,_,rfl,a,_,rfl,.inl hS,_,_,rfl,rfl,_,rfl,?_⟩;refine aT (λ h1=>?_) (λ h1=>?_)
 ·have h2:k<ns.length:=by have:=rE h1;rw [rg] at this;exact Int.ofNat_lt.mp this
  refine⟨_,rfl,_,rfl,a,_,_,V.int (ns.getD k 0),rfl,rfl,hS,aE ?_,q⟩;rw [si,rT h2,vm,rT h2];rfl
 ·have h1':decide ((k:Int)<((ns.map V.int).length:Int))≠true:=h1;have h2:ns.length≤k:=by
   rw [rg] at h1';by_cases h:(k:Int)<(ns.length:Int)
   ·exact absurd (rn h) h1'
   ·exact Int.ofNat_le.mp (Int.not_lt.1 h)
  try dsimp only
  rw [vm,ub h2] at q;exact q
noncomputable def o6 (c k:Int):Int:=((c*48271+16807*k*k+69621*k+11)%2147483647*69621)%2147483629
def mixN (c k:Int):Nat:=(o6 c k).toNat
theorem mV (c k:Int):((mixN c k:Nat):Int)=o6 c k:=Int.toNat_of_nonneg (Int.emod_nonneg _ Z9)
def jb:Sp:=λ vs H Q _=>∃(c k:Int),vs=[.int c,.int k]/\0≤k/\k≤1000/\Q (vN (mixN c k)) H
theorem nz:FnScope ["_law_cell","_law_k"] ["_law_cell","_law_k"] (aj iA):=⟨rfl,rfl,rfl,Z8,rfl,Z8,Z8⟩
theorem lL (F:Fn K mg "_law_mixed" iA ["_law_cell","_law_k"] f fd):FnOk P w K mg base CX0 1 f fd ["_law_cell","_law_k"] jb:=by
 refine F.F.ok nz λ v9 A outer st H vs Q E hr h=>?_
 intro _;obtain⟨c,k,rfl,h0,h1,q⟩:=h;refine⟨_,ai (au (ak aK (ak bj (ak aK (ak aM (ak aM (ak aM (ak bj (pv 0) ag) (ak bj (ak bj ag (pv 1)) (pv 1))) (ak bj ag (pv 1))) ag) ag) ag) ag)),?_⟩;refine⟨_,rfl,_,_,rfl,rfl,.inr ⟨Z9,Z9⟩,_,rfl,_,_,rfl,rfl,.inl ⟨Z9,Z9⟩,_,rfl,_,_,rfl,rfl,.inr ⟨Z5,Z5⟩,_,_,rfl,rfl,?_⟩;refine⟨_,rfl,_,_,rfl,rfl,.inl ⟨Z9,Z9⟩,_,_,rfl,rfl,_,_,rfl,rfl,_,_,rfl,rfl,(by show(0:Int)<2147483647;decide),_,_,rfl,rfl,.inr ⟨Z9,Z9⟩,_,_,rfl,rfl,(by show(0:Int)<2147483629;decide),?_⟩
 try dsimp only
 rw [show(vN (mixN c k):V)=V.int (o6 c k) from sv V.int (mV c k)] at q;exact q
theorem scRest:FnScope ["_law_row","_law_wide","_law_number","_law_byte","_law_size","_law_divisor","_law_k"] ["_law_row","_law_wide"] (aj eU):=⟨rfl,rfl,rfl,Z8,rfl,Z8,Z8⟩
def o1:Sp:=λ vs H Q _=>∃(a:vR) (B:List Nat) (n p:Nat),vs=[.ref a,vN n]/\WP n p/\H a=some (.lst (B.map vN))/\(∀b∈B,b<256)/\B.length≤1000/\∀H',Same H H'->Q (vN (chk n p B)) H'
theorem dR (F:Fn K mg "_law_check" eU ["_law_row","_law_wide"] f fd)(X:K23.Txt K mg):FnOk P w K mg base CX0 1 f fd ["_law_row","_law_wide"] o1:=by
 refine F.F.ok scRest λ v9 A outer st H vs Q E hr h=>?_
 intro _;obtain⟨a,B,n,p,rfl,hw,ha,hb,hlen,q⟩:=h;obtain⟨h8,h16,hodd,hp⟩:=hw.facts;refine⟨_,ah (av (i:=2) scRest.nd ag)
  (ah (cm sV rfl (bS (pv 0)) (a8 (i:=3) scRest.nd) (ai (av (i:=2) scRest.nd (ak aM (ak bj (pv 2) ag) (pv 3)))))
  (ah (av (i:=4) scRest.nd (ak bj ag (aH aF Z7 X.len sF (ac (pv 0) ae))))
  (ah (av (i:=2) scRest.nd (ak dy (ak mm (pv 2) (pv 1)) (ak bK (ak bA (ak bK ag (pv 1)) ag) (pv 4))))
  (ah (av (i:=5) scRest.nd (ak aM (ak bK ag (pv 1)) (aS aG (aq (ac ag (ac ag ae))) (bq jO Z7 X.int uO (ac (bx bg (pv 1) ag (az _)) ae)) (λ _ _=>rfl))))
  (ah (cm sV rfl (cL Z7 X.range (ac (pv 4) ae)) (a8 (i:=6) scRest.nd) (ai (aI (ax bg (ak aK (ak fZ (pv 2) (ak bA (ak bA (ak aM (pv 4) (pv 1)) ag) (pv 6))) ag) ag (az _)) (ai (av (i:=2) scRest.nd (ak dy (pv 2) (ak bK (pv 5) (ak bA (ak bA (pv 4) ag) (pv 6)))))) ay)))
  (ai (au (pv 2)))))))),?_⟩
 refine⟨_,rfl,a,rfl,⟨_,SqL.of ha⟩,bL (D:=⟨_,_,λ _ _=>False,λ _ _=>False⟩) (K:=K) (a:=a) (xs:=B.map vN) (λ i σ H2=>∃v:Option V,σ=[some (.ref a),some (vN n),some (vN (BP.val (B.take i))),v,none,none,none]/\H2=H)
  ⟨none,rfl,rfl⟩ (λ i σ H2 _ z9=>by obtain⟨_,_,e⟩:=z9;exact by rw [e];exact SqL.of ha) ?_ ?_⟩
 ·rintro i y σ H2 hi ⟨v,rfl,rfl⟩;obtain⟨b,hb1,rfl⟩:=dP hi;refine⟨_,rfl,_,_,rfl,rfl,.inr ⟨Z9,Z9⟩,_,rfl,_,_,rfl,rfl,?_⟩;have e:(BP.val (B.take i):Int)*256+(b:Int)=((BP.val (B.take (i+1)):Nat):Int):=by rw [bM hb1,BP.val_snoc];lia
  exact⟨some (vN b),sv (λ z:Int=>[some (V.ref a),some (vN n),some (V.int z),some (vN b),none,none,none]) e,rfl⟩
 rintro σ H2 ⟨v,rfl,rfl⟩;rw [rg,tR];have hV:=BP.val_lt hb;rw [BP.pow256] at hV;have eL:(8:Int)*((B.map vN).length:Int)=((8*B.length:Nat):Int):=by rw [rg];lia
 have eS:((8*B.length:Nat):Int)+(n:Int)=((8*B.length+n:Nat):Int):=Int.ofNat_add_ofNat _ _;have e1:(1:Int)*2^((n:Nat):Int).toNat=((2^n:Nat):Int):=by have:=cE 1 n;simpa using this
 have hp1:1≤2^n:=Nat.one_le_two_pow;have e2:((2^n:Nat):Int)-1=((2^n-1:Nat):Int):=(Int.ofNat_sub hp1).symm;refine⟨_,rfl,a,_,rfl,.inl (SqL.of ha),_,_,rfl,rfl,.inl ⟨Z9,Z9⟩,?_⟩;dsimp only;rw [eL];refine⟨_,rfl,_,rfl,_,_,rfl,rfl,⟨rN _,Int.ofNat_le.2 (rP h16 Z9),?_⟩,_,rfl,_,_,rfl,rfl,⟨rN _,Int.ofNat_le.2 (rP h16 Z9),Z9⟩,?_⟩
 ·rw [vt];exact rj hV (tu Z9 Z5)
 dsimp only;rw [e1];refine⟨_,_,rfl,rfl,?_⟩;dsimp only;rw [e2];have h216:2^n≤2^16:=tu Z9 h16;refine⟨_,rfl,_,_,rfl,rfl,⟨rN _,Z5,by rw [vt];exact tY (Nat.sub_le _ _) (tY h216 Z9)⟩,?_⟩;dsimp only;rw [cE,cE];refine⟨_,_,rfl,rfl,?_⟩;dsimp only;rw [cg];generalize hN0:(BP.val B*2^n)^^^((2^n-1)*2^(8*B.length))=N0;refine⟨_,rfl,_,_,rfl,rfl,⟨rN _,Int.ofNat_le.2 (rP h16 Z9),Z9⟩,?_⟩;dsimp only;rw [e1];refine⟨(by show 2≤sizeLine;decide),λ l1 hl1=>⟨_,rfl,rfl,.inr ⟨_,rfl,?_⟩⟩⟩;have s1:Same H2 (upd H2 l1 (.lst [.int 29,.int 45])):=af hl1;have hdiv:∃j:Nat,(if decide (vN n=V.int 16)=true then(1:Int) else 0)=(j:Int)/\([V.int 29,V.int 45]:List V)[j]?=some (vN p):=by
  rcases hw with⟨rfl,rfl⟩|⟨rfl,rfl⟩
  ·exact⟨0,rfl,rfl⟩
  ·exact⟨1,rfl,rfl⟩
 obtain⟨j,ej,hj⟩:=hdiv;dsimp only;rw [ej];refine⟨l1,_,_,vN p,rfl,rfl,SqL.of ad,aE hj,_,_,rfl,rfl,?_⟩;have eD:((2^n:Nat):Int)+(p:Int)=((2^n+p:Nat):Int):=Int.ofNat_add_ofNat _ _;dsimp only;rw [eD];refine⟨_,rfl,_,rfl,Z5,Z5,fj (D:=⟨_,_,λ _ _=>False,λ _ _=>False⟩) (lo:=0) (n:=((8*B.length:Nat):Int).toNat)
  (λ i σ H3=>∃v6,σ=[some (.ref a),some (vN n),some (vN (CK.dv n p (8*B.length) i N0)),v,some (vN (8*B.length)),some (vN (2^n+p)),v6]/\H3=upd H2 l1 (.lst [.int 29,.int 45])) ⟨none,rfl,rfl⟩ ?_ ?_⟩
 ·rintro i σ H3 hi ⟨v6,rfl,rfl⟩;rw [rD] at hi;have e0:(0:Int)+(i:Int)=(i:Int):=Z5;rw [e0];have ea:((8*B.length:Nat):Int)+(n:Int)-1-(i:Int)=((8*B.length+n-1-i:Nat):Int):=Z5;have eb:((8*B.length:Nat):Int)-1-(i:Int)=((8*B.length-1-i:Nat):Int):=Z5;refine⟨_,rfl,_,rfl,_,rfl,_,_,rfl,rfl,_,_,rfl,rfl,_,rfl,_,_,rfl,rfl,?_⟩;dsimp only;rw [ea];refine⟨_,_,rfl,rfl,Z4,?_⟩;dsimp only;rw [gr];generalize hM:CK.dv n p (8*B.length) i N0=M at*;have eS2:CK.dv n p (8*B.length) (i+1) N0=if M/2^(8*B.length+n-1-i)%2=1 then M^^^((2^n+p)*2^(8*B.length-1-i)) else M:=by rw [<-hM];rfl
  refine⟨_,_,rfl,rfl,(by show(0:Int)<2;decide),rfl,_,rfl,aT (λ h1=>?_) (λ h1=>?_)⟩
  ·have h1':M/2^(8*B.length+n-1-i)%2=1:=by have:=V.int.inj (rE h1);exact Eq.symm ((λ {m n}=>Int.ofNat_inj.mp) this.symm)
   rw [se h1'] at eS2;refine⟨_,rfl,_,rfl,_,rfl,_,_,rfl,rfl,_,rfl,_,_,rfl,rfl,?_⟩;dsimp only;rw [eb];refine⟨_,_,rfl,rfl,⟨rN (8*_-1-_),Z5,?_⟩,?_⟩
   ·rw [vt];lia
   dsimp only;rw [cE];refine⟨_,_,rfl,rfl,?_⟩;dsimp only;rw [cg,<-eS2];exact⟨_,rfl,rfl⟩
  ·have h1':¬M/2^(8*B.length+n-1-i)%2=1:=λ e=>h1 (rn (sv V.int (Eq.symm (Nat.ToInt.of_eq rfl rfl e.symm))))
   rw [rO h1'] at eS2;rw [eS2];exact⟨_,rfl,rfl⟩
 ·rintro σ H3 ⟨v6,rfl,rfl⟩;refine⟨_,rfl,?_⟩;rw [rD,<-hN0,CK.dv_end (Nat.zero_lt_of_lt h8) hp Z5 hV,<-lN hw hb];exact q _ s1
end
end K23.Ck
set_option maxHeartbeats 4000000
namespace K23.Ck
open PySem L2 QQ W17 W16 BP
seal PE PA PS PSs PT PW PG PI
variable {C a b f l p:vR}{fd fdC:vW}{ps:List vR}{xs ys:List (Str×Bool)}{H H0:Hp}{j:Nat}{σ:St}
abbrev dM:v7:=top 117
theorem mw {n:Nat}(h:n<65536): [V.int (((n:Nat):Int)/256),V.int (((n:Nat):Int)%256)]=(two n).map vN:=by
 have e1:((n:Nat):Int)/256=((n/256:Nat):Int):=Eq.symm (Nat.ToInt.div_congr rfl rfl);have e2:((n:Nat):Int)%256=((n%256:Nat):Int):=Z5;rw [e1,e2];rfl
section
theorem scSealed:FnScope ["_law_row","_law_check_here"] ["_law_row"] (aj dM):=⟨rfl,rfl,rfl,Z8,rfl,Z8,Z8⟩
theorem j4 {fC:vR}(F:Fn K mg "_law_sealed" dM ["_law_row"] f fd)(Ch:Fn K mg "_law_check" eU ["_law_row","_law_wide"] fC fdC)(X:K23.Txt K mg):FnOk P w K mg base CX0 2 f fd ["_law_row"] dF:=by
 refine F.F.ok scSealed λ v9 A outer st H vs Q E hr h=>?_
 intro _;obtain⟨a,R,rfl,ha,hb,hl,k⟩:=h;refine⟨_,ah (av (i:=1) scSealed.nd (ap (dR Ch X) hr Z7 Ch.m Ch.F.kp Ch.b .nil aw (ac (pv 0) (ac ag ae))))
  (ai (au (ak aO (pv 0) (aq (ac (ak aN (pv 1) ag) (ac (ak aK (pv 1) ag) ae)))))),?_⟩
 refine seq_g λ _ g1=>⟨_,rfl,a,R,16,45,rfl,jC,ha,hb,hl,λ H1 s1=>g1 _ _ ?_⟩
 clear g1;have hc:chk 16 45 R<65536:=dw jC hb;refine⟨_,rfl,_,rfl,_,_,rfl,rfl,⟨Z9,Z9⟩,_,rfl,_,_,rfl,rfl,(by show(0:Int)<256;decide),(by show 2≤sizeLine;decide),λ l1 n1=>?_⟩
 try dsimp only
 rw [mw hc];have s2:=af (o:=.lst ((two (chk 16 45 R)).map vN)) n1;have h11:(upd H1 l1 (.lst ((two (chk 16 45 R)).map vN))) l1=some (.lst ((two (chk 16 45 R)).map vN)):=ad;have ha2:=s2 _ _ (s1 _ _ ha);have s12:=s1.trans s2;generalize upd H1 l1 (.lst ((two (chk 16 45 R)).map vN))=H2 at*;refine⟨a,l1,_,_,rfl,rfl,ha2,h11,cq (by rw [rg];show R.length+2≤2000;lia),λ l nl=>?_⟩;exact k l _ (none_of s12 nl) (s12.trans (af nl)) (by rw [ad,<-tD];rfl)
end
abbrev eO:v7:=top 115
def InH (H:Hp)(a C:vR):Prop:=∃vx,H a=some (.frz (exO (.ref C) vx) (.own a))
structure Exc1 (K:Frag)(mg:Str->Option vS)(cP c:vR):Prop where
 x:ExC K c
 n:c≠cP
 s:mroIn K c (.ref cP)=some true
def WdI (i:Nat)(z:Str):Prop:=(i=0/\z=Str.ofString "row")\/(i=9/\z=Str.ofString "body")\/(i=10/\z=Str.ofString "head")\/(i=11/\z=Str.ofString "check")
def kE (cs:List vR):Sp:=λ vs H Q _=>∃(a C:vR) (i:Nat) (z:Str),vs=[.ref a]/\InH H a C/\cs[i]?=some C/\WdI i z/\∀t H',Same H H'->H' t=some (.tup [.str z])->Q (.ref t) H'
noncomputable def names:List Str:=["BadRow","BadBits","NoBits","BadShares","BadLengths","BadCode","BadTable","Cut","BadPieces","BadBody","BadHead","BadCheck","BadMark","BadTail","Behind","Over","NoRange","BadLetters"]
structure Ers (K:Frag)(mg:Str->Option vS)(cP:vR)(cs:List vR):Prop where
 tuple:mg "tuple"=none
 verr:mg "ValueError"=none
 mP:mg "PressError"=some (.ref cP)
 xP:ExC K cP
 len:∃c0 c1 c2 c3 c4 c5 c6 c7 c8 c9 c10 c11 c12 c13 c14 c15 c16 c17:vR,cs=[c0,c1,c2,c3,c4,c5,c6,c7,c8,c9,c10,c11,c12,c13,c14,c15,c16,c17]
 m:∀(i:Nat) (x:Str) (c:vR),names[i]?=some x->cs[i]?=some c->mg x=some (.ref c)
 k:∀(i:Nat) (z:Str) (c:vR),WdI i z->cs[i]?=some c->Exc1 K mg cP c/\ExI K c/\kitOne K (.ref c) (.type "ValueError")=some true/\∀(j:Nat) (d:vR),cs[j]?=some d->kitOne K (.ref c) (.ref d)=some (decide (j=i))
abbrev Tw (H:Hp):List vR->List (Str×Bool)->Prop:=Paired λ p x=>H p=some (.tup [.str x.1,.bl x.2])
theorem Tw.same {H':Hp}(s:Same H H')(h:Tw H ps xs):Tw H' ps xs:=by
 induction h with
 |nil=>exact .nil
 |cons h _ ih=>exact .cons (s _ _ h) ih
theorem Tw.append {qs:List vR}(h:Tw H ps xs)(s:Tw H qs ys):Tw H (ps++qs) (xs++ys):=by
 induction h with
 |nil=>exact s
 |cons r _ ih=>exact .cons r ih
theorem Tw.get {i:Nat}(h:Tw H ps xs)(e:ps[i]?=some p):∃x,xs[i]?=some x/\H p=some (.tup [.str x.1,.bl x.2]):=by
 induction h generalizing i with
 |nil=>cases e
 |cons r _ ih=>cases i with
  |zero=>cases e;exact⟨_,rfl,r⟩
  |succ i=>exact ih (i:=i) e
section
variable (K:Frag)
def qP:List V->Hp->VK->Prop:=λ xs H Q=>∃a C vs c b,xs=[.ref a,qh c]/\(∃n,c=.ref n\/∃t,c=.type t)/\H a=some (.frz (exO (.ref C) vs) (.own a))/\ExI K C/\kitOne K (.ref C) c=some b/\Q (.bl b) H
def nY (z:Str)(c:vR):TE:=pK (cr (tC (.str z)) (cr (tCB (qP K) (cr (d9 0) (cr (tC (.ref c)) ee))) ee))
def gm:List (Str×vR)->TA
 | []=>ee
 |x::r=>cr (nY K x.1 x.2) (gm r)
variable {K}
theorem aQ {X:Cx}{z x:Str}{c:vR}{k:Nat}{p1 p2 p3 p4 p5 p6:Pos}(hi:X.mg "isinstance"=none)(hm:X.mg x=some (.ref c))(hN:autoParam (X.N[0]?=some ("_law_e":Str)) Z0)(hv:autoParam (Vis X.env.scope "_law_e") ZT)
  (hg1:autoParam (Gl X "isinstance") Z0) (hg2:autoParam (Gl X x) Z0) (hd:autoParam ((x==("__debug__":Str))=false) ZZ)
  (hs1:autoParam (starEach [.Name "_law_e" p3,.Name x p4] X.env=(false,eval (.Name "_law_e" p3) X.env)::starEach [.Name x p4] X.env) Z0) (hs2:autoParam (starEach [.Name x p4] X.env=(false,eval (.Name x p4) X.env)::starEach [] X.env) Z0)
  (hs3:autoParam (starEach [.Constant (.str z) j p1,.Call (.Name "isinstance" p2) [.Name "_law_e" p3,.Name x p4] [] p5] X.env=(false,eval (.Constant (.str z) j p1) X.env)::starEach [.Call (.Name "isinstance" p2) [.Name "_law_e" p3,.Name x p4] [] p5] X.env) Z0)
  (hs4:autoParam (starEach [.Call (.Name "isinstance" p2) [.Name "_law_e" p3,.Name x p4] [] p5] X.env=(false,eval (.Call (.Name "isinstance" p2) [.Name "_law_e" p3,.Name x p4] [] p5) X.env)::starEach [] X.env) Z0)
  (hpl:autoParam ((backTo p5 (starEach [.Name x p4] X.env)).any (·.1)=false) Z0):
  PE X (.Tuple [.Constant (.str z) j p1,.Call (.Name "isinstance" p2) [.Name "_law_e" p3,.Name x p4] [] p5] k p6) (nY X.K z c):=
 aC (ac aB (ac (aH eM hg1 hi rQ (ac (lq hN hv) (ac (aR (v:=.ref c) hg2 hm rfl hd) ae hs2) hs1) Z9 Z9 hs1 hpl) ae hs4) hs3)
theorem g9 (ci:ExI K C)(h0:σ[0]?=some (some (.ref a)))(l:List (Str×vR)):∀(bs:List Bool) (H:Hp) (Q:List V->Hp->Prop),Paired (λ(x:Str×vR) b=>kitOne K (.ref C) (.ref x.2)=some b) l bs->InH H a C->
  (∀H' ps,Same H H'->Tw H' ps ((l.map (·.1)).zip bs)->Q (ps.map V.ref) H')->gm K l σ H Q:=by
 induction l with
 |nil=>intro bs H Q hp _ k;cases hp;exact k H [] (Same.refl H) .nil
 |cons x l ih=>
  intro bs H Q hp hE k;cases hp with
  |cons r rr=>
  rename_i b _
  obtain⟨vx,hE⟩:=hE;refine⟨_,h0,a,C,vx,.ref x.2,b,rfl,⟨x.2,.inl rfl⟩,hE,ci,r,(by show 2≤sizeLine;decide),λ p hp=>?_⟩;have s1:Same H (upd H p (.tup [.str x.1,.bl b])):=λ c o e=>by rw [ao (am e hp)];exact e
  refine ih _ _ _ rr ⟨vx,s1 _ _ hE⟩ λ H' ps s2 tw=>?_
  exact k H' (p::ps) (s1.trans s2) (.cons (s2 _ _ ad) tw)
end
section
variable {cP:vR}{cs:List vR}
theorem scWord:FnScope ["_law_e","_law_some","_law_found"] ["_law_e"] (aj eO):=⟨rfl,rfl,rfl,Z8,rfl,Z8,Z8⟩
structure SomeL (H0 H:Hp)(a C l:vR)(xs:List (Str×Bool)):Prop where
 s:Same H0 H
 e:InH H a C
 l:∃ps:List vR,H l=some (.lst (ps.map V.ref))/\Tw H ps xs
theorem SomeL.first (e:InH H0 a C)(s:Same H0 H)(tw:Tw H ps xs)(hl:H l=none):SomeL H0 (upd H l (.lst (ps.map V.ref))) a C l xs:=by
 have s1:Same H (upd H l (.lst (ps.map V.ref))):=λ c o q=>by rw [ao (am q hl)];exact q
 obtain⟨vx,e⟩:=e;exact⟨s.trans s1,⟨vx,s1 _ _ (s _ _ e)⟩,ps,ad,tw.same s1⟩
theorem SomeL.more {H1:Hp}(S:SomeL H0 H a C l xs)(s:Same H H1)(tw:Tw H1 ps ys)(hb:H1 b=none):
  ∃qs:List vR,upd H1 b (.lst (ps.map V.ref)) l=some (.lst (qs.map V.ref))/\qs.length=xs.length/\∀p,upd H1 b (.lst (ps.map V.ref)) p=none->SomeL H0 (upd (upd H1 b (.lst (ps.map V.ref))) p (.lst (qs.map V.ref++ps.map V.ref))) a C p (xs++ys):=by
 obtain⟨s0,⟨vx,e⟩,qs,hl,tq⟩:=S;have s1:Same H1 (upd H1 b (.lst (ps.map V.ref))):=λ c o q=>by rw [ao (am q hb)];exact q
 refine⟨qs,s1 _ _ (s _ _ hl),u5 tq,λ p hp=>?_⟩;have s2:Same (upd H1 b (.lst (ps.map V.ref))) (upd (upd H1 b (.lst (ps.map V.ref))) p (.lst (qs.map V.ref++ps.map V.ref))):=λ c o q=>by rw [ao (am q hp)];exact q
 have s3:=(s.trans s1).trans s2;exact⟨s0.trans s3,⟨vx,s3 _ _ e⟩,qs++ps,by rw [ad,tD],(tq.same s3).append (tw.same (s1.trans s2))⟩
theorem lu {i n:Nat}:∀x σ H (A B:St->Hp->Prop),(∀σ' H',A σ' H'->B σ' H')->nM K n (dX (bE i) (dX (bE j) mY)) x σ H A->nM K n (dX (bE i) (dX (bE j) mY)) x σ H B:=by
 rintro x σ H A B m ⟨a,xs,e1,e2,e3,v,r,e4,v2,r2,e5,e6,z⟩;exact⟨a,xs,e1,e2,e3,v,r,e4,v2,r2,e5,e6,m _ _ z⟩
theorem ndW:(["_law_word_here","_law_fits"]:List Str).Nodup:=Z8
theorem fK {n:Nat}(h:n≤40):n≤sizeLine:=rP h Z9
theorem kx {D:Ends}(ci:ExI K C)(h0:σ[0]?=some (some (.ref a)))(l:List (Str×vR))(bs:List Bool)(pr:Paired (λ(x:Str×vR) b=>kitOne K (.ref C) (.ref x.2)=some b) l bs)(hE:InH H a C)(hn:l.length≤3)
  (k:∀b H',SomeL H H' a C b ((l.map (·.1)).zip bs)->D.nx (σ.set 1 (some (.ref b))) H'):nP (oV (gm K l)) (bE 1) D σ H:=by
 refine g9 ci h0 l bs H _ pr hE λ H1 ps s1 tw=>⟨?_,λ b hb=>k b _ (.first hE s1 tw hb)⟩
 have e:=u5 tw;rw [rg,e,List.length_zip,rg];exact fK Z5
theorem bX {D:Ends}(ci:ExI K C)(S:SomeL H0 H a C b xs)(h0:σ[0]?=some (some (.ref a)))(h1:σ[1]?=some (some (.ref b)))(hx:xs.length≤20)(l:List (Str×vR))(bs:List Bool)(pr:Paired (λ(x:Str×vR) b=>kitOne K (.ref C) (.ref x.2)=some b) l bs)(hn:l.length≤3)
  (k:∀b' H',SomeL H0 H' a C b' (xs++(l.map (·.1)).zip bs)->D.nx (σ.set 1 (some (.ref b'))) H'):nP (tOp pA (d9 1) (oV (gm K l))) (bE 1) D σ H:=by
 refine⟨_,h1,g9 ci h0 l bs H _ pr S.e λ H1 ps s1 tw=>?_⟩;have e:=u5 tw;rw [List.length_zip,rg] at e;refine⟨by rw [rg];exact fK Z5,λ b1 hb1=>?_⟩;obtain⟨qs,hl,hq,kk⟩:=S.more s1 tw hb1;exact⟨b,b1,_,_,rfl,rfl,hl,ad,by rw [rg,rg];exact fK Z5,λ p hp=>k p _ (kk p hp)⟩
theorem jY (xs:List (Str×Bool))(i:Nat)(x:Str×Bool)(h:xs[i]?=some x):((xs.take (i+1)).filter (·.2)).map (λ x=>V.str x.1)=((xs.take i).filter (·.2)).map (λ x=>V.str x.1)++(if x.2=true then [V.str x.1] else []):=by
 rw [List.take_add_one,h];simp only [Option.toList_some,List.filter_append,tD];by_cases hb:x.2=true
 ·simp [hb]
 ·simp [hb]
theorem gk (F:Fn K mg "_law_word" eO ["_law_e"] f fd)(T:K23.Txt K mg)(Z:Ers K mg cP cs):FnOk P w K mg base CX0 5 f fd ["_law_e"] (kE cs):=by
 obtain⟨c0,c1,c2,c3,c4,c5,c6,c7,c8,c9,c10,c11,c12,c13,c14,c15,c16,c17,rfl⟩:=Z.len;refine F.F.ok scWord λ v9 A outer st H vs Q E hr h=>?_
 intro _;obtain⟨a,C,i0,z,rfl,hE,hC,hzz,k⟩:=h;refine⟨_,(ah (av (i:=1) scWord.nd (aq (ac (aQ T.isi (Z.m 0 _ _ rfl rfl)) (ac (aQ T.isi (Z.m 1 _ _ rfl rfl)) (ac (aQ T.isi (Z.m 2 _ _ rfl rfl)) ae)))))
  (ah (av (i:=1) scWord.nd (ak aO (pv 1) (aq (ac (aQ T.isi (Z.m 3 _ _ rfl rfl)) (ac (aQ T.isi (Z.m 4 _ _ rfl rfl)) ae)))))
  (ah (av (i:=1) scWord.nd (ak aO (pv 1) (aq (ac (aQ T.isi (Z.m 5 _ _ rfl rfl)) (ac (aQ T.isi (Z.m 6 _ _ rfl rfl)) (ac (aQ T.isi (Z.m 7 _ _ rfl rfl)) ae))))))
  (ah (av (i:=1) scWord.nd (ak aO (pv 1) (aq (ac (aQ T.isi (Z.m 8 _ _ rfl rfl)) (ac (aQ T.isi (Z.m 9 _ _ rfl rfl)) ae)))))
  (ah (av (i:=1) scWord.nd (ak aO (pv 1) (aq (ac (aQ T.isi (Z.m 10 _ _ rfl rfl)) (ac (aQ T.isi (Z.m 11 _ _ rfl rfl)) ae)))))
  (ah (av (i:=1) scWord.nd (ak aO (pv 1) (aq (ac (aQ T.isi (Z.m 12 _ _ rfl rfl)) (ac (aQ T.isi (Z.m 13 _ _ rfl rfl)) ae)))))
  (ah (av (i:=1) scWord.nd (ak aO (pv 1) (aq (ac (aQ T.isi (Z.m 14 _ _ rfl rfl)) (ac (aQ T.isi (Z.m 15 _ _ rfl rfl)) (ac (aQ T.isi (Z.m 16 _ _ rfl rfl)) ae))))))
  (ah (av (i:=1) scWord.nd (ak aO (pv 1) (aq (ac (aQ T.isi (Z.m 17 _ _ rfl rfl)) ae))))
  (ah (lY (i:=2) (N:=["_law_word_here","_law_fits"]) (g:=nM K 2 (dX (bE 0) (dX (bE 1) mY))) (tt:=tB (d9 1)) (te:=d9 0) scWord.nd rfl (Or.inl rfl) rfl rfl Z8 Z8 Z8 (bS (pv 1))
    (λ fp s H=>lR rfl (dl (a8 (i:=0) ndW) (dl (a8 (i:=1) ndW) ju))) (λ fp s H=>ba (pv 1)) (λ fp s H=>pv 0) Z7)
  (ai (au (dn (ba (aH eM Z7 T.isi rQ (ac (pv 0) (ac (bG (v:=.ty "ValueError") Z7 Z.verr PyProof.Rows.Boot.«ValueError» rfl) ae))))
    (bq bJ Z7 Z.tuple uC (ac (pv 2) ae)) (aC (ac aB ae)))))))))))))),?_⟩
 obtain⟨_,ci,hv,kk⟩:=Z.k i0 z C hzz hC;refine seq_g λ R g=>kx ci rfl [("row",c0),("bits",c1),("nobits",c2)] [decide (0=i0),decide (1=i0),decide (2=i0)] (.cons (kk 0 _ rfl) (.cons (kk 1 _ rfl) (.cons (kk 2 _ rfl) .nil))) hE Z6 λ b0 H0 S0=>g _ _ ?_
 clear g;refine seq_g λ R g=>bX ci S0 rfl rfl Z6 [("shares",c3),("lengths",c4)] [decide (3=i0),decide (4=i0)] (.cons (kk 3 _ rfl) (.cons (kk 4 _ rfl) .nil)) Z6 λ b1 H1 S1=>g _ _ ?_
 clear g;refine seq_g λ R g=>bX ci S1 rfl rfl Z6 [("code",c5),("table",c6),("cut",c7)] [decide (5=i0),decide (6=i0),decide (7=i0)] (.cons (kk 5 _ rfl) (.cons (kk 6 _ rfl) (.cons (kk 7 _ rfl) .nil))) Z6 λ b2 H2 S2=>g _ _ ?_
 clear g;refine seq_g λ R g=>bX ci S2 rfl rfl Z6 [("pieces",c8),("body",c9)] [decide (8=i0),decide (9=i0)] (.cons (kk 8 _ rfl) (.cons (kk 9 _ rfl) .nil)) Z6 λ b3 H3 S3=>g _ _ ?_
 clear g;refine seq_g λ R g=>bX ci S3 rfl rfl Z6 [("head",c10),("check",c11)] [decide (10=i0),decide (11=i0)] (.cons (kk 10 _ rfl) (.cons (kk 11 _ rfl) .nil)) Z6 λ b4 H4 S4=>g _ _ ?_
 clear g;refine seq_g λ R g=>bX ci S4 rfl rfl Z6 [("mark",c12),("tail",c13)] [decide (12=i0),decide (13=i0)] (.cons (kk 12 _ rfl) (.cons (kk 13 _ rfl) .nil)) Z6 λ b5 H5 S5=>g _ _ ?_
 clear g;refine seq_g λ R g=>bX ci S5 rfl rfl Z6 [("behind",c14),("over",c15),("range",c16)] [decide (14=i0),decide (15=i0),decide (16=i0)] (.cons (kk 14 _ rfl) (.cons (kk 15 _ rfl) (.cons (kk 16 _ rfl) .nil))) Z6 λ b6 H6 S6=>g _ _ ?_
 clear g;refine seq_g λ R g=>bX ci S6 rfl rfl Z6 [("letters",c17)] [decide (17=i0)] (.cons (kk 17 _ rfl) .nil) Z6 λ b7 H7 S7=>g _ _ ?_
 clear g;obtain⟨s8,⟨vx,e8⟩,ps,hl8,tw8⟩:=S7;generalize hxs:(_++List.zip _ _:List (Str×Bool))=xs at tw8;have hfin:((xs.filter (·.2)).map λ x=>V.str x.1)=[V.str z]:=by
  rw [<-hxs];rcases hzz with⟨rfl,rfl⟩|⟨rfl,rfl⟩|⟨rfl,rfl⟩|⟨rfl,rfl⟩<;>rfl
 have hlen:xs.length=18:=by rw [<-hxs];rfl
 clear hxs;have hps:ps.length=xs.length:=u5 tw8;refine seq_g λ _ g=>⟨_,rfl,b7,rfl,⟨_,SqL.of hl8⟩,λ l2 hl2=>lQ (K:=K) (a:=b7) (xs:=ps.map V.ref) (λ i ys H'=>ys=((xs.take i).filter (·.2)).map (λ x=>V.str x.1)/\H' l2=some (.lst ys)/\Same H7 H')
  ⟨Z6,ad,λ c o e=>by rw [ao (am e hl2)];exact e⟩ (λ i ys H' _ p=>SqL.of (p.2.2 _ _ hl8)) ?_ ?_ lu ?_ ?_⟩
 ·rintro i x ys σ H' hx ⟨e1,e2,s9⟩ hσ;obtain⟨p,hp,rfl⟩:∃p,ps[i]?=some p/\x=V.ref p:=by
   rw [si] at hx;cases e:ps[i]? with
   |none=>rw [e] at hx;cases hx
   |some q=>rw [e] at hx;exact⟨q,rfl,(rH hx).symm⟩
  obtain⟨y,hy,htup⟩:=tw8.get hp;obtain⟨u,v,rfl⟩:∃u v,σ=[u,v]:=by
   match σ,hσ with
   | [u,v],_=>exact⟨u,v,rfl⟩
  refine⟨p,_,rfl,SqT.of (s9 _ _ htup),rfl,_,_,rfl,_,_,rfl,rfl,_,rfl,_,rfl,?_⟩;have fs:=jY xs i y hy;cases hb:y.2 with
  |true=>
   dsimp only;rw [se rfl];rw [hb,se rfl,<-e1] at fs;refine⟨_,rfl,e2,?_,rfl,fs.symm,ad,λ c o e=>?_⟩
   ·have:=(rm.mp hy).1;rw [e1,rg];have l1:=List.length_filter_le (λ x:Str×Bool=>x.2) (xs.take i);rw [rW] at l1;have h18:i<18:=tX this hlen;exact tY (rP l1 (Nat.min_le_left _ _)) (Nat.lt_trans h18 Z9)
   ·have hne:c≠l2:=am e hl2;rw [ao hne];exact s9 _ _ e
  |false=>
   dsimp only;rw [rO rs];rw [hb,rO rs,List.append_nil,<-e1] at fs;exact⟨rfl,fs.symm,e2,s9⟩
 ·rintro ys H' ⟨e1,e2,s9⟩;refine g _ _ ?_;clear g;rw [rg,hps,tR,hfin] at e1;subst e1;refine⟨_,rfl,a,C,vx,.type "ValueError",true,rfl,⟨0,.inr ⟨_,rfl⟩⟩,s9 _ _ e8,ci,hv,_,rfl,bh ?_⟩;refine⟨_,rfl,l2,[.str z],rfl,.inl ⟨SqL.of e2,λ t ht=>?_⟩⟩;exact k t _ ((s8.trans s9).trans λ c o e=>by rw [ao (am e ht)];exact e) ad
 ·rintro σ H A B m ⟨x,e,c,e2,z⟩;exact⟨x,e,c,e2,m _ _ z⟩
 ·rintro σ H A B m ⟨x,e,z⟩;exact⟨x,e,m _ _ z⟩
end
abbrev fG:v7:=top 43
abbrev dj:v7:=top 106
abbrev bU:v7:=top 107
abbrev dD:v7:=top 109
theorem bF {d:vR}(np:H p=none)(nd:H d=none):Same H (upd (upd H d (.own p)) p (.ins C d [])):=λ c o e=>by
 rw [ao (am e np),ao (am e nd)];exact e
structure Hds (K:Frag)(mg:Str->Option vS)(C CHd cR cH:vR):Prop where
 Y:Cks K mg C
 T:CH K mg CHd
 N:Rf.Nr K mg cR
 headrow:∃f fd,Fn K mg "head_row" dg ["first","inside"] f fd
 three:∃t,mg "HEAD_BYTES"=some (.int 3 t)
 twoB:∃t,mg "CHECK_BYTES"=some (.int 2 t)
 most:∃t,mg "MOST_INSIDE"=some (.int 64 t)
 mH:mg "BadHead"=some (.ref cH)
 xH:ExC K cH
section
variable {C CHd cR cH:vR}
inductive HdK (a b c:Nat):Option (Nat×Nat×Nat) ⊕ Unit->Prop
 |bad:c≠chk 8 29 [a,b]->HdK a b c (.inr ())
 |tail:c=chk 8 29 [a,b]->a=0->b=0->HdK a b c (.inl none)
 |far:c=chk 8 29 [a,b]->¬(a=0/\b=0)->(b=0\/64<b)->HdK a b c (.inr ())
 |ok:c=chk 8 29 [a,b]->1≤b->b≤64->HdK a b c (.inl (some (a/64,a%64+1,b)))
theorem HdK.uniq {a b c:Nat}{o o':Option (Nat×Nat×Nat) ⊕ Unit}(h:HdK a b c o)(h':HdK a b c o'):o=o':=by
 cases h<;>cases h'<;>first|rfl|(exfalso;omega)
def kO (K:Frag)(CHd cR cH:vR):Sp:=λ vs H Q E=>∃x:V,vs=[x]/\
 ((Rf.NoRow K H x/\∀H',Same H H'->E (.ref cR) none H')\/(∃T,Rf.IsR H x T/\T.length≠3/\∀H',Same H H'->E (.ref cR) none H')\/
  ∃a b c o,Rf.IsR H x [a,b,c]/\HdK a b c o/\match o with
  | .inr _=>∀H',Same H H'->E (.ref cH) none H'
  | .inl none=>∀H',Same H H'->Q .non H'
  | .inl (some (u,v,y))=>∀(p dx:vR) H',H p=none->Same H H'->H' p=some (.ins CHd dx (fH u v y))->Q (.ref p) H')
theorem scHeadOf:FnScope ["row","told","first","inside"] ["row"] (aj dj):=⟨rfl,rfl,rfl,Z8,rfl,Z8,Z8⟩
theorem fu (F:Fn K mg "head_of" dj ["row"] f fd)(Z:Hds K mg C CHd cR cH):FnOk P w K mg base (CXE P w) 32 f fd ["row"] (kO K CHd cR cH):=by
 obtain⟨_,_,N,GN'⟩:=Z.N.ok;have GN:=GN' P w base;obtain⟨_,_,Hr⟩:=Z.headrow;obtain⟨_,_,FI,bI,MI⟩:=Z.T.init;have T:=Z.N.Y.X;obtain⟨t3,h3⟩:=Z.three;obtain⟨t64,h64⟩:=Z.most;refine F.F.okE scHeadOf λ v9 A outer st H vs Q E hr h=>?_
 intro _;obtain⟨x,rfl,h⟩:=h;have hu:=hr.units;have hr7:Room 7 _:=hr.mono Z9;have hr2:Room 2 _:=hr.mono Z9;refine⟨_,ah (av (i:=1) scHeadOf.nd (ap GN hr Z7 N.m N.F.kp N.b .nil aV (ac (pv 0) ae)))
  (ah (aI (ax jl (aH aF Z7 T.len sF (ac (pv 1) ae)) (aR (v:=.int 3) Z7 h3 ⟨t3,rfl⟩) (az _)) (ai (aU aV (hr.hd Z9) Z7 Z.N.mR Z.N.xR aB)) ay)
  (ah (av (i:=2) scHeadOf.nd (aS aG (pv 1) ag (λ _ _=>rfl)))
  (ah (av (i:=3) scHeadOf.nd (aS aG (pv 1) ag (λ _ _=>rfl)))
  (ah (aI (ax (iu hu) (pv 1) (ap (iD Hr Z.Y) hr7 Z7 Hr.m Hr.F.kp Hr.b .nil aw (ac (pv 2) (ac (pv 3) ae))) (az _)) (ai (aU aV (hr.hd Z9) Z7 Z.mH Z.xH aB)) ay)
  (ah (aI (PW.pt (iM (ax bg (pv 2) ag (az _)) (f8 (ax bg (pv 3) ag (az _))))) (ai (au bf)) ay)
  (ah (aI (PW.pt (fc (ax bg (pv 3) ag (az _)) (eB (ax ek (pv 3) (aR (v:=.int 64) Z7 h64 ⟨t64,rfl⟩) (az _))))) (ai (aU aV (hr.hd Z9) Z7 Z.mH Z.xH aB)) ay)
  (ai (au (dU MI (kC (mg:=mg) FI Z.T) hr2 Z7 Z.T.m bI .nil aw (ac (ak aN (pv 2) ag) (ac (ak aM (ak aK (pv 2) ag) ag) (ac (pv 3) ae)))))))))))),?_⟩
 rcases h with⟨hN,k⟩|h
 ·exact⟨_,rfl,x,rfl,.inr ⟨hN,k _ (Same.refl H)⟩⟩
 obtain⟨T',⟨b,hx,hB,hb⟩,hh⟩:∃T',Rf.IsR H x T'/\((T'.length≠3/\∀H',Same H H'->E (.ref cR) none H')\/∃a b c o,T'=[a,b,c]/\HdK a b c o/\match o with
  | .inr _=>∀H',Same H H'->E (.ref cH) none H'
  | .inl none=>∀H',Same H H'->Q .non H'
  | .inl (some (u,v,y))=>∀(p dx:vR) H',H p=none->Same H H'->H' p=some (.ins CHd dx (fH u v y))->Q (.ref p) H'):=by
  rcases h with⟨T',h,n,k⟩|⟨a,b,c,o,h,hk,k⟩
  ·exact⟨T',h,.inl ⟨n,k⟩⟩
  ·exact⟨_,h,.inr ⟨a,b,c,o,rfl,hk,k⟩⟩
 clear h;subst hx;refine seq_g λ _ g=>⟨_,rfl,_,rfl,.inl ⟨T',⟨b,rfl,hB,hb⟩,λ l hn=>g _ _ ?_⟩⟩
 clear g;have s1:=af (o:=.lst (T'.map vN)) hn;have hll:(upd H l (.lst (T'.map vN))) l=some (.lst (T'.map vN)):=ad;generalize upd H l (.lst (T'.map vN))=H1 at*;rcases hh with⟨h3',k⟩|⟨a,b',c,o,rfl,hk,k⟩
 ·refine⟨_,rfl,l,_,rfl,.inl (SqL.of hll),rfl,_,rfl,aT (λ _=>k _ s1) (λ h=>?_)⟩;exact absurd (by rw [rg];simpa using λ z=>h3' (Int.ofNat_inj.1 z)) h
 have hab:a<256/\b'<256:=⟨hb a Z6,hb b' Z6⟩;clear hb hB;refine⟨_,rfl,l,_,rfl,.inl (SqL.of hll),rfl,_,rfl,aW ?_⟩;refine⟨_,rfl,l,_,_,_,rfl,rfl,SqL.of hll,aE (j:=0) rfl,?_⟩;refine⟨_,rfl,l,_,_,_,rfl,rfl,SqL.of hll,aE (j:=1) rfl,?_⟩;refine⟨_,rfl,_,rfl,_,rfl,a,b',rfl,hab.1,hab.2,λ l2 H2 n2 s2 h22=>?_⟩;have s12:=s1.trans s2;have hl2:=s2 _ _ hll;refine⟨l,l2,[a,b',c].map (λ b=>((b:Nat):Int)),(wc a b').map (λ b=>((b:Nat):Int)),rfl,rfl,by rw [<-Rf.mapI];exact SqL.of hl2,by rw [<-Rf.mapI];exact SqL.of h22,_,rfl,?_⟩;rcases Classical.em (c=chk 8 29 [a,b']) with hc|hc
 rotate_left
 ·have e:¬[a,b',c].map (λ b=>((b:Nat):Int))=(wc a b').map (λ b=>((b:Nat):Int)):=λ z=>hc (Int.ofNat_inj.1 (by simpa [wc] using z))
  rw [sf e];refine bh ?_;cases hk with
  |bad _=>exact k _ s12
  |tail h=>exact absurd h hc
  |far h=>exact absurd h hc
  |ok h=>exact absurd h hc
 have e: [a,b',c].map (λ b=>((b:Nat):Int))=(wc a b').map (λ b=>((b:Nat):Int)):=by rw [hc];rfl
 rw [rn e];refine aW ?_;clear e;have v0:∀{n:Nat},(V.int ((n:Nat):Int)=V.int 0)<->n=0:=λ {n}=>⟨λ z=>Int.ofNat_inj.1 (V.int.inj z),λ z=>by rw [z];rfl⟩
 refine seq_g λ _ g=>g _ _ ?_
 clear g;refine seq_g λ R g=>?_
 refine(λ(J:¬(a=0/\b'=0)->R [some (.ref b),some (.ref l),some (vN a),some (vN b')] H2)=>?_) (λ h00=>g _ _ ?_)
 ·refine⟨_,rfl,rfl,_,rfl,aT (λ ha=>?_) (λ ha=>aW (J λ z=>ha (rn (v0.2 z.1))))⟩;have ha:=v0.1 (rE ha);refine⟨_,rfl,rfl,_,rfl,aT (λ hb=>?_) (λ hb=>J λ z=>hb (rn (v0.2 z.2)))⟩;have hb:=v0.1 (rE hb);cases hk with
  |bad h=>exact absurd hc h
  |tail=>exact k _ s12
  |far _ h=>exact absurd ⟨ha,hb⟩ h
  |ok _ h=>rw [hb] at h;cases h
 clear g;refine seq_g λ R' g=>?_
 have bad:b'=0\/64<b'->E (.ref cH) none H2:=λ hbb=>by
  cases hk with
  |bad h=>exact absurd hc h
  |tail _ h1 h2=>exact absurd ⟨h1,h2⟩ h00
  |far=>exact k _ s12
  |ok _ h1 h2=>rcases hbb with z|z<;>omega
 refine⟨_,rfl,rfl,_,rfl,aT (λ hb=>bh (bad (.inl (v0.1 (rE hb))))) (λ hb0=>?_)⟩;have hb0:¬b'=0:=λ z=>hb0 (rn (v0.2 z))
 refine⟨_,rfl,_,_,rfl,rfl,_,rfl,aT (λ hb=>bad (.inr (Int.ofNat_lt.1 (rE hb)))) (λ hb64=>g _ _ ?_)⟩;have hb64:b'≤64:=uS λ z=>hb64 (rn (Int.ofNat_lt.2 z))
 clear g bad;refine⟨_,rfl,_,_,rfl,rfl,⟨Z9,Z9⟩,_,rfl,_,_,rfl,rfl,(by show(0:Int)<64;decide),_,_,rfl,rfl,_,rfl,?_⟩;intro h dh nh ndh neh;have s0:=bF (C:=CHd) nh ndh;refine⟨h,dh,a/64,a%64+1,b',rfl,ad,λ H5 hh kp5=>⟨rfl,?_⟩⟩;have s5:Same H H5:=λ c o e=>kp5 _ _ (s0 _ _ (s12 _ _ e)) (am (s12 _ _ e) nh)
 have nH:H h=none:=none_of s12 nh;cases hk with
 |bad h=>exact absurd hc h
 |tail _ h1 h2=>exact absurd ⟨h1,h2⟩ h00
 |far _ _ h1=>rcases h1 with z|z<;>omega
 |ok=>exact k h dh H5 nH s5 hh
def mC (CHd:vR):Sp:=λ vs H Q _=>∃(p dx:vR) (a b c:Nat),vs=[.ref p]/\H p=some (.ins CHd dx (fH a b c))/\Q (vN (c+5)) H
theorem me:FnScope ["head"] ["head"] (aj bU):=⟨rfl,rfl,rfl,Z8,rfl,Z8,Z8⟩
theorem ln (F:Fn K mg "block_size" bU ["head"] f fd)(Z:Hds K mg C CHd cR cH):FnOk P w K mg base CX0 1 f fd ["head"] (mC CHd):=by
 obtain⟨t3,h3⟩:=Z.three;obtain⟨t2,h2⟩:=Z.twoB;refine F.F.ok me λ v9 A outer st H vs Q E hr h=>?_
 intro _;obtain⟨p,dx,a,b,c,rfl,hp,k⟩:=h;refine⟨_,ai (au (ak aM (ak aM (aR (v:=.int 3) Z7 h3 ⟨t3,rfl⟩) (bd (pv 0) rfl)) (aR (v:=.int 2) Z7 h2 ⟨t2,rfl⟩))),?_⟩;refine⟨_,rfl,p,CHd,dx,_,_,rfl,hp,Z.T.cl,Z.T.nI,qf _ _ _,_,_,rfl,rfl,_,_,rfl,rfl,?_⟩;have e:(3:Int)+((c:Nat):Int)+2=((c+5:Nat):Int):=by omega
 try dsimp only
 rw [e];exact k
inductive NhK (B:List Nat):Option (Nat×Nat×Nat)->Prop
 |short:B.length<3->NhK B none
 |bad {a b c:Nat} {r:List Nat}:B=a::b::c::r->HdK a b c (.inr ())->NhK B none
 |tail {a b c:Nat} {r:List Nat}:B=a::b::c::r->HdK a b c (.inl none)->NhK B none
 |len {a b c u v y:Nat} {r:List Nat}:B=a::b::c::r->HdK a b c (.inl (some (u,v,y)))->B.length≠y+5->NhK B none
 |ok {a b c u v y:Nat} {r:List Nat}:B=a::b::c::r->HdK a b c (.inl (some (u,v,y)))->B.length=y+5->NhK B (some (u,v,y))
def iq (CHd cH:vR):Sp:=λ vs H Q E=>∃(a:vR) (B:List Nat) (o:Option (Nat×Nat×Nat)),vs=[.ref a]/\H a=some (.lst (B.map vN))/\(∀b∈B,b<256)/\NhK B o/\match o with
  |none=>∀H',Same H H'->E (.ref cH) none H'
  |some (u,v,y)=>∀(p dx:vR) H',H p=none->Same H H'->H' p=some (.ins CHd dx (fH u v y))->Q (.ref p) H'
theorem scNeedHead:FnScope ["block","head"] ["block"] (aj dD):=⟨rfl,rfl,rfl,Z8,rfl,Z8,Z8⟩
theorem gx {fO fB:vR}{fdO fdB:vW}(F:Fn K mg "need_head" dD ["block"] f fd)(O:Fn K mg "head_of" dj ["row"] fO fdO)(Bs:Fn K mg "block_size" bU ["head"] fB fdB)(Z:Hds K mg C CHd cR cH):
  FnOk P w K mg base (CXE P w) 33 f fd ["block"] (iq CHd cH):=by
 have T:=Z.N.Y.X;obtain⟨t3,h3⟩:=Z.three;refine F.F.okE scNeedHead λ v9 A outer st H vs Q E hr h=>?_
 intro _;obtain⟨a,B,o,rfl,hB,hb,hk,k⟩:=h;have hr1:Room 1 _:=hr.mono Z9;refine⟨_,ah (aI (ax gF (aH aF Z7 T.len sF (ac (pv 0) ae)) (aR (v:=.int 3) Z7 h3 ⟨t3,rfl⟩) (az _)) (ai (aU aV (hr.hd Z9) Z7 Z.mH Z.xH aB)) ay)
  (ah (av (i:=1) scNeedHead.nd (ap (fu O Z) hr Z7 O.m O.F.kp O.b .nil aV (ac (bi bw (pv 0) b8 (bo (aR (v:=.int 3) Z7 h3 ⟨t3,rfl⟩))) ae)))
  (ah (aI (ax ic (pv 1) bf (az _)) (ai (aU aV (hr.hd Z9) Z7 Z.mH Z.xH aB)) ay)
  (ah (aI (ax jl (aH aF Z7 T.len sF (ac (pv 0) ae)) (ap (ln Bs Z) hr1 Z7 Bs.m Bs.F.kp Bs.b .nil aw (ac (pv 1) ae)) (az _)) (ai (aU aV (hr.hd Z9) Z7 Z.mH Z.xH aB)) ay)
  (ai (au (pv 1)))))),?_⟩
 refine seq_g λ R g=>⟨_,rfl,a,_,rfl,.inl (SqL.of hB),_,_,rfl,rfl,_,rfl,aT (λ h=>?_) (λ h=>g _ _ ?_)⟩
 ·have h:=rE h;rw [rg] at h;have h:B.length<3:=Int.ofNat_lt.1 h;cases hk with
  |short=>exact k _ (Same.refl H)
  |bad e=>subst e;exact absurd h (Nat.not_lt.2 (sM 3 _))
  |tail e=>subst e;exact absurd h (Nat.not_lt.2 (sM 3 _))
  |len e=>subst e;exact absurd h (Nat.not_lt.2 (sM 3 _))
  |ok e=>subst e;exact absurd h (Nat.not_lt.2 (sM 3 _))
 clear g;have h3':3≤B.length:=uS λ z=>h (rn (by rw [rg];exact Int.ofNat_lt.2 z))
 clear h;obtain⟨u0,u1,u2,r,rfl⟩:∃u0 u1 u2 r,B=u0::u1::u2::r:=by
  rcases B with _|⟨u0,_|⟨u1,_|⟨u2,r⟩⟩⟩
  ·cases h3'
  ·cases uJ h3'
  ·cases uJ (uJ h3')
  ·exact⟨u0,u1,u2,r,rfl⟩
 clear h3';refine seq_g λ R g=>⟨_,rfl,_,rfl,a,_,rfl,SqL.of hB,λ l hn=>?_⟩
 have ec:cutV ((u0::u1::u2::r).map vN) none (some 3)=[u0,u1,u2].map vN:=gM _ 3;rw [ec];have s1:=af (o:=.lst ([u0,u1,u2].map vN)) hn;have hll:(upd H l (.lst ([u0,u1,u2].map vN))) l=some (.lst ([u0,u1,u2].map vN)):=ad;generalize upd H l (.lst ([u0,u1,u2].map vN))=H1 at*;have hR:Rf.IsR H1 (.ref l) [u0,u1,u2]:=⟨l,rfl,hll,λ b z=>hb b (by simp at z ⊢;rcases z with z|z|z<;>simp [z])⟩;have fin:∀(p dx u v y:Nat) (H2:Hp),HdK u0 u1 u2 (.inl (some (u,v,y)))->H1 p=none->Same H1 H2->H2 p=some (.ins CHd dx (fH u v y))->R [some (.ref a),some (.ref p)] H2:=by
  intro p dx u v y H2 hd np s2 hp;refine g _ _ ?_;have s12:=s1.trans s2;refine seq_g λ R1 g1=>⟨_,rfl,rfl,_,rfl,aT (λ z=>absurd (rE z) (by intro z;cases z)) (λ _=>g1 _ _ ?_)⟩
  clear g1;refine seq_g λ R1 g1=>⟨_,rfl,a,_,rfl,.inl (SqL.of (s12 _ _ hB)),_,rfl,p,dx,u,v,y,rfl,hp,rfl,_,rfl,aT (λ z=>?_) (λ z=>g1 _ _ ?_)⟩
  ·have z:¬(r.length+3=y+5):=λ e=>by
    have e2:((u0::u1::u2::r).map vN).length=y+5:=by rw [rg];exact e
    rw [e2] at z;simp at z
   cases hk with
   |short h=>exact absurd h (Nat.not_lt.2 (sM 3 _))
   |bad e h=>cases e;exact absurd (h.uniq hd) (by intro z;cases z)
   |tail e h=>cases e;exact absurd (h.uniq hd) (by intro z;cases z)
   |len=>exact k _ s12
   |ok e h he=>cases e;cases h.uniq hd;exact absurd he z
  clear g1;have z:r.length+3=y+5:=by
   have:(r.length:Int)+1+1+1=(y:Int)+5:=by simpa using z
   omega
  cases hk with
  |short h=>exact absurd h (Nat.not_lt.2 (sM 3 _))
  |bad e h=>cases e;exact absurd (h.uniq hd) (by intro z;cases z)
  |tail e h=>cases e;exact absurd (h.uniq hd) (by intro z;cases z)
  |len e h he=>cases e;cases h.uniq hd;exact absurd z he
  |ok e h he=>cases e;cases h.uniq hd;exact⟨_,rfl,k p dx H2 (none_of s1 np) s12 hp⟩
 have tl:HdK u0 u1 u2 (.inl none)->∀H2,Same H1 H2->R [some (.ref a),some .non] H2:=by
  intro hd H2 s2;refine g _ _ ?_;have s12:=s1.trans s2;refine seq_g λ R1 g1=>⟨_,rfl,rfl,_,rfl,aT (λ _=>?_) (λ z=>absurd (rn rfl) z)⟩
  cases hk with
  |short h=>exact absurd h (Nat.not_lt.2 (sM 3 _))
  |bad e h=>cases e;exact absurd (h.uniq hd) (by intro z;cases z)
  |tail=>exact k _ s12
  |len e h=>cases e;exact absurd (h.uniq hd) (by intro z;cases z)
  |ok e h=>cases e;exact absurd (h.uniq hd) (by intro z;cases z)
 refine⟨.ref l,rfl,.inr (.inr ?_)⟩;cases hk with
 |short h=>exact absurd h (Nat.not_lt.2 (sM 3 _))
 |bad e h=>cases e;exact⟨_,_,_,_,hR,h,λ H2 s2=>k _ (s1.trans s2)⟩
 |tail e h=>cases e;exact⟨_,_,_,_,hR,h,λ H2 s2=>tl h H2 s2⟩
 |len e h he=>cases e;exact⟨_,_,_,_,hR,h,λ p dx H2 np s2 hp=>fin p dx _ _ _ H2 h np s2 hp⟩
 |ok e h he=>cases e;exact⟨_,_,_,_,hR,h,λ p dx H2 np s2 hp=>fin p dx _ _ _ H2 h np s2 hp⟩
end
theorem k8 (n d:Nat):HT.sIx n d (some (-2))=n-2:=by
 unfold HT.sIx;simp;omega
theorem oF (B:List Nat):cutV (B.map vN) none (some (-2))=(B.take (B.length-2)).map vN:=by
 unfold cutV;rw [k8,HT.sIx_none,vC,vO,rg,u4]
theorem nK (B:List Nat)(h:5≤B.length):cutV (B.map vN) (some 3) (some (-2))=((B.take (B.length-2)).drop 3).map vN:=by
 unfold cutV;rw [k8,show(3:Int)=((3:Nat):Int) from rfl,HT.sIx_nat,rg,uz (rP (by decide) h),List.map_drop,u4,List.drop_take]
section
variable {C CHd cR cH:vR}
def lH:Sp:=λ vs H Q _=>∃(a:vR) (B:List Nat),vs=[.ref a]/\H a=some (.lst (B.map vN))/\(∀b∈B,b<256)/\B.length≤1000/\∀H',Same H H'->Q (.bl (decide (sld (B.take (B.length-2))=B))) H'
theorem lG:FnScope ["row"] ["row"] (aj fG):=⟨rfl,rfl,rfl,Z8,rfl,Z8,Z8⟩
theorem jR {fW:vR}{fdW:vW}(F:Fn K mg "ends_in_check" fG ["row"] f fd)(Wc:Fn K mg "with_check" bC ["row"] fW fdW)(Y:Cks K mg C):FnOk P w K mg base CX0 8 f fd ["row"] lH:=by
 refine F.F.ok lG λ v9 A outer st H vs Q E hr h=>?_
 intro _;obtain⟨a,B,rfl,hB,hb,hl,k⟩:=h;have hu:=hr.units;refine⟨_,ai (au (bx (lc hu) (ap (fJ Wc Y) hr Z7 Wc.m Wc.F.kp Wc.b .nil aw (ac (bi bw (pv 0) b8 (bo (gz ef ag))) ae)) (pv 0) (az _))),?_⟩;refine⟨_,rfl,_,rfl,_,rfl,a,_,rfl,SqL.of hB,λ l hn=>?_⟩;have ec:cutV (B.map vN) none (some (-2))=(B.take (B.length-2)).map vN:=oF B;rw [ec];have s1:=af (o:=.lst ((B.take (B.length-2)).map vN)) hn;refine⟨l,B.take (B.length-2),rfl,ad,λ b z=>hb b (sG z),rP (by rw [rW];exact Nat.min_le_right _ _) hl,λ l2 H2 n2 s2 h2=>?_⟩;refine⟨_,rfl,l2,a,(sld (B.take (B.length-2))).map (λ b=>((b:Nat):Int)),B.map (λ b=>((b:Nat):Int)),rfl,rfl,by rw [<-Rf.mapI];exact SqL.of h2,by rw [<-Rf.mapI];exact SqL.of (s2 _ _ (s1 _ _ hB)),?_⟩;have e:decide ((sld (B.take (B.length-2))).map (λ b=>((b:Nat):Int))=B.map (λ b=>((b:Nat):Int)))=decide (sld (B.take (B.length-2))=B):=by
  refine decide_eq_decide.mpr ⟨λ z=>?_,λ z=>by rw [z]⟩;exact List.map_inj_right (λ _ _ z=>Int.ofNat_inj.1 z)|>.1 z
 rw [e];exact k _ (s1.trans s2)
end
abbrev fQ:v7:=top 118
section
def nF:Sp:=λ vs H Q _=>∃(a b c:Nat),vs=[vN a,vN b,vN c]/\a<4/\1≤b/\b≤64/\c<256/\∀l H',H l=none->Same H H'->H' l=some (.lst ((wc (64*a+b-1) c).map vN))->Q (.ref l) H'
theorem scLHead:FnScope ["_law_way","_law_count","_law_inside","_law_row"] ["_law_way","_law_count","_law_inside"] (aj fQ):=⟨rfl,rfl,rfl,Z8,rfl,Z8,Z8⟩
theorem lT {fC:vR}(F:Fn K mg "_law_head" fQ ["_law_way","_law_count","_law_inside"] f fd)(Ch:Fn K mg "_law_check" eU ["_law_row","_law_wide"] fC fdC)(X:K23.Txt K mg):FnOk P w K mg base CX0 2 f fd ["_law_way","_law_count","_law_inside"] nF:=by
 refine F.F.ok scLHead λ v9 A outer st H vs Q E hr h=>?_
 intro _;obtain⟨a,b,c,rfl,ha,hb1,hb,hc,k⟩:=h;refine⟨_,ah (av (i:=3) scLHead.nd (aq (ac (ak bA (ak aM (ak bj ag (pv 0)) (pv 1)) ag) (ac (pv 2) ae))))
  (ai (au (ak aO (pv 3) (aq (ac (ap (dR Ch X) hr Z7 Ch.m Ch.F.kp Ch.b .nil aw (ac (pv 3) (ac ag ae))) ae))))),?_⟩
 have e1:(64:Int)*((a:Nat):Int)+((b:Nat):Int)-1=((64*a+b-1:Nat):Int):=(Int.ofNat_sub (Nat.le_add_left_of_le hb1)).symm;refine seq_g λ R g=>⟨_,rfl,_,_,rfl,rfl,.inl ⟨Z9,Z9⟩,_,rfl,_,_,rfl,rfl,_,_,rfl,rfl,_,rfl,(by show 2≤sizeLine;decide),λ l hn=>g _ _ ?_⟩
 clear g
 try dsimp only
 rw [e1];have s1:=af (o:=.lst ([64*a+b-1,c].map vN)) hn;have h1:(upd H l (.lst ([64*a+b-1,c].map vN))) l=some (.lst ([64*a+b-1,c].map vN)):=ad;refine⟨_,rfl,_,rfl,l,[64*a+b-1,c],8,29,rfl,wp8,h1,λ x hx=>by simp at hx;omega,by show 2≤1000;decide,λ H2 s2=>⟨(by show 1≤sizeLine;decide),λ l2 n2=>?_⟩⟩;have s3:=af (o:=.lst [vN (chk 8 29 [64*a+b-1,c])]) n2;refine⟨l,l2,_,_,rfl,rfl,s3 _ _ (s2 _ _ h1),ad,(by show 3≤sizeLine;decide),λ l3 n3=>?_⟩;have s13:=(s1.trans s2).trans s3;exact k l3 _ (none_of s13 n3) (s13.trans (af n3)) ad
end
end K23.Ck
namespace QQ
open PySem PyProof.Rows
variable {env:Env}{Q:Unit->vT->Prop}{c cls v:vS}{base h:vY}{L e:vR}{outer:List Env}
def FlyL (h:vY)(e:vR)(cls:vS)(T L:vR)(c:vS):Prop:=
 ∃vs oT ts,h.get? e=some (exO cls vs)/\(vs[2]?=some c/\6≤vs.size)/\vs[1]?=some (.ref T)/\T≠e/\h.get? T=some oT/\oT.data=.fields ts/\ts[3]?=some (rawInt L)
section
variable {M:Model}{A:vX}{E:vS -> vT -> Prop}{s:vT}
theorem fv {head:vS}{vs:Array vS}{had:Bool}
    (hfr:A.frames=some (env::outer)) (hl:s.heap.FunFrames base (env::outer)) (hf:env.frame=some L)
    (he:s.heap.get? e=some (exO cls vs)) (h1:1<vs.size) (h2:vs[2]?=some c/\6≤vs.size)
    (h:∀h' T,FlyL h' e cls T L c->s.heap.objs.size≤T->(∀b o,s.heap.get? b=some o->b≠e->b∉(env::outer).filterMap (·.frame)->h'.get? b=some o)->
      (∀b o,s.heap.get? b=some o->b≠e->∃sl,h'.get? b=some {o with slots:=sl})->Q () {s with heap:=h'}):
    wpAny M A (do let a<-frameOf env;let pl<-entryPlaceOf L had;let b<-EntryCells.newEntry head a .none (rawInt L) .none pl;setField (.ref e) 1 b) Q E s:=by
  have ne:e∉(env::outer).filterMap (·.frame):=λ hm=>by
    obtain⟨_,o,ho,hnf⟩:=hl.mem hm
    rw [he] at ho;cases ho
    exact hnf vs rfl
  refine re (wpAny_frameOf_fun hfr hl hf λ g1 s1=>?_)
  refine re (wpAny_entryPlaceOf λ pl hpl=>?_)
  unfold EntryCells.newEntry newFields
  refine re (ui ?_ (hpl.sizeOk5 _ _ _ _ _))
  have hsz:g1.objs.size=s.heap.objs.size:=s1.1
  have he1:g1.get? e=some (exO cls vs):=(s1.2.1 e ne).trans he
  generalize hO:({cls:=.type "traceback",dict:=none,data:=.fields ([head,.ref L,.none,rawInt L,.none]++(if pl.isEmpty then List.replicate 6 Value.none else pl)).toArray}:v1)=oT
  have e3:∃ts,oT.data=.fields ts/\ts[3]?=some (rawInt L):=⟨_,by rw [<-hO],by simp⟩
  have hfreed:oT.isFreed=false:=by rw [<-hO];rfl
  clear hO
  obtain⟨ts,hts,hz3⟩:=e3
  have he2:(g1.push oT).get? e=some (exO cls vs):=rf _ he1
  have hT2:(g1.push oT).get? g1.objs.size=some oT:=rF g1 hfreed
  have hTe:g1.objs.size≠e:=uc (rk he1)
  refine sk he2 rfl h1 ?_
  have he3:=rG (Obj.mapFields (·.setIfInBounds 1 (Value.ref g1.objs.size))) he2 rfl
  have hT3:=(rp (g1.push oT) (Obj.mapFields (·.setIfInBounds 1 (Value.ref g1.objs.size))) (sJ hTe)).trans hT2
  have he3':((g1.push oT).update e (Obj.mapFields (·.setIfInBounds 1 (Value.ref g1.objs.size)))).get? e=some (exO cls (vs.setIfInBounds 1 (Value.ref g1.objs.size))):=he3
  have keep:∀b o,b≠e->g1.get? b=some o->((g1.push oT).update e (Obj.mapFields (·.setIfInBounds 1 (Value.ref g1.objs.size)))).get? b=some o:=λ b o hb q=>by
    rw [rp _ _ (sJ hb)]
    exact rf _ q
  refine h _ g1.objs.size ⟨vs.setIfInBounds 1 (Value.ref g1.objs.size),oT,ts,he3',?_,by simp [h1],hTe,hT3,hts,hz3⟩ (uQ hsz.symm) (λ b o q hb hn=>keep b o hb ((s1.2.1 b hn).trans q)) λ b o q hb=>?_
  · rw [tH (by decide),tI];exact h2
  · obtain⟨sl,e'⟩:=s1.2.2 b o q
    exact⟨sl,keep b _ hb e'⟩
theorem qH {fp:List vR}
  (hfr:A.frames=some (env::outer)) (hl:s.heap.FunFrames base (env::outer)) (hf:env.frame=some L) (F:Fly s.heap e cls fp c)
  (h:∀h' T,FlyL h' e cls T L c->s.heap.objs.size≤T->(∀b o,s.heap.get? b=some o->b∉fp->b∉(env::outer).filterMap (·.frame)->h'.get? b=some o)->
   (∀b o,s.heap.get? b=some o->b∉fp->∃sl,h'.get? b=some {o with slots:=sl})->(∀b o,s.heap.get? b=some o->∃o',h'.get? b=some o')->Q () {s with heap:=h'}):
  wpAny M A (noteFrame (.ref e) env) Q E s:=by
 obtain⟨vs,he,h2,⟨h1,r⟩|⟨T,oT,ts,h1,ne,gT,dT,zT,r⟩⟩:=F
 ·subst r;unfold noteFrame;simp only [hf];refine re (rM he rfl h1 ?_);rw [rO Z9];refine fv hfr hl hf he (rK.mp h1).1 h2 λ h' T' f1 f2 f3 f4=>h h' T' f1 f2 (λ b o q hb hn=>f3 b o q (λ z=>hb (by simp [z])) hn) (λ b o q hb=>f4 b o q λ z=>hb (by simp [z])) λ b o q=>?_
  by_cases hb:b=e
  ·obtain⟨vs',_,_,g',_⟩:=f1;subst hb;exact⟨_,g'⟩
  ·obtain⟨sl,e'⟩:=f4 b o q hb;exact⟨_,e'⟩
 ·subst r;unfold noteFrame;simp only [hf];refine re (rM he rfl h1 ?_);rw [se (show(Value.ref T !=Value.none)=true from by simp)];refine re (rM gT dT zT ?_);rw [rO (show¬((Value.none==rawInt L)=true) from by simp [rawInt])];refine re (sk gT dT (rK.mp zT).1 ?_);have oth:∀b,b≠T->(s.heap.update T (Obj.mapFields (·.setIfInBounds 3 Value.none))).get? b=s.heap.get? b:=λ b hb=>rp _ _ (sJ hb)
  have gT':=rG (Obj.mapFields (·.setIfInBounds 3 Value.none)) gT (sj (rR dT _));have nT:∀b o,s.heap.get? b=some o->(∀us,o.data≠ .fields us)->b≠T:=λ b o q nf z=>by
   rw [z,gT] at q;cases q;exact nf ts dT
  have sz:(s.heap.update T (Obj.mapFields (·.setIfInBounds 3 Value.none))).objs.size=s.heap.objs.size:=uL ..;refine fv hfr (hl.of_keeps λ b o q nf=>⟨o,(oth b (nT b o q nf)).trans q,rfl⟩) hf ((oth e (sJ ne)).trans he) (rK.mp h1).1 h2
   λ h' T' f1 f2 f3 f4=>h h' T' f1 (by rw [sz] at f2;exact f2) (λ b o q hb hn=>?_) (λ b o q hb=>?_) λ b o q=>?_
  ·have b1:b≠e:=λ z=>hb (by simp [z])
   have b2:b≠T:=λ z=>hb (by simp [z])
   exact f3 b o ((oth b b2).trans q) b1 hn
  ·have b1:b≠e:=λ z=>hb (by simp [z])
   have b2:b≠T:=λ z=>hb (by simp [z])
   exact f4 b o ((oth b b2).trans q) b1
  ·by_cases hb:b=e
   ·obtain⟨vs',_,_,g',_⟩:=f1;subst hb;exact⟨_,g'⟩
   ·by_cases hT:b=T
    ·subst hT;obtain⟨sl,e'⟩:=f4 b _ gT' hb;exact⟨_,e'⟩
    ·obtain⟨sl,e'⟩:=f4 b o ((oth b hT).trans q) hb;exact⟨_,e'⟩
theorem FlyL.keep {h':vY}{T:vR}(F:FlyL h e cls T L c)(k:∀b o,h.get? b=some o->(b=e\/b=T)->h'.get? b=some o):FlyL h' e cls T L c:=by
 obtain⟨vs,oT,ts,he,h2,h1,ne,gT,dT,zT⟩:=F;exact⟨vs,oT,ts,k _ _ he (.inl rfl),h2,h1,ne,k _ _ gT (.inr rfl),dT,zT⟩
def FlyV (h:vY)(e:vR)(cls:vS)(T:vR)(v:vS)(c:vS):Prop:=
 ∃vs oT ts,h.get? e=some (exO cls vs)/\(vs[2]?=some c/\6≤vs.size)/\vs[1]?=some (.ref T)/\T≠e/\h.get? T=some oT/\oT.data=.fields ts/\ts[3]?=some v
theorem FlyV.set {T:vR}{fr:Option vR}(F:FlyV s.heap e cls T v c)
  (h:∀h',FlyV h' e cls T (fr.elim Value.none λ f=>rawInt f) c->(∀b o,s.heap.get? b=some o->b≠T->h'.get? b=some o)->(∀b o,s.heap.get? b=some o->∃o',h'.get? b=some o')->Q () {s with heap:=h'}):wpAny M A (setFlight (.ref e) fr) Q E s:=by
 obtain⟨vs,oT,ts,he,h2,h1,ne,gT,dT,zT⟩:=F;unfold setFlight;refine re (rM he rfl h1 ?_);rw [se (show(Value.ref T !=Value.none)=true from by simp)];have z3:=(rK.mp zT).1;have gT':=rG (Obj.mapFields (·.setIfInBounds 3 (fr.elim Value.none λ f=>rawInt f))) gT (sj (rR dT _));refine sk gT dT z3 (h _ ⟨vs,_,_,?_,h2,h1,ne,gT',rR dT _,by simp [z3]⟩ (λ b o q hb=>?_) λ b o q=>?_)
 ·rw [rp _ _ ne];exact he
 ·rw [rp _ _ (sJ hb)];exact q
 ·by_cases hb:b=T
  ·subst hb;exact⟨_,gT'⟩
  ·exact⟨o,by rw [rp _ _ (sJ hb)];exact q⟩
theorem kf {α:Type}{what:String}{T:vR}{Q:α->vT->Prop}(F:FlyV s.heap e cls T v c)
  (h:∀h' v',FlyV h' e cls T v' c->(∀b o,s.heap.get? b=some o->b≠T->h'.get? b=some o)->(∀b o,s.heap.get? b=some o->∃o',h'.get? b=some o')->E (.ref e) {s with heap:=h'}):wpAny M A (PySem.passOn what (.ref e) env:Sem α) Q E s:=by
 unfold PySem.passOn;have F':=F;obtain⟨vs,oT,ts,he,h2,h1,ne,gT,dT,zT⟩:=F';refine re (rM he rfl h1 ?_);rw [rO (show¬((Value.ref T==Value.none)=true) from by simp)];exact re (F.set λ h' f1 f2 f3=>wpAny_throw (h h' _ f1 f2 f3))
theorem jW {T:vR}
  (hfr:A.frames=some (env::outer)) (hl:s.heap.FunFrames base (env::outer)) (hf:env.frame=some L) (F:FlyV s.heap e cls T v c)
  (h:∀h' T',Fly h' e cls [e,T'] c->(T'=T\/s.heap.objs.size≤T')->(∀b o,s.heap.get? b=some o->b∉ [e,T]->b∉(env::outer).filterMap (·.frame)->h'.get? b=some o)->
   (∀b o,s.heap.get? b=some o->b∉ [e,T]->∃sl,h'.get? b=some {o with slots:=sl})->(∀b o,s.heap.get? b=some o->∃o',h'.get? b=some o')->Q () {s with heap:=h'}):
  wpAny M A (leaving env (.ref e)) Q E s:=by
 have F':=F;obtain⟨vs,oT,ts,he,h2,h1,ne,gT,dT,zT⟩:=F';unfold leaving;by_cases hv:(v==rawInt L)=true
 ·unfold noteFrame;simp only [hf];refine re (re (rM he rfl h1 ?_));rw [se (show(Value.ref T !=Value.none)=true from by simp)];refine re (rM gT dT zT ?_);rw [se hv];refine rA (F.set λ h' f1 f2 f3=>?_);obtain⟨vs',oT',ts',a1,a2,a3,a4,a5,a6,a7⟩:=f1;exact h h' T ⟨vs',a1,a2,.inr ⟨T,oT',ts',a3,a4,a5,a6,a7,rfl⟩⟩ (.inl rfl) (λ b o q hb _=>f2 b o q λ z=>hb (by simp [z])) (λ b o q hb=>⟨o.slots,f2 b o q λ z=>hb (by simp [z])⟩) f3
 ·refine re ?_;unfold noteFrame;simp only [hf];refine re (rM he rfl h1 ?_);rw [se (show(Value.ref T !=Value.none)=true from by simp)];refine re (rM gT dT zT ?_);rw [rO hv];refine re (sk gT dT (rK.mp zT).1 ?_);have oth:∀b,b≠T->(s.heap.update T (Obj.mapFields (·.setIfInBounds 3 Value.none))).get? b=s.heap.get? b:=λ b hb=>rp _ _ (sJ hb)
  have gT':=rG (Obj.mapFields (·.setIfInBounds 3 Value.none)) gT (sj (rR dT _));have nT:∀b o,s.heap.get? b=some o->(∀us,o.data≠ .fields us)->b≠T:=λ b o q nf z=>by
   rw [z,gT] at q;cases q;exact nf ts dT
  have sz:(s.heap.update T (Obj.mapFields (·.setIfInBounds 3 Value.none))).objs.size=s.heap.objs.size:=uL ..;refine du hfr (hl.of_keeps λ b o q nf=>⟨o,(oth b (nT b o q nf)).trans q,rfl⟩) hf ((oth e (sJ ne)).trans he) (rK.mp h1).1 h2
   λ h' T' f1 f2 f3 f4=>h h' T' f1 (.inr (by rw [sz] at f2;exact f2)) (λ b o q hb hn=>?_) (λ b o q hb=>?_) λ b o q=>?_
  ·have b1:b≠e:=λ z=>hb (by simp [z])
   have b2:b≠T:=λ z=>hb (by simp [z])
   exact f3 b o ((oth b b2).trans q) b1 hn
  ·have b1:b≠e:=λ z=>hb (by simp [z])
   have b2:b≠T:=λ z=>hb (by simp [z])
   exact f4 b o ((oth b b2).trans q) b1
  ·by_cases hb:b=e
   ·obtain⟨vs',g',_⟩:=f1;subst hb;exact⟨_,g'⟩
   ·by_cases hT:b=T
    ·subst hT;obtain⟨sl,e'⟩:=f4 b _ gT' hb;exact⟨_,e'⟩
    ·obtain⟨sl,e'⟩:=f4 b o ((oth b hT).trans q) hb;exact⟨_,e'⟩
theorem FlyL.any {T:vR}(F:FlyL h e cls T L c):FlyV h e cls T (rawInt L) c:=F
end
end QQ
set_option maxHeartbeats 4000000
namespace L2
open PySem PySem.Spec PyProof.Rows QQ
variable {H:Hp}{E:XK}{D:vS->Prop}{s:vT}
def fF (D:vS->Prop)(E:XK)(X:Cx)(N:List Str)(scope:Scope)(cl:List (Str×vR))(fp:List vR)(s:vT)(H:Hp):Cx:=
 (aD X N scope cl fp s H).wish λ e s'=>∃v8 σ H' s1,Inv (aD X N scope cl fp s H) v8 σ H' s1/\CXD D X.prog X.w X.stack H' s1 E e s'
theorem qa {X:Cx}{N:List Str}{scope:Scope}{cl:List (Str×vR)}{fp:List vR}:bc (CXD D X.prog X.w) (fF D E X N scope cl fp s H) E:=
 λ v8 σ H s _ _ I hx=>⟨v8,σ,H,s,I.unwish,hx⟩
section
variable {D:vS -> Prop}{E:XK}{X:Cx}{N:List Str}{scope:Scope}{cl:List (Str × vR)}{js:List (Option Nat)}{elt wb iter:vZ}{pos:Pos}{wi:TI}{g:TG}{te:TE}
theorem iJ {v8:List (vR×v1)}{σ:St}{Q:VK}{RR:vS->vR->Result->vT->Prop}
  (hc:X.calm=true) (Cp:Caps X N scope cl js)
  (hi:PI X wb iter wi) (hg:∀fp s H,PG (aD X N scope cl fp s H) wb g) (he:∀fp s H,PE (fF D E X N scope cl fp s H) elt te)
  (I:Inv X v8 σ H s) (h:iQ js wi g te σ H Q)
  (hR:∀(l C:vR) (H':Hp) (s':vT),Inv X v8 σ H' s'->FpOk X v8 H' C->(∃m,s'.heap.Ns C m)->Q (.ref l) H'->RR (.ref l) C (.ok .next) s')
  (hE:∀(l C:vR) (H1:Hp) (e:vS) (s1 s':vT),Inv X v8 σ H1 s1->FpOk X v8 H1 C->(∃m,s1.heap.Ns C m)->CXD D X.prog X.w X.stack H1 s1 E e s'->wpAny (model X.prog X.w) X.A (noteFrame e X.env) (λ _ s'=>RR (.ref l) C (.error e) s') (λ e s'=>RR (.ref l) C (.error e) s') s'):
  wpAny (model X.prog X.w) X.A (eval iter X.env) (λ x s₁=>wpAny (model X.prog X.w) X.A (pyIter x) (λ it s₂=>wpAny (model X.prog X.w) X.A (newList []) (λ acc s₃=>
   wpAny (model X.prog X.w) X.A (newFunctionEnv scope X.env.globals cl [] X.env.qual none .none (some X.env)) (λ cenv s₄=>
    codeAny (model X.prog X.w) X.A (.compStart (.ListComp elt [⟨wb,iter,[],0⟩] scope pos) 0 it acc {cenv with scope:=relabel scope X.env}) (RR acc cenv.locals) s₄) X.xe s₃) X.xe s₂) X.xe s₁) X.xe s:=by
 refine thn (hi v8 s σ H _ I h) λ v s1 h1=>thn h1 λ itv s2 h2=>?_
 obtain⟨it,fp,tn,J,H2,e,I2,T,st2,f2,hw⟩:=h2;subst e;have hl2:H2 s2.heap.objs.size=none:=I2.hok.fresh (rB _);obtain⟨W,⟨m0,w0⟩,turn⟩:=hw s2.heap.objs.size hl2;have lt2:∀b∈fp,b<s2.heap.objs.size:=λ b hb=>let⟨o,e,_⟩:=T.obj _ _ st2 b hb;rk e
 refine wpAny_newList ?_;have I3:Inv X v8 σ (upd H2 s2.heap.objs.size (.lst [])) {s2 with heap:=s2.heap.push {cls:=.type "list",data:=.seq ([]:List vS).toArray}}:=
  I2.laid (t':=s2.toks) (λ b u e=>rf _ e) (rB _) ⟨sy _,[],0,.nil,rF _ rfl⟩
 have st3:tn 0 (s2.heap.push {cls:=.type "list",data:=.seq ([]:List vS).toArray}):=T.keep _ _ _ st2 λ b hb o e=>rf _ e
 have lt3:∀b∈fp,b<(s2.heap.push {cls:=.type "list",data:=.seq ([]:List vS).toArray}).objs.size:=λ b hb=>by rw [tU];exact vG (lt2 b hb)
 have f3:∀b∈fp,FpOk X v8 (upd H2 s2.heap.objs.size (.lst [])) b:=λ b hb=>⟨by rw [ao (rL (lt2 b hb))];exact(f2 b hb).1,(f2 b hb).2⟩
 generalize s2.heap.objs.size=l at*;generalize upd H2 l (.lst [])=H3 at*;have hs3:∃s3:vT,s3={s2 with heap:=s2.heap.push {cls:=.type "list",data:=.seq ([]:List vS).toArray}}:=⟨_,rfl⟩;obtain⟨s3,e3⟩:=hs3;rw [<-e3] at I3;rw [<-e3];have st3:tn 0 s3.heap:=by rw [e3];exact st3
 have lt3:∀b∈fp,b<s3.heap.objs.size:=by rw [e3];exact lt3
 clear e3;refine uZ Cp.nocell (by intro y hy;simp at hy) (λ h4 hns hsb=>?_) Cp.kind;have kp:∀b o,s3.heap.get? b=some o->h4.get? b=some o:=λ b o e=>hsb.extBut b o (rL (rk e)) (rf _ e)
 have I4:=eY (N:=N) (t':=s3.toks+([]:List (Str×vS)).length) I3 Cp f3 lt3 hns kp;have st4:tn 0 h4:=T.keep _ _ _ st3 λ b hb o e=>kp b o e
 have stat:∀{H':Hp},(∀b∈fp,H' b=none)->∀b∈fp,FpOk (aD X N scope cl fp s3 H3) [] H' b:=λ hn b hb=>
  ⟨hn b hb,(I4.ok.exf b hb).1,I4.ok.exfs b hb,.inl hb,(I4.ok.exf b hb).2,λ p hp=>absurd (show p∈([]:List (vR×v1)) from hp) Z6⟩
 have loop:codeAny (model X.prog X.w) X.A (.compLoop (.ListComp elt [⟨wb,iter,[],0⟩] scope pos) 0 (.ref it) (.ref l) (compEnvC scope cl s3.heap.objs.size X.env)) (RR (.ref l) s3.heap.objs.size)
   {s3 with heap:=h4,toks:=s3.toks+([]:List (Str×vS)).length}:=by
  refine kI (tw:=tw0) (.inr ⟨rfl,rfl⟩) _ _ _ _ _ (λ n s'=>∃i ys σ' H',Inv (aD X N scope cl fp s3 H3) [] σ' H' s'/\tn i s'.heap/\(∀b∈fp,H' b=none)/\W i n ys σ' H') ?_ m0 ⟨0,[],_,_,I4,st4,λ b hb=>(f3 b hb).1,w0⟩;rintro n s5 ⟨i,ys,σ5,H5,I5,st5,fr5,w5⟩;rcases turn i n ys σ5 H5 w5 with⟨stop,q⟩|⟨go,step⟩
  ·refine thn (T.done (aD X N scope cl fp s3 H3) rfl rfl rfl hc i [] s5 σ5 H5 _ I5 (stat fr5) st5 stop) λ r s6 z9=>?_
   obtain⟨hr,I6⟩:=z9;subst hr;exact hR _ _ _ _ (cW I3 f3 I6) (I3.fpOk (rB _) I6.free) (let⟨m,hn,_⟩:=I6.loc;⟨m,hn⟩) q
  ·refine thn (T.item (aD X N scope cl fp s3 H3) rfl rfl rfl hc i [] s5 σ5 H5 _ I5 (stat fr5) st5 go) λ r s6 z9=>?_
   obtain⟨u,hr,h6⟩:=z9;subst hr;refine thn h6 λ _ s7 z9=>?_
   obtain⟨x,H7,I7,r7,y7,st7,fr7⟩:=z9;have I7':=I7.pinned (stat fr7) (T.obj _ _ st7);refine rV (hg fp s3 H3 _ s7 σ5 H7 x u _ I7' r7 (step x H7 y7)) (λ _ s8 z9=>?_) (λ _ _ z=>False.elim z);obtain⟨σ8,H8,I8,q8⟩:=z9;show wpAny _ _ (eval elt _) _ _ _;refine rV (he fp s3 H3 _ s8 σ8 H8 _ (I8.wish _) q8) (λ v s9 z9=>?_) λ e s' z9=>by obtain⟨p1,σ1,H1,s1,I1,x1⟩:=z9;exact hE _ _ H1 e s1 s' (cW I3 f3 I1) (I3.fpOk (rB _) I1.free) (let⟨m,hn,_⟩:=I1.loc;⟨m,hn⟩) x1
   obtain⟨y,H9,I9',r9,hl9,hz9,m',hm',w9⟩:=z9;have I9:=I9'.unwish;refine rV (eP (X:=aD X N scope cl fp s3 H3) _ s9 σ8 H9 (.ref l) [y] (.ref l) [v] (λ z Hz=>Hz=upd H9 l (.lst (ys++[y]))) I9 rfl (.cons r9 .nil) ⟨l,ys,y,rfl,rfl,hl9,hz9,rfl⟩)
    (λ _ s10 ⟨z,Hz,I10,_,eH⟩=>?_) (λ _ _ z=>False.elim z)
   subst eH;refine⟨m',hm',i+1,ys++[y],σ8,_,I10.unpinned,T.keep _ _ _ st7 λ b hb o e=>(I10.pin (b,o) (rz _ (rz _ (aX hb e)))).1,λ b hb=>?_,w9⟩;obtain⟨o,e,d⟩:=T.obj _ _ st7 b hb;exact(I10.pin (b,o) (rz _ (rz _ (aX hb e)))).2.1
 exact codeAny_compStart_list loop (T.self X.A 0 _ _ _ st4 loop)
end
theorem lX {P:vU}{w:vV}{K:Frag}{mg:Str->Option vS}{base:vY}{N0:List Str}{qual:Str}{scope0:Scope}{f:vR}{cd:vS}{A:vX}{outer:List Env}{s₀:vT}{H₀:Hp}
  {N:List Str} {scope:Scope} {cl:List (Str×vR)} {js:List (Option Nat)} {elt wb iter:vZ} {pos:Pos} {wi:TI} {g:TG} {te:TE} {X:Cx} (hX:X=cxOf (CXD D P w) P w K mg base N0 qual scope0 f cd A outer s₀ H₀ E)
  (hc:X.calm=true) (Cp:Caps X N scope cl js) (hi:PI X wb iter wi) (hg:∀fp s H,PG (aD X N scope cl fp s H) wb g) (he:∀fp s H,PE (fF D E X N scope cl fp s H) elt te)
  (hs:autoParam (∀x,foldedSetIterable iter X.env x=pure x) ZX):PE X (.ListComp elt [⟨wb,iter,[],0⟩] scope pos) (iQ js wi g te):=by
 intro v8 s σ H Q I h;rw [eval_ListComp];refine wpAny_comprehension_free (use:=none) (Q:=EP X v8 σ Q) rfl hs Cp.clos Cp.kind Cp.names
  (iJ (RR:=λ acc C=>compPost (model X.prog X.w) X.A X.xe none (EP X v8 σ Q) acc C) hc Cp hi hg he I h ?_ ?_)
 ·rintro l C H' s' I' fC ⟨m,hn⟩ q;exact⟨m,hn,λ h' sb'=>⟨.ref l,H',I'.turned (t':=s'.toks) (λ b o hb e=>(sb'.2 b hb).trans e) fC.1 fC.2.1 fC.2.2.2.1 fC.2.2.2.2.1 fC.2.2.2.2.2,rfl,q⟩⟩
 rintro l C H1 e s1 s' I1 fC ⟨m,oC,es,ep,gC,rC⟩ hx;subst hX;obtain⟨ea,cls,fp,H',rfl,os,bare,un,hok,⟨c,dc,F,bk,bn⟩,fr,q⟩:=hx;have hex:∀b:vR,b∉(cxOf (CXD D P w) P w K mg base N0 qual scope0 f cd A outer s₀ H₀ E).ex:=λ b (z:b∈([]:List vR))=>nomatch z
 have I':=I1.call' (ch:=[]) os un hok bare (λ b z=>absurd z Z6);have bn':∀b,c=.ref b->NewA _ v8 b:=λ b e=>I1.newA (bn b e) (hex b)
 have nw:∀b∈fp,New _ v8 H' b:=λ b hb=>I1.new (fr b hb).1 (fr b hb).2 (hex b)
 have nS:C∉frs (cxOf (CXD D P w) P w K mg base N0 qual scope0 f cd A outer s₀ H₀ E).stack:=λ z=>by
  rcases rY.mp (I1.stkSub C z) with y|y
  ·exact fC.2.1 y
  ·exact fC.2.2.1 y
 have gC':=un.keep C oC gC fC.1 nS Z6;have hC':=un.free C oC gC fC.1 Z6;have nC:C∉fp:=λ z=>by rw [(fr C z).1] at gC;cases gC
 refine qH I'.ok.frames I'.stack rfl F λ h' T F' hT f3 f4 f5=>?_
 have J:=I'.landed nw f3 f4 f5;have gC2:h'.get? C=some oC:=f3 C oC gC' nC nS;have neE:ea≠C:=λ z=>nC (z▸F.here)
 have neT:T≠C:=λ z=>absurd (rj (rk gC') (z▸hT)) (su _)
 have nE:New (cxOf (CXD D P w) P w K mg base N0 qual scope0 f cd A outer s₀ H₀ E) v8 H' ea:=nw ea F.here;have nT:New (cxOf (CXD D P w) P w K mg base N0 qual scope0 f cd A outer s₀ H₀ E) v8 H' T:=I'.new (by
  cases z:s'.heap.get? T with
  |none=>rfl
  |some o=>exact absurd (rj (rk z) hT) (su _)) (I'.hok.fresh hT) (hex T)
 refine⟨m,⟨oC,es,ep,gC2,rC⟩,λ h2 sb cenv _=>?_⟩;have J2:=J.turned (t':=s'.toks) (h':=h2) (it:=C) (λ b o hb e=>(sb.2 b hb).trans e) hC' fC.2.1 fC.2.2.2.1 fC.2.2.2.2.1 fC.2.2.2.2.2;have F2:FlyL h2 ea cls T _ c:=F'.keep λ b o g hb=>(sb.2 b (by rcases hb with z|z<;>subst z<;>assumption)).trans g
 refine kf F2.any λ h3 v' F3 k3 t3=>?_
 have J3:=J2.landed (h':=h3) (fp:=[T]) (λ b hb=>by rw [rJ] at hb;rw [hb];exact nT) (λ b o g hb _=>k3 b o g λ z=>hb (by simp [z])) (λ b o g hb=>⟨o.slots,k3 b o g λ z=>hb (by simp [z])⟩) t3;show wpAny (model P w) _ (leaving _ (.ref ea)) _ _ _;refine jW J3.ok.frames J3.stack rfl F3 λ h4 T' F4 hT' g3 g4 g5=>?_
 have J4:=J3.landed (h':=h4) (fp:=[ea,T]) (λ b hb=>by
  rcases rY.mp hb with z|z
  ·rw [z];exact nE
  ·rw [rJ.mp z];exact nT) g3 g4 g5
 refine⟨ea,cls,[ea,T'],H',rfl,J4.os,J4.bare,J4.base,J4.hok,⟨c,dc,F4,bk,λ b e=>(bn' b e).s0⟩,λ b hb=>?_,q⟩;rcases rY.mp hb with hb|hb
 ·rw [hb];exact⟨nE.s0,nE.h⟩
 ·rw [rJ.mp hb];rcases hT' with z|z
  ·rw [z];exact⟨nT.s0,nT.h⟩
  ·refine⟨?_,J3.hok.fresh z⟩;cases y:s₀.heap.get? T' with
   |none=>rfl
   |some o=>
    obtain⟨o',r⟩:=J3.base.there T' o y (hex T');exact absurd (rj (rk r) z) (su _)
end L2
set_option maxHeartbeats 4000000
namespace QQ
open PySem PyProof.Rows
variable {a e:vR}{vs:Array vS}
section
variable {prog:vU}{w:vV}{A:vX}{E:vS -> vT -> Prop}{s:vT}{env:Env}
theorem fX {α:Type}{oe oa:v1}{us:Array vS}{Q:α->vT->Prop}(hA:A.handled=some (.ref a))(ga:s.heap.get? a=some oa)(da:oa.data=.fields us)(za:us[2]?=some Value.none)
  (he:s.heap.get? e=some oe) (hd:oe.data=.fields vs) (hz:2<vs.size) (hne:a≠e)
  (h:∀h',h'.get? e=some (oe.mapFields (·.setIfInBounds 2 (.ref a)))->Heap.SameBut e s.heap h'->E (.ref e) {s with heap:=h'}):wpAny (model prog w) A (raiseNew (.ref e):Sem α) Q E s:=by
 unfold raiseNew;refine re (wpAny_handled ?_);rw [hA];have ne:(Value.ref a !=Value.ref e)=true:=by simp [bne,hne]
 show wpAny _ _ (if(Value.ref a !=Value.ref e)=true then _ else _) _ _ _;rw [se ne];refine re (so (wpAny_runValue (vk cY ?_)));show wpAny _ _ (field (.ref a) 2>>= _) _ _ s;refine re (rM ga da za ?_);show wpAny _ _ (if(Value.none==Value.none)=true then _ else _) _ _ s;rw [se (by rfl)];refine re (rA (rA ?_));show wpAny _ _ (updateField e 2 (.ref a)>>= λ _=>throw (.ref e)) _ _ s;refine re (sk he hd hz ?_:wpAny _ _ (setField (.ref e) 2 (.ref a)) _ _ s);exact wpAny_throw (h _ (rG _ he (sj (rR hd _))) (sX ..))
variable {nm q:Str}{C N:vR}{bs bm:List vS}{hdct:Bool}{sn:List Str}{sub:List vS}{ab:Bool}{col:Option Bool}{dd:Option vR}{k0 k1 k2 k3 k5:Option vS}{newId:String}
theorem cQ {x c:Sem vS}{Q:Flow->vT->Prop}(hbase:bm.contains (.type "BaseException")=true)(hc:∀(Q:vS->vT->Prop) (s:vT),Q .none s->wpAny (model prog w) A c Q E s)(hA:A.handled=some (.ref a))
  (h:wpAny (model prog w) A x (λ v s₁=>∃e t oa us,v=.ref e/\s₁.heap.get? C=some (excClassObj nm q C N bs bm hdct sn sub ab col dd k0 k1 k2 k3 k5 newId)/\
   s₁.heap.get? e=some {cls:=.ref C,data:=.fields #[.ref t,.none,.none,.none,.bool false,.none]}/\s₁.heap.get? a=some oa/\oa.data=.fields us/\us[2]?=some Value.none/\a≠e/\C≠e/\
   ∀h',h'.get? e=some (exO (.ref C) #[.ref t,.none,.ref a,.none,.bool true,.none])->Heap.SameBut e s₁.heap h'->E (.ref e) {s₁ with heap:=h'}) E s):
  wpAny (model prog w) A (raiseStmt env (some x) (some c)) Q E s:=by
 have hcB:(Value.ref C::bm).contains (.type "BaseException")=true:=by rw [vA,hbase,Bool.or_true]
 unfold raiseStmt;refine re (rV h (λ v s₁ h₁=>?_) λ _ _ x=>x);obtain⟨e,t,oa,us,rfl,hC,he,ga,da,za,hne,hCe,hE⟩:=h₁;obtain⟨hp,g,d,tk,os⟩:=s₁;dsimp only at*;refine re (so (hc _ _ ?_))
 repeat (first|with_reducible refine tG he ?_|with_reducible refine tG hC ?_|(with_reducible refine tP hC ?_;rw [hcB])|wp_step)
 have e1:=rG (Obj.mapFields λ x=>x.setIfInBounds 3 Value.none) he rfl;have e2:=rG (Obj.mapFields λ x=>x.setIfInBounds 4 (Value.bool true)) e1 rfl;have ka:=(rp ((hp.update e (Obj.mapFields λ x=>x.setIfInBounds 3 Value.none))) (Obj.mapFields λ x=>x.setIfInBounds 4 (Value.bool true)) (sJ hne)).trans ((rp hp (Obj.mapFields λ x=>x.setIfInBounds 3 Value.none) (sJ hne)).trans ga);have e3:((hp.update e (Obj.mapFields λ x=>x.setIfInBounds 3 Value.none)).update e (Obj.mapFields λ x=>x.setIfInBounds 4 (Value.bool true))).get? e=some (exO (.ref C) #[.ref t,.none,.none,.none,.bool true,.none]):=e2;have sb2:Heap.SameBut e hp ((hp.update e (Obj.mapFields λ x=>x.setIfInBounds 3 Value.none)).update e (Obj.mapFields λ x=>x.setIfInBounds 4 (Value.bool true))):=(sX ..).trans (sX ..);clear e1 e2;generalize (hp.update e (Obj.mapFields λ x=>x.setIfInBounds 3 Value.none)).update e (Obj.mapFields λ x=>x.setIfInBounds 4 (Value.bool true))=hp2 at*;refine fX (s:=⟨hp2,g,d,tk,os⟩) (oa:=oa) (us:=us) (oe:=exO (.ref C) #[.ref t,.none,.none,.none,.bool true,.none]) (vs:=#[.ref t,.none,.none,.none,.bool true,.none]) hA ka da za e3 rfl (by show(2:Nat)<6;decide) hne λ h' g' sb=>?_
 exact hE h' g' (sb2.trans sb)
theorem Raise_call_fromNone {B initId:String}{bmB:List vS}(F:ExcBaseFacts B newId initId bmB){mN:Str->Option vS}{x:Str}{np cpos pos:Pos}{args:List vZ}{cz:vZ}{Q:Flow->vT->Prop}
  (hbase:bm.contains (.type "BaseException")=true) (hcz:eval cz env=pure .none) (hA:A.handled=some (.ref a)) (hplain:(backTo cpos (starEach args env)).any (·.1)=false) (hni:mN "__init__"=none)
  (h:wpAny (model prog w) A (eval (.Name x np) env) (λ f s₁=>f=.ref C/\wpAny (model prog w) A (evalArgs (.ref C) true (backTo cpos (starEach args env)) [])
   (λ ar s₂=>ar.kw=[]/\ar.pos.length≤sizeLine/\s₂.heap.get? C=some (excClassObj nm q C N bs bm hdct sn sub ab col dd k0 k1 k2 k3 k5 newId)/\s₂.heap.Ns N mN/\OwnTail s₂.heap bmB bm/\
    (∃oa us,s₂.heap.get? a=some oa/\oa.data=.fields us/\us[2]?=some Value.none)/\
    ∀h' e t,(∀b o,s₂.heap.get? b=some o->h'.get? b=some o)->s₂.heap.get? e=none->h'.get? e=some (exO (.ref C) #[.ref t,.none,.ref a,.none,.bool true,.none])->E (.ref e) {s₂ with heap:=h'}) E s₁) E s):
  wpAny (model prog w) A (exec (.Raise (some (.Call (.Name x np) args [] cpos)) (some cz) pos) env) Q E s:=by
 rw [arm_exec_Raise];refine re (tN ?_);refine cQ (C:=C) (nm:=nm) (q:=q) (N:=N) (bs:=bs) (bm:=bm) (hdct:=hdct) (sn:=sn) (sub:=sub) (ab:=ab) (col:=col) (dd:=dd) (k0:=k0) (k1:=k1) (k2:=k2) (k3:=k3) (k5:=k5) (newId:=newId) (a:=a) hbase (λ Q s hq=>?_) hA ?_
 ·rw [hcz];exact re (rA (re (tN (rA hq))))
 refine re (rV (wpAny_Call_ofName (rV h (λ f s₁ h₁=>?_) λ _ _ x=>x)) (λ v s₃ h₃=>re (tN (rA h₃))) λ _ _ x=>x);obtain⟨rfl,h₁⟩:=h₁;unfold callWith;refine re (so (rV h₁ (λ a s₂ h₂=>re (tN ?_)) λ _ _ x=>x));obtain⟨apos,akw⟩:=a;obtain⟨hkw,hlen,hC,hn,T,⟨oa,us,ga,da,za⟩,h₂⟩:=h₂;obtain rfl:akw=[]:=hkw;obtain⟨hp,g,d,tk,os⟩:=s₂;simp only [hplain];refine re (wpAny_keeperOf_exc hC ?_);refine re (wpAny_call_exc_subT (hrest:=hlen) F T hC hn hni λ h' e hm=>re (so (wpAny_point (rA ?_))));obtain⟨t,ht,_,_⟩:=hm.there;refine⟨e,t,oa,us,rfl,hm.keeps _ _ hC,ht,hm.keeps _ _ ga,da,za,λ z=>?_,λ z=>?_,λ h'' g' sb=>?_⟩
 ·have:=hm.new;rw [<-z] at this;rw [this] at ga;cases ga
 ·have:=hm.new;rw [<-z] at this;rw [this] at hC;cases hC
 ·refine h₂ h'' e t (λ b o q=>?_) hm.new g';refine sb.extBut b o (λ z=>?_) (hm.keeps _ _ q);have:=hm.new;rw [<-z] at this;rw [this] at q;cases q
end
section
variable {M:Model}{A B:vX}{E E2:vS -> vT -> Prop}{s:vT}
theorem kR {base:vY}{env:Env}{outer:List Env}{L:vR}{cls c:vS}{Q:Unit->vT->Prop}{Kx:vS->vT->Prop}(hK:∀s2,wpAny M B (leaving env (.ref e)) Q E2 s2->Kx (.ref e) s2)
  (hfr:A.frames=some (env::outer)) (hl:s.heap.FunFrames base (env::outer)) (hf:env.frame=some L)
  (he:s.heap.get? e=some (exO cls vs)) (h0:vs[1]?=some Value.none) (h2:vs[2]?=some c/\6≤vs.size)
  (h:∀h' T,Fly h' e cls [e,T] c->s.heap.objs.size≤T->(∀b o,s.heap.get? b=some o->b≠e->b∉(env::outer).filterMap (·.frame)->h'.get? b=some o)->
   (∀b o,s.heap.get? b=some o->b≠e->∃sl,h'.get? b=some {o with slots:=sl})->Q () {s with heap:=h'}):
  notedBy M A env (cameBackBy M B env Kx) (.ref e) s:=by
 have h1:1<vs.size:=(rK.mp h0).1;have ne:e∉(env::outer).filterMap (·.frame):=λ hm=>by
  obtain⟨_,o,ho,hnf⟩:=hl.mem hm;rw [he] at ho;cases ho;exact hnf vs rfl
 unfold notedBy noteFrame;simp only [hf];refine re (rM he rfl h0 ?_);rw [rO (by decide)];refine re (wpAny_frameOf_fun hfr hl hf λ g1 s1=>?_);refine re (wpAny_entryPlaceOf λ pl hpl=>?_);unfold EntryCells.newEntry newFields;refine re (ui ?_ (hpl.sizeOk5 _ _ _ _ _));have hsz:g1.objs.size=s.heap.objs.size:=s1.1;have he1:g1.get? e=some (exO cls vs):=(s1.2.1 e ne).trans he;generalize hO:({cls:=.type "traceback",dict:=none,data:=.fields ([Value.none,.ref L,.none,rawInt L,.none]++(if pl.isEmpty then List.replicate 6 Value.none else pl)).toArray}:v1)=oT;have e3:∃ts,oT.data=.fields ts/\3<ts.size:=⟨_,by rw [<-hO],by simp only [rh,rq,sr,List.length_nil];omega⟩;have hfreed:oT.isFreed=false:=by rw [<-hO];rfl
 clear hO;obtain⟨ts,hts,hz3⟩:=e3;have he2:(g1.push oT).get? e=some (exO cls vs):=rf _ he1;have hT2:(g1.push oT).get? g1.objs.size=some oT:=rF g1 hfreed;have hTe:g1.objs.size≠e:=uc (rk he1);refine sk he2 rfl h1 ?_;have he3:=rG (Obj.mapFields (·.setIfInBounds 1 (Value.ref g1.objs.size))) he2 rfl;have hT3:=(rp (g1.push oT) (Obj.mapFields (·.setIfInBounds 1 (Value.ref g1.objs.size))) (sJ hTe)).trans hT2;have he3':((g1.push oT).update e (Obj.mapFields (·.setIfInBounds 1 (Value.ref g1.objs.size)))).get? e=some (exO cls (vs.setIfInBounds 1 (Value.ref g1.objs.size))):=he3;have keep3:∀b o,b≠e->g1.get? b=some o->((g1.push oT).update e (Obj.mapFields (·.setIfInBounds 1 (Value.ref g1.objs.size)))).get? b=some o:=λ b o hb q=>by
  rw [rp _ _ (sJ hb)];exact rf _ q
 generalize (g1.push oT).update e (Obj.mapFields (·.setIfInBounds 1 (Value.ref g1.objs.size)))=g3 at*;have f1:(vs.setIfInBounds 1 (Value.ref g1.objs.size))[1]?=some (.ref g1.objs.size):=by simp [h1]
 unfold cameBackBy;refine re (rM he3' rfl f1 ?_);rw [rO (by simp)];unfold setFlight;refine re (rM he3' rfl f1 ?_);rw [se (show(Value.ref g1.objs.size !=Value.none)=true from by simp)];refine sk hT3 hts hz3 ?_;have hT4:=rG (Obj.mapFields (·.setIfInBounds 3 (env.frame.elim Value.none λ f=>rawInt f))) hT3 (sj (rR hts _));have keep4:∀b o,b≠g1.objs.size->g3.get? b=some o->(g3.update g1.objs.size (Obj.mapFields (·.setIfInBounds 3 (env.frame.elim Value.none λ f=>rawInt f)))).get? b=some o:=λ b o hb q=>by
  rw [rp _ _ (sJ hb)];exact q
 have ht4:(oT.mapFields (·.setIfInBounds 3 (env.frame.elim Value.none λ f=>rawInt f))).data=.fields (ts.setIfInBounds 3 (rawInt L)):=by rw [hf];exact rR hts _
 generalize g3.update g1.objs.size (Obj.mapFields (·.setIfInBounds 3 (env.frame.elim Value.none λ f=>rawInt f)))=g4 at*;generalize oT.mapFields (·.setIfInBounds 3 (env.frame.elim Value.none λ f=>rawInt f))=o4 at*;have he4:=keep4 e _ (sJ hTe) he3';refine hK _ ?_;unfold leaving;refine re ?_;unfold noteFrame;simp only [hf];refine re (rM he4 rfl f1 ?_);rw [se (show(Value.ref g1.objs.size !=Value.none)=true from by simp)];refine re (rM hT4 ht4 (x:=rawInt L) (by simp [hz3]) ?_);rw [se (by simp)];refine rA ?_;unfold setFlight;refine re (rM he4 rfl f1 ?_);rw [se (show(Value.ref g1.objs.size !=Value.none)=true from by simp)];have z4:3<(ts.setIfInBounds 3 (rawInt L)).size:=by rw [tI];exact hz3
 refine sk hT4 ht4 z4 ?_;have keep:∀b o,b≠e->g1.get? b=some o->(g4.update g1.objs.size (Obj.mapFields (·.setIfInBounds 3 ((none:Option vR).elim Value.none λ f=>rawInt f)))).get? b=some o:=λ b o hb q=>by
  rw [rp _ _ (uc (rk q))];exact keep4 b o (rL (rk q)) (keep3 b o hb q)
 refine h _ g1.objs.size ⟨vs.setIfInBounds 1 (Value.ref g1.objs.size),?_,?_,.inr ⟨g1.objs.size,_,_,f1,hTe,rG _ hT4 (sj (rR ht4 _)),rR ht4 _,?_,rfl⟩⟩ (uQ hsz.symm) (λ b o q hb hn=>?_) λ b o q hb=>?_
 ·rw [rp _ _ hTe];exact he4
 ·rw [tH (by decide),tI];exact h2
 ·simp [hz3]
 ·exact keep b o hb ((s1.2.1 b hn).trans q)
 ·obtain⟨sl,e'⟩:=s1.2.2 b o q;exact⟨sl,keep b _ hb e'⟩
end
end QQ
namespace QQ
open PySem
section
variable {M:Model}{A:vX}{E:vS -> vT -> Prop}
variable {nm q:Str}{C N:vR}{bs bm:List vS}{hdct:Bool}{sn:List Str}{sub:List vS}{ab:Bool}{col:Option Bool}{dd:Option vR}{k0 k1 k2 k3 k5:Option vS}{newId:String}
theorem kn {h:vY}{g:Array GenState}{d:Drawn}{t:Nat}{os:OsState}{e:vR}{oe:v1}{Q:Bool->vT->Prop}
  (hC:h.get? C=some (excClassObj nm q C N bs bm hdct sn sub ab col dd k0 k1 k2 k3 k5 newId))
  (he:h.get? e=some oe) (hcls:oe.cls=.ref C) (hbase:bm.contains (.type "BaseException")=true)
  (hq:Q true ⟨h,g,d,t,os⟩):wpAny M A (excMatches (.ref e) (.ref C)) Q E ⟨h,g,d,t,os⟩:=by
 have hcB:(Value.ref C::bm).contains (.type "BaseException")=true:=by rw [vA,hbase,Bool.or_true]
 have f:=tc_notTuple;unfold excMatches
 repeat (first|(with_reducible refine tG he ?_;rw [hcls])|with_reducible refine tG hC ?_|(with_reducible refine tP hC ?_;rw [hcB])|wp_step)
 refine tP hC ?_;rw [show(Value.ref C::bm).contains (.ref C)=true by simp]
 repeat wp_step
 exact hq
end
end QQ
set_option maxHeartbeats 4000000
namespace L2
open PySem PySem.Spec PyProof.Rows QQ
variable {E:XK}{X:Cx}
theorem Inv.rexe {v8:List (vR×v1)}{σ:St}{H:Hp}{s:vT}{W W':vS->vT->Prop}(I:Inv {X with xe:=W} v8 σ H s):Inv {X with xe:=W'} v8 σ H s:=
 ⟨⟨I.ok.mod,I.ok.kind,I.ok.glob,I.ok.blt,I.ok.above,I.ok.inj,I.ok.has,I.ok.cab,I.ok.hd,I.ok.frames,I.ok.stk,I.ok.exf,I.ok.bs,I.ok.bsz,I.ok.noex,I.ok.exfs,I.ok.funs,I.ok.frf⟩,I.os,I.bare,I.base,I.loc,I.cell,I.free,I.freeC,I.pin,I.hok,I.len⟩
def dS (X:Cx)(e:vR)(G:Hp)(E:XK):Cx:={cxHand X e G with
 xe:=λ x s'=>∃e2 C t v8 σ H',x=.ref e2/\Inv (cxHand X e G) v8 σ H' s'/\s'.heap.get? e2=some (exO (.ref C) #[.ref t,.none,.ref e,.none,.bool true,.none])/\New (cxHand X e G) v8 H' e2/\E (.ref C) none H'}
theorem fq {G:Hp}{a:vR}{oa:v1}{us:Array vS}{x:Str}{C:vR}{e cz:vZ}{te:TE}{np cpos pos:Pos}(hX:X.ex=[])(hk:G a=some (.frz oa (.own a)))(hda:oa.data=.fields us)(h2:us[2]?=some Value.none)
  (hg:Gl (dS X a G E) x) (hm:X.mg x=some (.ref C)) (c:ExC X.K C) (he:PE (dS X a G E) e te)
  (hcz:autoParam (eval cz X.env=pure .none) Z0) (hst:autoParam (starEach [e] X.env=(false,eval e X.env)::starEach [] X.env) Z0) (hd:autoParam ((x==("__debug__":Str))=false) ZZ):
  PS (dS X a G E) (.Raise (some (.Call (.Name x np) [e] [] cpos)) (some cz) pos) (iI C E te):=by
 intro v8 s σ H D I h;obtain⟨bm,N,nm,q,bs,hdct,sn,sub,ab,col,dd,k0,k1,k2,k3,k5,hl,_,hf⟩:=dm c;obtain⟨⟨mN,hN,hni⟩,T⟩:=hf X.base I.mod.kin;refine QQ.Raise_call_fromNone (C:=C) (nm:=nm) (q:=q) (N:=N) (bs:=bs) (bm:=bm) (hdct:=hdct) (sn:=sn) (sub:=sub) (ab:=ab) (col:=col) (dd:=dd) (k0:=k0) (k1:=k1) (k2:=k2) (k3:=k3) (k5:=k5)
  vp (mN:=mN) (a:=a) (T.hasType (by decide+kernel)) hcz rfl (by show(backTo cpos (starEach [e] X.env)).any (·.1)=false;rw [hst];rfl) hni (ld_glob I hg hm ⟨rfl,?_⟩ hd)
 show wpAny _ _ (evalArgs (.ref C) true (backTo cpos (starEach [e] X.env)) []) _ _ _;rw [hst];refine uY (vy (thn (he v8 s σ H _ I h) λ u s1 z1=>vF ?_));obtain⟨y,H1,I1,r1,q1⟩:=z1;obtain⟨ga,_⟩:=I1.hok a _ (I1.base.frzs a oa (.own a) hk);refine⟨rfl,by show 1≤sizeLine;decide,I1.kIn C _ hl,hN.keeps I1.bk,T.keeps I1.bk,⟨oa,us,ga,hda,h2⟩,λ h' e2 t kp nw g'=>?_⟩;have I2:Inv (cxHand X a G) v8 σ H1 s1:=Inv.rexe I1;exact⟨e2,C,t,v8,σ,H1,rfl,I2.kept (t':=s1.toks) kp,g',I2.new nw (I2.hok.gone nw) (by show e2∉X.ex;rw [hX];simp),q1⟩
def pY (D0:vR)(tb:St->XK->TS)(th:TS):TS:=λ D σ H=>
 tb σ (λ cls _ H'=>cls=.ref D0/\∀e vs,H' e=none->th D σ (upd H' e (.frz (exO (.ref D0) vs) (.own e)))) D σ H
theorem jx {P:vU}{w:vV}{K:Frag}{mg:Str->Option vS}{base:vY}{N:List Str}{qual:Str}{scope:Scope}{f:vR}{cd:vS}{A:vX}{outer:List Env}{s₀:vT}{H₀:Hp}(eX:X=cxOf (CXE P w) P w K mg base N qual scope f cd A outer s₀ H₀ E)
  {x:Str} {D0:vR} {b₀:v7} {body suite:List v7} {tb:St->XK->TS} {th:TS} {np hpos pos:Pos} (hg:Gl X x) (hm:X.mg x=some (.ref D0)) (hD:ExC X.K D0)
  (hb:∀pn σ0 E',PSs (kh X pn σ0 E' λ c=>c=.none) body (tb σ0 E')) (hh:∀e G o us,G e=some (.frz o (.own e))->o.data=.fields us->us[2]?=some Value.none->PSs (dS X e G E) (b₀::suite) th) (hd:autoParam ((x==("__debug__":Str))=false) ZZ):
  PS X (.Try body [.ExceptHandler (some (.Name x np)) none (b₀::suite) hpos] [] [] pos) (pY D0 tb th):=by
 have hst:X.stack=X.env::X.outer:=by rw [eX];rfl
 have hfr:X.env.frame=some X.env.locals:=by rw [eX];rfl
 have hX:X.ex=[]:=by rw [eX];rfl
 intro v8 s σ H D I h;refine wpAny_Try_except (rV (hb (X.pn++v8) σ _ [] s σ H D (I.lift _) h) (λ f s1 q=>?_) λ e s1 q=>?_)
 ·have q':SP X v8 D f s1:=SP.unlift q;cases f with
  |next=>exact ue q'
  |brk=>exact q'
  |cont=>exact q'
  |ret u=>exact q'
 ·obtain⟨ea,cls,fp,H',rfl,I1,⟨c,dc,F,bk,bn⟩,fr,rfl,q⟩:=q;subst dc;have I1:Inv X v8 σ H' s1:=Inv.unlift (W:=X.xe) I1;have fr:∀b∈fp,New X v8 H' b:=λ b hb=>let n:=fr b hb;⟨n.s0,n.h,n.loc,n.cel,λ p hp=>n.pin p (by simpa using hp)⟩
  have hf:X.A.frames=some (X.env::X.outer):=hst▸I1.ok.frames;refine land hf (hst▸I1.stack) hfr F λ h' T F' hT f3 f4 f5=>?_
  have I2:=I1.landed fr (by rw [hst];exact f3) f4 f5;have nE:New X v8 H' ea:=fr ea F.here;have nT:New X v8 H' T:=I1.new (by
   cases z:s1.heap.get? T with
   |none=>rfl
   |some o=>exact absurd (rj (rk z) hT) (su _)) (I1.hok.fresh hT) (by rw [hX];simp)
  obtain⟨vs,ge,z2,⟨_,r⟩|⟨T',oT,ts,_,neT,_,_,_,r⟩⟩:=id F'
  ·cases r
  ·cases r;have q:=q ea vs nE.h;have I3:=I2.hand nE ge z2 (.inl rfl);have hG:(upd X.H₀ ea (.frz (exO (.ref D0) vs) (.own ea))) ea=some (.frz (exO (.ref D0) vs) (.own ea)):=ad;have uh:∀σ6 H6 s6,Inv (cxHand X ea (upd X.H₀ ea (.frz (exO (.ref D0) vs) (.own ea)))) v8 σ6 H6 s6->Inv X v8 σ6 H6 s6:=λ _ _ _ z=>Inv.unhand I2 nE z
   have nE0:New X [] H' ea:=⟨nE.s0,nE.h,nE.loc,nE.cel,λ p hp=>nE.pin p (by simp at hp;exact sg _ hp)⟩;have uh0:∀σ6 H6 s6,Inv (cxHand X ea (upd X.H₀ ea (.frz (exO (.ref D0) vs) (.own ea)))) [] σ6 H6 s6->Inv X [] σ6 H6 s6:=λ _ _ _ z=>Inv.unhand I2.unpinned nE0 z
   generalize hG3:upd X.H₀ ea (.frz (exO (.ref D0) vs) (.own ea))=G3 at*;generalize hH3:upd H' ea (.frz (exO (.ref D0) vs) (.own ea))=H3 at*;refine wpAny_handleBy_cons (codeAny_handlers_test (ld_glob (X:=cxHand X ea G3) I3 hg hm ?_ hd)) (by intro q;cases q);obtain⟨bm,N',nm,qn,bs,hdct,sn,sub,ab,col,dd,k0,k1,k2,k3,k5,hlD,_,hfD⟩:=dm hD;have TT:=(hfD _ I2.kIn).2;obtain⟨hh1,gg,dr,tk,os1⟩:=s1;refine kn (I2.kIn D0 _ hlD) ge rfl (TT.hasType (by decide+kernel)) (codeAny_handlers_suite ?_);refine ed F' λ h4 F4 k4=>?_
   have nT3:New (cxHand X ea G3) v8 H3 T:=⟨nT.s0,by rw [<-hH3,ao neT];exact nT.h,nT.loc,nT.cel,nT.pin⟩;have I4:=I3.landed (h':=h4) (fp:=[T]) (λ b hb=>by rw [rJ] at hb;rw [hb];exact nT3) (λ b o g hb _=>k4 b o g λ z=>hb (by simp [z])) (λ b o g hb=>⟨o.slots,k4 b o g λ z=>hb (by simp [z])⟩) (λ b o g=>by
    by_cases hb:b=T
    ·obtain⟨o',us,g',_⟩:=F4.rec T (by simp);exact⟨o',by rw [hb];exact g'⟩
    ·exact⟨o,k4 b o g hb⟩)
   refine rV (hh ea G3 _ vs hG rfl z2.1 v8 _ σ H3 D (Inv.rexe I4) q) (λ f s6 q6=>?_) λ x s6 z6=>?_
   ·cases f with
    |next=>obtain⟨σ6,H6,I6,q7⟩:=q6;exact⟨σ6,H6,uh _ _ _ (Inv.rexe I6),q7⟩
    |brk=>obtain⟨σ6,H6,I6,q7⟩:=q6;exact⟨σ6,H6,uh _ _ _ (Inv.rexe I6),q7⟩
    |cont=>obtain⟨σ6,H6,I6,q7⟩:=q6;exact⟨σ6,H6,uh _ _ _ (Inv.rexe I6),q7⟩
    |ret u=>obtain⟨v,σ6,H6,I6,r,q7⟩:=q6;exact⟨v,σ6,H6,uh _ _ _ (Inv.rexe I6),r,q7⟩
   ·obtain⟨e2,C2,t,pins',σ6,H6,rfl,I6,g2,n2,qE⟩:=z6;have hE6:H6 ea=some (.frz (exO (.ref D0) vs) (.own ea)):=I6.base.frzs _ _ _ hG;have J0:=uh0 _ _ _ I6.unpinned;have ne2:ea≠e2:=λ z=>by have nh:=n2.h;rw [<-z,hE6] at nh;cases nh
    refine kR (B:=X.A) (Kx:=X.xe) (Q:=λ _ s''=>CXE P w outer H₀ s₀ E (.ref e2) s'') (E2:=λ e' s''=>CXE P w outer H₀ s₀ E e' s'') (λ s2 z=>by rw [eX];rw [eX] at z;exact z) hf (hst▸J0.stack) hfr g2 rfl ⟨rfl,by show(6:Nat)≤6;decide⟩ λ h7 T7 F7 hT7 k7 sl7=>?_
    have n20:New X [] H6 e2:=⟨n2.s0,n2.h,n2.loc,n2.cel,λ p hp=>n2.pin p (by simp at hp;exact sg _ hp)⟩;have J:=J0.landed (h':=h7) (fp:=[e2]) (λ b hb=>by rw [rJ] at hb;rw [hb];exact n20) (λ b o g hb hn=>k7 b o g (λ z=>hb (by simp [z])) (by rw [hst] at hn;exact hn)) (λ b o g hb=>sl7 b o g λ z=>hb (by simp [z])) (λ b o g=>by
     by_cases hb:b=e2
     ·obtain⟨vs',g',_⟩:=F7;exact⟨_,by rw [hb];exact g'⟩
     ·obtain⟨sl,e'⟩:=sl7 b o g hb;exact⟨_,e'⟩)
    have hT0:H6 T7=none:=J0.hok.fresh hT7;have sT:X.s₀.heap.get? T7=none:=by
     cases z:X.s₀.heap.get? T7 with
     |none=>rfl
     |some o=>
      obtain⟨o',r⟩:=J0.base.there T7 o z (by rw [hX];simp);exact absurd (rj (rk r) hT7) (su _)
    have sA:=nE.s0;have s2':=n2.s0;have hz:=z2;have nh2:=n2.h;clear hb hh uh uh0 I I1 I2 I3 I4 I6 J0;subst eX;refine⟨e2,_,[e2,T7],H6,rfl,J.os,J.bare,J.base,J.hok,⟨.ref ea,trivial,F7,.inr ⟨ea,_,vs,rfl,ne2,hE6,rfl,hz.2,hz.1⟩,λ b e=>?_⟩,λ b hb=>?_,qE⟩
    ·cases e;exact sA
    ·rcases rY.mp hb with hb|hb
     ·subst hb;exact⟨s2',nh2⟩
     ·rw [rJ] at hb;subst hb;exact⟨sT,hT0⟩
end L2
set_option maxHeartbeats 4000000
namespace K23.Ck
open PySem L2 QQ W17 W16 BP
seal PE PA PS PSs PT PW PG PI
variable {f:vR}{fd:vW}{R:List Nat}
theorem bO (r a:Nat):(List.replicate r [vN a]).flatten=(List.replicate r a).map vN:=by
 induction r with
 |zero=>rfl
 |succ r ih=>rw [sW,uf,ih];rfl
theorem bt8 (hb:∀b∈R,b<256){i:Nat}(hi:i<R.length):bt R (8*i) 8=R[i]:=by
 have h:=ji hb (vI i) hi;have e:(R.take (i+1)).drop i=[R[i]]:=by rw [bM (rT hi),List.drop_left' (by rw [rW];omega)]
 rw [e,cp,jm,show i.succ-i=1 by omega,pow256,pow256] at h;simp at h;rw [h];unfold bt;rw [show 8*R.length-(8*i+8)=8*(R.length-(i+1)) by omega]
structure Rdr (K:Frag)(mg:Str->Option vS)(C cN:vR):Prop where
 Y:Rows K mg
 T:CRd K mg C
 m:mg "BitReader"=some (.ref C)
 init:∃f fd,Fun K "__init__" "BitReader.__init__" iw f fd/\Binds K fd ["self","row"] []/\Mk K C f
 take:∃f fd,Me K C "take" "BitReader.take" jn ["self","size"] f fd
 left:∃f fd,Me K C "left" "BitReader.left" gZ ["self"] f fd
 atend:∃f fd,Me K C "at_end" "BitReader.at_end" iU ["self"] f fd
 need:∃f fd,Fn K mg "need_row" bp ["thing"] f fd
 size:∃f fd,Fn K mg "need_size" cA ["size"] f fd
 ones:∃f fd,Fn K mg "ones" eN ["size"] f fd
 bits:∃f fd,Fn K mg "bits_at" df ["row","place","size"] f fd
 mN:mg "NoBits"=some (.ref cN)
 xN:ExC K cN
section
variable {C cN:vR}
theorem Rdr.tk (Z:Rdr K mg C cN):∃f fd,Me K C "take" "BitReader.take" jn ["self","size"] f fd/\∀(P:vU) (w:vV) (base:vY),FnOk P w K mg base (CX1 P w) 31 f fd ["self","size"] (iV C cN):=by
 obtain⟨f,fd,Tk⟩:=Z.take;obtain⟨_,_,L⟩:=Z.left;obtain⟨_,_,W⟩:=Z.Y.whole;obtain⟨_,_,S⟩:=Z.size;obtain⟨_,_,O⟩:=Z.ones;obtain⟨_,_,Ba⟩:=Z.bits;exact⟨f,fd,Tk,λ _ _ _=>mI Tk.F S W Ba O L Z.T Z.Y.X Z.mN Z.xN⟩
theorem _root_.K23.ReadAt.keep {H H':Hp}{p d:vR}{t:Nat}(h:ReadAt C H p d R t)(k:∀c o,H c=some o->(c=p\/c=d)->H' c=some o):ReadAt C H' p d R t:=by
 obtain⟨⟨dx,hp⟩,hd,r1,r2⟩:=h;exact⟨⟨dx,k _ _ hp (.inl rfl)⟩,k _ _ hd (.inr rfl),r1,r2⟩
def jH (C cN:vR):Sp:=λ vs H Q E=>∃(o r d:vR) (x:V) (R:List Nat) (n:Nat),vs=[.ref o,.ref r,vN n,x]/\ReadAt C H r d R 0/\n≤64/\
 ((n≤R.length/\∀l H',H l=none->H' l=some (.lst ((R.take n).map vN))->ReadAt C H' r d R (8*n)->(∀c o,H c=some o->c≠r->H' c=some o)->Q (.ref l) H')\/
  (R.length<n/\∀H',(∀c o,H c=some o->c≠r->H' c=some o)->E (.ref cN) none H'))
theorem j6:FnScope ["self","reader","count","before"] ["self","reader","count","before"] (aj d8):=⟨rfl,rfl,rfl,Z8,rfl,Z8,Z8⟩
theorem qQ:(["step","reader"]:List Str).Nodup:=Z8
def kP (C cN:vR)(E:XK):TE:=gN C "take" (iV C cN) [] E (d9 1) (cr (tC (.int 8)) ee)
theorem iH (F:Fun K "read" "RawWay.read" d8 f fd)(Z:Rdr K mg C cN):FnOk P w K mg base (CX1 P w) 32 f fd ["self","reader","count","before"] (jH C cN):=by
 have X:=Z.Y.X;obtain⟨_,_,Tk,GT'⟩:=Z.tk;have GT:=GT' P w base;have TR:=Z.T;refine F.okE j6 λ v9 A outer st H vs Q E hr h=>?_
 intro _;obtain⟨o,r,d,x,R,n,rfl,hR,h64,k⟩:=h;refine⟨_,ai (au (lX (N:=["step","reader"]) (js:=[none,some 1]) (cl:=[("reader",st.heap.objs.size+1)]) (g:=bE 0) (te:=kP C cN E) rfl rfl
  ⟨rfl,Z8,Z8,Z7,λ x c h=>(by obtain⟨rfl,rfl⟩:=dW h;rfl),λ x hx=>?c1,rfl,λ i x j h1 h2=>?c2⟩
  (cL Z7 X.range (ac (pv 2) ae)) (λ fp s H=>a8 (i:=0) qQ)
  (λ fp s H=>bV (pv 1) TR.cl Tk.m GT hr Tk.b .nil qa (ac ag ae)))),?_⟩
 case c1=>
  rcases hx with hx|hx
  ·have m':(x,NameKind.cell)∈([(".0",.local),("step",.local),("reader",.cell)]:List (Str×NameKind)):=rX hx;have e:x="reader":=by simpa using m'
   subst e;exact⟨_,rfl⟩
  ·have m':(x,NameKind.free)∈([(".0",.local),("step",.local),("reader",.cell)]:List (Str×NameKind)):=rX hx;simp at m'
 case c2=>
  obtain⟨rfl,rfl⟩:=ky h1 h2;exact⟨rfl,rfl,rfl,λ c h=>h⟩
 refine⟨_,rfl,((n:Nat):Int),rfl,by omega,by omega,λ l nl=>?_⟩;obtain⟨⟨dx0,hr0⟩,hd0,hb,_⟩:=id hR;have nlr:l≠r:=(am hr0 nl).symm;have nld:l≠d:=(am hd0 nl).symm;refine fi (g:=bE 0) (te:=kP C cN E) (lo:=0) (l:=l) (k:=((n:Nat):Int).toNat)
  (λ i ys σ H2=>∃v0:Option V,σ=[v0,some (.ref r)]/\i≤R.length/\ys=(R.take i).map vN/\H2 l=some (.lst ys)/\ReadAt C H2 r d R (8*i)/\∀c o,H c=some o->c≠r->H2 c=some o)
  ⟨none,rfl,sy _,rfl,ad,hR.keep λ c o e _=>af nl _ _ e,λ c o e _=>af nl _ _ e⟩ ?_ ?_ ?_ ?_
 ·rintro i ys σ H2 hi ⟨v0,rfl,hiR,rfl,h2l,hR2,kp⟩;have hin:i<n:=by simpa using hi
  obtain⟨⟨dx,hr2⟩,_,_,_⟩:=id hR2;refine⟨_,rfl,r,dx,_,rfl,hr2,gW _ _ Z8 Z8,r,d,R,_,8,rfl,hR2,Z9,λ h8 H3 hR3 kp3=>?_,λ h8=>?_⟩
  ·have hil:i<R.length:=by omega
   rw [bt8 hb hil];have hRi:R[i]?=some R[i]:=rT hil;refine⟨kp3 _ _ h2l nlr,i6 (by rw [rg,rW];omega),_,rfl,hil,by rw [bM hRi,tD];rfl,ad,?_,λ c o e n=>?_⟩
   ·refine hR3.keep λ c o e hc=>?_
    rw [ao (by rcases hc with rfl|rfl;exact nlr.symm;exact nld.symm)];exact e
   ·rw [ao (am e nl)];exact kp3 _ _ (kp _ _ e n) n
  ·rcases k with⟨h,_⟩|⟨_,k⟩
   ·omega
   ·exact k _ kp
 rotate_left
 ·exact λ x σ H A B h z=>h _ _ z
 ·rintro σ H A B h ⟨v,e1,a',dx,fs,e2,e3,e4,p',d',R',t',s',e5,e6,e7,z,z'⟩;exact⟨v,e1,a',dx,fs,e2,e3,e4,p',d',R',t',s',e5,e6,e7,λ y H' z1 z2=>h _ _ (z y H' z1 z2),z'⟩
 ·rintro ys σ H2 ⟨v0,rfl,hn,rfl,h2l,hR2,kp⟩;rw [rD] at h2l hR2 hn;rcases k with⟨_,k⟩|⟨h,_⟩
  ·exact k l H2 nl h2l hR2 kp
  ·exact absurd hn (Nat.not_le.2 h)
def iE:Sp:=λ vs H Q _=>∃(a:vR) (xs:List V) (s e:Nat),vs=[.ref a,vN s,vN e]/\H a=some (.lst xs)/\xs.length+s≤e/\Q .non H
theorem ik:FnScope ["signs","size","end"] ["signs","size","end"] (aj cI):=⟨rfl,rfl,rfl,Z8,rfl,Z8,Z8⟩
theorem gD (F:Fn K mg "need_room" cI ["signs","size","end"] f fd)(T:K23.Txt K mg):FnOk P w K mg base CX0 1 f fd ["signs","size","end"] iE:=by
 refine F.F.ok ik λ v9 A outer st H vs Q E hr h=>?_
 intro _;obtain⟨a,xs,s,e,rfl,ha,hl,k⟩:=h;refine⟨_,ai (aI (ax ek (ak aM (aH aF Z7 T.len sF (ac (pv 0) ae)) (pv 1)) (pv 2) (az _)) (ai bR) ay),?_⟩;refine⟨_,rfl,a,_,rfl,.inl (SqL.of ha),_,rfl,_,_,rfl,rfl,_,rfl,_,_,rfl,rfl,_,rfl,aT (λ h=>?_) (λ _=>k)⟩;have:=rE h;omega
def jP (C:vR):Sp:=λ vs H Q _=>∃(o r d:vR) (x:V) (R:List Nat) (n:Nat),vs=[.ref o,.ref r,vN n,x]/\ReadAt C H r d R 0/\R.length=2/\n=bt R 0 6+1/\n≤64/\
 ∀l H',H l=none->H' l=some (.lst ((List.replicate n (bt R 6 8)).map vN))->ReadAt C H' r d R 14->(∀c o,H c=some o->c≠r->H' c=some o)->Q (.ref l) H'
theorem scRunRead:FnScope ["self","reader","count","before","signs","size","sign"] ["self","reader","count","before"] (aj d4):=⟨rfl,rfl,rfl,Z8,rfl,Z8,Z8⟩
theorem iB {fM:vR}{fdM:vW}(F:Fun K "read" "RunWay.read" d4 f fd)(Nm:Fn K mg "need_room" cI ["signs","size","end"] fM fdM)(Z:Rdr K mg C cN):FnOk P w K mg base CX0 32 f fd ["self","reader","count","before"] (jP C):=by
 have X:=Z.Y.X;obtain⟨_,_,Tk,GT'⟩:=Z.tk;have GT:=GT' P w base;have TR:=Z.T;have GM:=gD (P:=P) (w:=w) (base:=base) Nm X;refine F.ok scRunRead λ v9 A outer st H vs Q E hr h=>?_
 intro _;obtain⟨o,r,d,x,R,n,rfl,hR,h2,hn,h64,k⟩:=h;have hr1:Room 1 _:=hr.mono Z9;refine⟨_,ah (av (i:=4) scRunRead.nd (aq ae))
  (ah (kN sV (ax gF (aH aF Z7 X.len sF (ac (pv 4) ae)) (pv 2) (az _))
   (ah (av (i:=5) scRunRead.nd (ak aM (bV (pv 1) TR.cl Tk.m GT hr Tk.b .nil nX (ac ag ae)) ag))
   (ah (av (i:=6) scRunRead.nd (bV (pv 1) TR.cl Tk.m GT hr Tk.b .nil nX (ac ag ae)))
   (ah (cF (ap GM hr1 Z7 Nm.m Nm.F.kp Nm.b .nil aw (ac (pv 4) (ac (pv 5) (ac (pv 2) ae)))))
   (ai (cF (pR PySem.F.plainAttrs_list PySem.F.slot_list_extend PySem.F.type_list_extend jI (pv 4) (ac (ak dt (aq (ac (pv 6) ae)) (pv 5)) ae))))))))
  (ai (au (pv 4)))),?_⟩
 obtain⟨⟨dx0,hr0⟩,hd0,hb,_⟩:=id hR;have no:∀t,(fR d t).lookup ("take":Str)=none:=λ t=>gW _ _ Z8 Z8
 refine seq_g λ R1 g1=>?_
 refine⟨Z9,λ l nl=>g1 _ _ ?_⟩;clear g1;have nlr:l≠r:=(am hr0 nl).symm;have nld:l≠d:=(am hd0 nl).symm;refine seq_g λ R1 g1=>?_
 generalize hs:bt R 6 8=s at*;refine⟨λ m σ H2=>∃(v5 v6:Option V) (j t:Nat),((m=1/\j=0/\t=0)\/(m=0/\j=n/\t=14))/\σ=[some (.ref o),some (.ref r),some (vN n),some x,some (.ref l),v5,v6]/\H2 l=some (.lst ((List.replicate j s).map vN))/\ReadAt C H2 r d R t/\∀c o,H c=some o->c≠r->H2 c=some o,
  ⟨1,none,none,0,0,.inl ⟨rfl,rfl,rfl⟩,rfl,ad,hR.keep λ c o e _=>af nl _ _ e,λ c o e _=>af nl _ _ e⟩,?_⟩
 rintro m σ H2 ⟨v5,v6,j,t,hm,rfl,h2l,hR2,kp⟩;refine⟨_,rfl,l,_,rfl,.inl (SqL.of h2l),_,rfl,_,_,rfl,rfl,_,rfl,aT (λ h=>?_) (λ h=>?_)⟩
 ·clear g1;have h':=rE h;rw [rg,rZ] at h';rcases hm with⟨rfl,rfl,rfl⟩|⟨_,rfl,_⟩
  rotate_left
  ·exact absurd h' (Int.lt_irrefl _)
  clear h h';refine⟨λ σ' H'=>∃(v5 v6:Option V),σ'=[some (.ref o),some (.ref r),some (vN n),some x,some (.ref l),v5,v6]/\H' l=some (.lst ((List.replicate n s).map vN))/\ReadAt C H' r d R 14/\∀c o,H c=some o->c≠r->H' c=some o,
   λ σ' H' z9=>by obtain⟨v5,v6,z1,z⟩:=z9;exact⟨0,Z9,v5,v6,n,14,.inr ⟨rfl,rfl,rfl⟩,z1,z⟩,?_⟩
  obtain⟨dx2,hr2⟩:=hR2.ob;refine seq_g λ R2 g2=>?_
  refine⟨_,rfl,r,dx2,_,rfl,hr2,no _,r,d,R,0,6,rfl,hR2,Z9,λ _ H3 hR3 kp3=>?_,λ h=>by omega⟩;refine⟨_,_,rfl,rfl,g2 _ _ ?_⟩;clear g2;have e1:((bt R 0 6:Nat):Int)+1=((n:Nat):Int):=by omega
  try dsimp only
  rw [e1];obtain⟨dx3,hr3⟩:=hR3.ob;refine seq_g λ R2 g2=>?_
  refine⟨_,rfl,r,dx3,_,rfl,hr3,no _,r,d,R,6,8,rfl,hR3,Z9,λ _ H4 hR4 kp4=>g2 _ _ ?_,λ h=>by omega⟩;clear g2;rw [hs];have h4l:=kp4 _ _ (kp3 _ _ h2l nlr) nlr;refine seq_g λ R2 g2=>?_
  refine⟨_,rfl,_,rfl,_,rfl,l,_,n,n,rfl,h4l,by simp,g2 _ _ ?_⟩;clear g2;refine⟨_,rfl,.inl ⟨rfl,_,SqL.of h4l⟩,_,rfl,(by show 1≤sizeLine;decide),λ l4 n4=>?_⟩;have s4:=af (o:=.lst [vN s]) n4;have h44:(upd H4 l4 (.lst [vN s])) l4=some (.lst [vN s]):=ad;have h4l':=s4 _ _ h4l;have nl4:l≠l4:=am h4l n4;have hR5:ReadAt C (upd H4 l4 (.lst [vN s])) r d R 14:=hR4.keep λ c o e _=>s4 _ _ e
  have kp5:∀c o,H c=some o->c≠r->(upd H4 l4 (.lst [vN s])) c=some o:=λ c o e z=>s4 _ _ (kp4 _ _ (kp3 _ _ (kp _ _ e z) z) z)
  generalize upd H4 l4 (.lst [vN s])=H5 at*;refine⟨_,rfl,l4,_,_,rfl,rfl,h44,by omega,by omega,cq (by show 1*_≤2000;omega),λ l6 n6=>?_⟩;rw [rD,bO];have s6:=af (o:=.lst ((List.replicate n s).map vN)) n6;have h66:(upd H5 l6 (.lst ((List.replicate n s).map vN))) l6=some (.lst ((List.replicate n s).map vN)):=ad;have h6l:=s6 _ _ h4l';refine⟨l,l6,_,_,rfl,rfl,h6l,h66,cq (by simp;omega),_,_,rfl,ad,hR5.keep λ c o e hc=>?_,λ c o e z=>?_⟩
  ·rw [ao (by rcases hc with rfl|rfl;exact nlr.symm;exact nld.symm)];exact s6 _ _ e
  ·rw [ao (am e nl)];exact s6 _ _ (kp5 _ _ e z)
 ·rcases hm with⟨_,rfl,_⟩|⟨_,rfl,rfl⟩
  ·exact absurd (rn (by simp;omega)) h
  exact g1 _ _ ⟨_,rfl,k l H2 nl h2l hR2 kp⟩
end
end K23.Ck
set_option maxHeartbeats 4000000
namespace L2
open PySem
variable {pos:Pos}{ta:TE}{X:Cx}{K:Frag}
theorem dN {e:vZ}{f:Str}(hK:X.K=K)(he:PE X e ta)(hb:attributeBase e f X.env (eval e X.env)=eval e X.env):PE X (.Attribute e f pos) (pW K ta f):=by subst hK;exact bd he hb
theorem ly {a b:vZ}{tb:TE}(hK:X.K=K)(ha:PE X a ta)(hb:PE X b tb)(hs:i8 b):PE X (.Subscript a b pos) (tOp (qg K) ta tb):=by subst hK;exact aS aG ha hb hs
end L2
namespace K23.Ck
open PySem L2 QQ W17 W16 BP
seal PE PA PS PSs PT PW PG PI
variable {CHd cB f:vR}{fd:vW}
abbrev f7:v7:=top 110
abbrev b9:v7:=top 111
noncomputable def cs (C0 C1 C2 C3:vR):Nat->vR
 |0=>C0
 |1=>C1
 |2=>C2
 |_=>C3
structure Wal (K:Frag)(mg:Str->Option vS)(C0 C1 C2 C3:vR):Prop where
 ways:∃f fd,Fn K mg "ways" lj [] f fd
 m0:mg "RawWay"=some (.ref C0)
 m1:mg "RunWay"=some (.ref C1)
 m2:mg "CopyWay"=some (.ref C2)
 m3:mg "ShareWay"=some (.ref C3)
 k0:MkB K C0
 k1:MkB K C1
 k2:MkB K C2
 k3:MkB K C3
 c0:Cls K C0
 c1:Cls K C1
 read0:∃f fd,Me K C0 "read" "RawWay.read" d8 ["self","reader","count","before"] f fd
 read1:∃f fd,Me K C1 "read" "RunWay.read" d4 ["self","reader","count","before"] f fd
 room:∃f fd,Fn K mg "need_room" cI ["signs","size","end"] f fd
section
variable {C cN C0 C1 C2 C3:vR}
def ph (C:Nat->vR):Sp:=λ vs H Q _=>vs=[]/\∀(l:vR) (os ds:Nat->vR) (H':Hp),H l=none->(∀i,i<4->H (os i)=none)->H' l=some (.lst [.ref (os 0),.ref (os 1),.ref (os 2),.ref (os 3)])->(∀i,i<4->H' (os i)=some (.ins (C i) (ds i) []))->Same H H'->Q (.ref l) H'
theorem pc:FnScope [] [] (aj lj):=⟨rfl,rfl,rfl,Z8,rfl,Z8,Z8⟩
theorem jo (F:Fun K "ways" "ways" lj f fd)(Z:Wal K mg C0 C1 C2 C3):FnOk P w K mg base CX0 1 f fd [] (ph (cs C0 C1 C2 C3)):=by
 refine F.ok pc λ v9 A outer st H vs Q E hr h=>?_
 intro _;obtain⟨rfl,k⟩:=h;refine⟨_,ai (au (aq (ac (di Z.k0 Z7 Z.m0) (ac (di Z.k1 Z7 Z.m1) (ac (di Z.k2 Z7 Z.m2) (ac (di Z.k3 Z7 Z.m3) ae)))))),?_⟩;intro p0 d0 n0 m0 e0 p1 d1 n1 m1 e1 p2 d2 n2 m2 e2 p3 d3 n3 m3 e3;have s0:=bF (C:=C0) n0 m0;have g0:(upd (upd H d0 (.own p0)) p0 (.ins C0 d0 [])) p0=_:=ad;generalize upd (upd H d0 (.own p0)) p0 (.ins C0 d0 [])=H1 at*;have s1:=bF (C:=C1) n1 m1;have g1:(upd (upd H1 d1 (.own p1)) p1 (.ins C1 d1 [])) p1=_:=ad;generalize upd (upd H1 d1 (.own p1)) p1 (.ins C1 d1 [])=H2 at*;have s2:=bF (C:=C2) n2 m2;have g2:(upd (upd H2 d2 (.own p2)) p2 (.ins C2 d2 [])) p2=_:=ad;generalize upd (upd H2 d2 (.own p2)) p2 (.ins C2 d2 [])=H3 at*;have s3:=bF (C:=C3) n3 m3;have g3:(upd (upd H3 d3 (.own p3)) p3 (.ins C3 d3 [])) p3=_:=ad;generalize upd (upd H3 d3 (.own p3)) p3 (.ins C3 d3 [])=H4 at*;have s02:Same H H2:=λ c o e=>s1 _ _ (s0 _ _ e)
 have s03:Same H H3:=λ c o e=>s2 _ _ (s02 _ _ e)
 have s04:Same H H4:=λ c o e=>s3 _ _ (s03 _ _ e)
 have s14:Same H1 H4:=λ c o e=>s3 _ _ (s2 _ _ (s1 _ _ e))
 have s24:Same H2 H4:=λ c o e=>s3 _ _ (s2 _ _ e)
 refine⟨by show(4:Nat)≤sizeLine;decide,λ l nl=>?_⟩;have s5:Same H4 (upd H4 l (.lst [.ref p0,.ref p1,.ref p2,.ref p3])):=λ c o e=>(ao (am e nl)).trans e
 refine k l (cs p0 p1 p2 p3) (cs d0 d1 d2 d3) _ (none_of s04 nl) (λ i hi=>?_) ad (λ i hi=>?_) (λ c o e=>s5 _ _ (s04 _ _ e))
 ·match i,hi with
  |0,_=>exact n0
  |1,_=>exact none_of s0 n1
  |2,_=>exact none_of s02 n2
  |3,_=>exact none_of s03 n3
 ·match i,hi with
  |0,_=>exact s5 _ _ (s14 _ _ g0)
  |1,_=>exact s5 _ _ (s24 _ _ g1)
  |2,_=>exact s5 _ _ (s3 _ _ g2)
  |3,_=>exact s5 _ _ g3
inductive TxK (R:List Nat):Nat->Nat->Option (List Nat)->Prop
 |raw:TxK R 0 R.length (some R)
 |few {v:Nat}:R.length<v->TxK R 0 v none
 |more {v:Nat}:v<R.length->TxK R 0 v none
 |run:R.length=2->val R%4=0->TxK R 1 (bt R 0 6+1) (some (List.replicate (bt R 0 6+1) (bt R 6 8)))
 |odd:R.length=2->val R%4≠0->TxK R 1 (bt R 0 6+1) none
def gA (CHd cB:vR):Sp:=λ vs H Q E=>∃(a h x dx:vR) (R:List Nat) (u v y:Nat) (o:Option (List Nat)),vs=[.ref a,.ref h,.ref x]/\H a=some (.lst (R.map vN))/\(∀b∈R,b<256)/\H h=some (.ins CHd dx (fH u v y))/\v≤64/\TxK R u v o/\match o with
 |none=>∀H',Same H H'->E (.ref cB) none H'
 |some T=>∀l H',H l=none->Same H H'->H' l=some (.lst (T.map vN))->Q (.ref l) H'
theorem scTextIn:FnScope ["body","head","window","reader","text"] ["body","head","window"] (aj f7):=⟨rfl,rfl,rfl,Z8,rfl,Z8,Z8⟩
theorem jT (F:Fn K mg "text_in" f7 ["body","head","window"] f fd)(D:Rdr K mg C cN)(Z:Wal K mg C0 C1 C2 C3)(T:CH K mg CHd)(mB:mg "BadBody"=some (.ref cB))(xB:ExC K cB):
  FnOk P w K mg base (CXE P w) 33 f fd ["body","head","window"] (gA CHd cB):=by
 obtain⟨_,_,FI,bI,MI⟩:=D.init;obtain⟨_,_,N⟩:=D.need;obtain⟨_,_,Wy⟩:=Z.ways;obtain⟨_,_,R0⟩:=Z.read0;obtain⟨_,_,R1⟩:=Z.read1;obtain⟨_,_,Nm⟩:=Z.room;obtain⟨_,_,Ae⟩:=D.atend;obtain⟨_,_,L⟩:=D.left;obtain⟨_,_,O⟩:=D.ones;obtain⟨_,_,Ba⟩:=D.bits;refine F.F.okE scTextIn λ v9 A outer st H vs Q E hr h=>?_
 intro _;obtain⟨a,h,x,dx,R,u,v,y,o,rfl,ha,hb,hh,hv,hk,k⟩:=h;have hr6:Room 6 _:=hr.mono Z9;have hr3:Room 3 _:=hr.mono Z9;have hr1:Room 1 _:=hr.mono Z9;have GI:=lx (P:=P) (w:=w) (base:=base) FI N D.Y D.T;have GW:=jo (P:=P) (w:=w) (base:=base) Wy.F Z;have GA:=kz (P:=P) (w:=w) (base:=base) Ae.F Ba O L D.T D.Y.X;have fin:∀(z:Str) (p d l:vR) (t:Nat) (T':List Nat) (H3:Hp),H l=none->Same H H3->H3 l=some (.lst (T'.map vN))->ReadAt C H3 p d R t->(8*R.length-t<8/\val R%2^(8*R.length-t)=0->o=some T')->(¬(8*R.length-t<8/\val R%2^(8*R.length-t)=0)->o=none)->
   (pF (qk (qb (tB (gN C "at_end" (i4 C) [] E0 (d9 3) ee))) (iI cB E (tC (.str z))) on) (pJ (d9 4))) {nx:=λ _ H'=>Q .non H',rt:=Q} [some (.ref a),some (.ref h),some (.ref x),some (.ref p),some (.ref l)] H3:=by
  intro z p d l t T' H3 nl s3 h3 hR e1 e2;obtain⟨dp,hp⟩:=hR.ob;refine seq_g λ R1 g1=>⟨_,rfl,p,dp,_,rfl,hp,gW _ _ Z8 Z8,p,d,R,t,rfl,hR,λ H4 s4=>?_⟩
  refine⟨_,rfl,?_⟩;by_cases hc:8*R.length-t<8/\val R%2^(8*R.length-t)=0
  ·rw [rn hc.1,rn hc.2];refine aW (g1 _ _ ⟨_,rfl,?_⟩);have e:=e1 hc;subst e;exact k l H4 nl (s3.trans s4) (s4 _ _ h3)
  ·have e:(decide (8*R.length-t<8)&&decide (val R%2^(8*R.length-t)=0))=false:=by
    rcases Decidable.em (8*R.length-t<8) with q|q
    ·rw [rn q,sf λ z=>hc ⟨q,z⟩];rfl
    ·rw [sf q];rfl
   rw [e];refine bh ?_;have e:=e2 hc;subst e;exact k H4 (s3.trans s4)
 rcases(show u=0\/u=1 by cases hk<;>simp) with rfl|rfl
 ·have GR:=iH (P:=P) (w:=w) (mg:=mg) (base:=base) R0.F D;refine⟨_,ah (av (i:=3) scTextIn.nd (dU MI GI hr6 Z7 D.m bI .nil aw (ac (pv 0) ae)))
   (ah (jx rfl Z7 D.mN D.xN (λ pn σ0 E'=>ai (av (i:=4) scTextIn.nd (kM (ly (K:=K) rfl (dZ GW hr1 Z7 Wy.m Wy.F.kp Wy.b .nil aw) (dN (K:=K) rfl (pv 1) rfl) (λ _ _=>rfl)) Z.c0 R0.m GR hr R0.b .nil (jr rfl) (ac (pv 3) (ac (dN (K:=K) rfl (pv 1) rfl) (ac (pv 2) ae))))))
    (λ e G o us h1 h2 h3=>ai (fq rfl h1 h2 h3 Z7 mB xB aB)))
   (ah (aI (bD (ba (cx (pv 3) D.T.cl Ae.m GA hr3 Ae.b .nil aw))) (ai (aU aV (hr.hd Z9) Z7 mB xB aB)) ay)
   (ai (au (pv 4))))),?_⟩
  refine seq_g λ R1 g1=>⟨_,rfl,λ p dp np ndp nep=>?_⟩
  have s0:=bF (C:=C) np ndp;refine⟨p,dp,a,R,rfl,ad,s0 _ _ ha,hb,λ d H2 nd hR kp=>⟨rfl,g1 _ _ ?_⟩⟩;clear g1;have s2:Same H H2:=λ c o e=>kp _ _ (s0 _ _ e) (am e np)
  refine seq_g λ R2 g2=>⟨rfl,rfl,λ l os ds H3 nl no hl ho s3=>?_⟩
  have hh3:=s3 _ _ (s2 _ _ hh);have hR3:ReadAt C H3 p d R 0:=hR.keep λ c o e _=>s3 _ _ e
  refine⟨_,rfl,h,CHd,dx,_,_,rfl,hh3,T.cl,T.nW,pe _ _ _,l,_,_,_,rfl,rfl,SqL.of hl,aE (j:=0) rfl,?_⟩;refine⟨os 0,ds 0,[],rfl,ho 0 Z9,rfl,_,rfl,_,rfl,h,CHd,dx,_,_,rfl,hh3,T.cl,T.nC,pE _ _ _,_,rfl,os 0,p,d,_,R,v,rfl,hR3,hv,?_⟩;have sS:∀H4:Hp,(∀c o,H3 c=some o->c≠p->H4 c=some o)->Same H H4:=λ H4 kp4 c o e=>kp4 _ _ (s3 _ _ (s2 _ _ e)) (am e np)
  rcases uP R.length v with wa|hge
  ·refine .inr ⟨wa,λ H4 kp4=>⟨rfl,λ e vs ne=>?_⟩⟩;have:o=none:=by
    cases hk with
    |raw=>exact absurd wa (su _)
    |few=>rfl
    |more=>rfl
   subst this;exact k _ ((sS H4 kp4).trans (af ne))
  ·refine .inl ⟨hge,λ l' H4 nl' h4 hR4 kp4=>g2 _ _ (fin _ p d l' (8*v) _ H4 (none_of (s2.trans s3) nl') (sS H4 kp4) h4 hR4 (λ q=>?_) λ q=>?_)⟩
   ·cases hk with
    |raw=>rw [tR]
    |few=>omega
    |more=>omega
   ·cases hk with
    |raw=>exact absurd ⟨by omega,by rw [Nat.sub_self,Nat.pow_zero,Nat.mod_one]⟩ q
    |few=>rfl
    |more=>rfl
 ·have GR:=iB (P:=P) (w:=w) (mg:=mg) (base:=base) R1.F Nm D;refine⟨_,ah (av (i:=3) scTextIn.nd (dU MI GI hr6 Z7 D.m bI .nil aw (ac (pv 0) ae)))
   (ah (jx rfl Z7 D.mN D.xN (λ pn σ0 E'=>ai (av (i:=4) scTextIn.nd (bV (ly (K:=K) rfl (dZ GW hr1 Z7 Wy.m Wy.F.kp Wy.b .nil aw) (dN (K:=K) rfl (pv 1) rfl) (λ _ _=>rfl)) Z.c1 R1.m GR hr R1.b .nil aw (ac (pv 3) (ac (dN (K:=K) rfl (pv 1) rfl) (ac (pv 2) ae))))))
    (λ e G o us h1 h2 h3=>ai (fq rfl h1 h2 h3 Z7 mB xB aB)))
   (ah (aI (bD (ba (cx (pv 3) D.T.cl Ae.m GA hr3 Ae.b .nil aw))) (ai (aU aV (hr.hd Z9) Z7 mB xB aB)) ay)
   (ai (au (pv 4))))),?_⟩
  refine seq_g λ R1 g1=>⟨_,rfl,λ p dp np ndp nep=>?_⟩
  have s0:=bF (C:=C) np ndp;refine⟨p,dp,a,R,rfl,ad,s0 _ _ ha,hb,λ d H2 nd hR kp=>⟨rfl,g1 _ _ ?_⟩⟩;clear g1;have s2:Same H H2:=λ c o e=>kp _ _ (s0 _ _ e) (am e np)
  refine seq_g λ R2 g2=>⟨rfl,λ l os ds H3 nl no hl ho s3=>?_⟩
  have hh3:=s3 _ _ (s2 _ _ hh);have hR3:ReadAt C H3 p d R 0:=hR.keep λ c o e _=>s3 _ _ e
  obtain⟨h2,hvv⟩:R.length=2/\v=bt R 0 6+1:=by cases hk<;>exact⟨‹_›,rfl⟩
  refine⟨_,rfl,h,CHd,dx,_,_,rfl,hh3,T.cl,T.nW,pe _ _ _,l,_,_,_,rfl,rfl,SqL.of hl,aE (j:=1) rfl,?_⟩;refine⟨os 1,ds 1,[],rfl,ho 1 Z9,rfl,_,rfl,_,rfl,h,CHd,dx,_,_,rfl,hh3,T.cl,T.nC,pE _ _ _,_,rfl,os 1,p,d,_,R,v,rfl,hR3,h2,hvv,hv,λ l' H4 nl' h4 hR4 kp4=>?_⟩;refine g2 _ _ (fin _ p d l' 14 _ H4 (none_of (s2.trans s3) nl') (λ c o e=>kp4 _ _ (s3 _ _ (s2 _ _ e)) (am e np)) h4 hR4 (λ q=>?_) λ q=>?_)
  ·rw [h2] at q;cases hk with
   |run=>rfl
   |odd _ h=>exact absurd q.2 h
  ·rw [h2] at q;cases hk with
   |run _ h=>exact absurd ⟨Z9,h⟩ q
   |odd=>rfl
inductive BkK (B:List Nat):Nat ⊕ List Nat->Prop
 |head:NhK B none->BkK B (.inl 0)
 |check {u v y:Nat}:NhK B (some (u,v,y))->sld (B.take (B.length-2))≠B->BkK B (.inl 1)
 |body {u v y:Nat}:NhK B (some (u,v,y))->sld (B.take (B.length-2))=B->TxK ((B.take (B.length-2)).drop 3) u v none->BkK B (.inl 2)
 |ok {u v y:Nat} {T:List Nat}:NhK B (some (u,v,y))->sld (B.take (B.length-2))=B->TxK ((B.take (B.length-2)).drop 3) u v (some T)->BkK B (.inr T)
theorem NhK.uniq {B:List Nat}{o o':Option (Nat×Nat×Nat)}(h:NhK B o)(h':NhK B o'):o=o':=by
 have sh:∀{a b c:Nat} {r:List Nat},B.length<3->B=a::b::c::r->False:=λ h e=>by rw [e] at h;exact absurd h (Nat.not_lt.2 (sM 3 _))
 cases h with
 |ok e hd hl=>
  cases h' with
  |ok e' hd' hl'=>rw [e] at e';cases e';cases hd.uniq hd';rfl
  |short h=>exact(sh h e).elim
  |bad e' hd'=>rw [e] at e';cases e';cases hd.uniq hd'
  |tail e' hd'=>rw [e] at e';cases e';cases hd.uniq hd'
  |len e' hd' hl'=>rw [e] at e';cases e';cases hd.uniq hd';exact absurd hl hl'
 |short h=>
  cases h' with
  |ok e=>exact(sh h e).elim
  |_=>rfl
 |bad e hd=>
  cases h' with
  |ok e' hd'=>rw [e] at e';cases e';cases hd.uniq hd'
  |_=>rfl
 |tail e hd=>
  cases h' with
  |ok e' hd'=>rw [e] at e';cases e';cases hd.uniq hd'
  |_=>rfl
 |len e hd hl=>
  cases h' with
  |ok e' hd' hl'=>rw [e] at e';cases e';cases hd.uniq hd';exact absurd hl' hl
  |_=>rfl
theorem NhK.len5 {B:List Nat}{u v y:Nat}(h:NhK B (some (u,v,y))):5≤B.length/\v≤64:=by
 cases h with
 |ok e hd hl=>
  cases hd with
  |ok=>exact⟨by rw [hl];exact sM 5 _,ss _ Z9⟩
def e3 (a b c:vR):Nat->vR
 |0=>a
 |1=>b
 |_=>c
def hU (K:Frag)(cR cH cK cB:vR):Sp:=λ vs H Q E=>∃x y:V,vs=[x,y]/\
 ((Rf.NoRow K H x/\∀H',Same H H'->E (.ref cR) none H')\/(∃B,Rf.IsR H x B/\Rf.NoWin K H y 192/\∀H',Same H H'->E (.ref cR) none H')\/
  ∃B W o,Rf.IsR H x B/\B.length≤1000/\Rf.Win H y W/\W.length≤192/\BkK B o/\match o with
  | .inl i=>∀H',Same H H'->E (.ref (e3 cH cK cB i)) none H'
  | .inr T=>∀l H',H l=none->Same H H'->H' l=some (.lst (T.map vN))->Q (.ref l) H')
theorem scTakeBlock:FnScope ["row","before","block","window","head"] ["row","before"] (aj b9):=⟨rfl,rfl,rfl,Z8,rfl,Z8,Z8⟩
structure Tbk (K:Frag)(mg:Str->Option vS)(C CHd CR cR cH cK cB cN C0 C1 C2 C3:vR):Prop where
 H:Hds K mg C CHd cR cH
 D:Rdr K mg CR cN
 W:Wal K mg C0 C1 C2 C3
 ahead:∃f fd,Fn K mg "need_ahead" bz ["before"] f fd
 win:∃f fd,Fn K mg "need_window" bQ ["before","most"] f fd
 nhead:∃f fd,Fn K mg "need_head" dD ["block"] f fd
 headof:∃f fd,Fn K mg "head_of" dj ["row"] f fd
 bsize:∃f fd,Fn K mg "block_size" bU ["head"] f fd
 ends:∃f fd,Fn K mg "ends_in_check" fG ["row"] f fd
 wcheck:∃f fd,Fn K mg "with_check" bC ["row"] f fd
 textin:∃f fd,Fn K mg "text_in" f7 ["body","head","window"] f fd
 mB:mg "BadBody"=some (.ref cB)
 xB:ExC K cB
 mK:mg "BadCheck"=some (.ref cK)
 xK:ExC K cK
theorem gc {CC CR cR cH cK:vR}{dV:vS}(F:FunD K "take_block" "take_block" b9 dV f fd)(Z:Tbk K mg CC CHd CR cR cH cK cB cN C0 C1 C2 C3):
  FnOk P w K mg base (CXE P w) 34 f fd ["row","before"] (hU K cR cH cK cB):=by
 obtain⟨_,_,N,GN'⟩:=Z.H.N.ok;have GN:=GN' P w base;obtain⟨_,_,Ah⟩:=Z.ahead;obtain⟨_,_,Wn⟩:=Z.win;obtain⟨_,_,Nh⟩:=Z.nhead;obtain⟨_,_,Ho⟩:=Z.headof;obtain⟨_,_,Bs⟩:=Z.bsize;obtain⟨_,_,En⟩:=Z.ends;obtain⟨_,_,Wc⟩:=Z.wcheck;obtain⟨_,_,Ti⟩:=Z.textin;obtain⟨t3,h3⟩:=Z.H.three;obtain⟨t2,h2⟩:=Z.H.twoB;refine F.okE scTakeBlock λ v9 A outer st H vs Q E hr h=>?_
 intro _;obtain⟨x,y,rfl,h⟩:=h;have hr31:Room 31 _:=hr.mono Z9;have hr8:Room 8 _:=hr.mono Z9;refine⟨_,ah (av (i:=2) scTakeBlock.nd (ap GN hr31 Z7 N.m N.F.kp N.b .nil aV (ac (pv 0) ae)))
  (ah (av (i:=3) scTakeBlock.nd (ap (Rf.ok_needahead Ah Wn Z.H.N) hr Z7 Ah.m Ah.F.kp Ah.b .nil aV (ac (pv 1) ae)))
  (ah (av (i:=4) scTakeBlock.nd (ap (gx Nh Ho Bs Z.H) hr Z7 Nh.m Nh.F.kp Nh.b .nil aV (ac (pv 2) ae)))
  (ah (aI (bD (ba (ap (jR En Wc Z.H.Y) hr8 Z7 En.m En.F.kp En.b .nil aw (ac (pv 2) ae)))) (ai (aU aV (hr.hd Z9) Z7 Z.mK Z.xK aB)) ay)
  (ai (au (ap (jT Ti Z.D Z.W Z.H.T Z.mB Z.xB) hr Z7 Ti.m Ti.F.kp Ti.b .nil aV (ac (bi bw (pv 2) (bo (aR (v:=.int 3) Z7 h3 ⟨t3,rfl⟩)) (bo (gz ef (aR (v:=.int 2) Z7 h2 ⟨t2,rfl⟩)))) (ac (pv 4) (ac (pv 3) ae))))))))),?_⟩
 rcases h with⟨hN,k⟩|h
 ·exact⟨_,rfl,x,rfl,.inr ⟨hN,k _ (Same.refl H)⟩⟩
 obtain⟨B,hxB,hq⟩:∃B,Rf.IsR H x B/\((Rf.NoWin K H y 192/\∀H',Same H H'->E (.ref cR) none H')\/∃W o,B.length≤1000/\Rf.Win H y W/\W.length≤192/\BkK B o/\match o with
  | .inl i=>∀H',Same H H'->E (.ref (e3 cH cK cB i)) none H'
  | .inr T=>∀l H',H l=none->Same H H'->H' l=some (.lst (T.map vN))->Q (.ref l) H'):=by
  rcases h with⟨B,h1,h2,k⟩|⟨B,W,o,h1,r⟩
  ·exact⟨B,h1,.inl ⟨h2,k⟩⟩
  ·exact⟨B,h1,.inr ⟨W,o,r⟩⟩
 clear h;obtain⟨b,rfl,hB,hb⟩:=hxB;refine seq_g λ R g=>⟨_,rfl,_,rfl,.inl ⟨B,⟨b,rfl,hB,hb⟩,λ l hn=>g _ _ ?_⟩⟩
 clear g;have s1:=af (o:=.lst (B.map vN)) hn;have hll:(upd H l (.lst (B.map vN))) l=some (.lst (B.map vN)):=ad;generalize upd H l (.lst (B.map vN))=H1 at*;rcases hq with⟨hW,k⟩|⟨W,o,h1000,hW,hW2,hk,k⟩
 ·exact⟨_,rfl,y,rfl,.inr ⟨hW.same s1,λ H' s2=>k _ (s1.trans s2)⟩⟩
 have hW1:Rf.Win H1 y W:=by
  rcases hW with h|h
  ·exact .inl h
  ·exact .inr (h.same s1)
 refine seq_g λ R g=>⟨_,rfl,y,rfl,.inl ⟨W,hW1,hW2,λ lw nw=>g _ _ ?_⟩⟩
 clear g;have s2:=af (o:=.lst (W.map vN)) nw;have hl2:=s2 _ _ hll;have s12:=s1.trans s2;generalize upd H1 lw (.lst (W.map vN))=H2 at*;rcases(show NhK B none\/∃u v y,NhK B (some (u,v,y)) by cases hk<;>first|exact .inl ‹_›|exact .inr ⟨_,_,_, ‹_›⟩) with hh|⟨u,v,yy,hh⟩
 ·refine⟨_,rfl,l,B,none,rfl,hl2,hb,hh,λ H' s3=>?_⟩;have:o=.inl 0:=by
   cases hk with
   |head=>rfl
   |check h=>exact absurd (h.uniq hh) (by intro z;cases z)
   |body h=>exact absurd (h.uniq hh) (by intro z;cases z)
   |ok h=>exact absurd (h.uniq hh) (by intro z;cases z)
  subst this;exact k _ (s12.trans s3)
 refine seq_g λ R g=>⟨_,rfl,l,B,_,rfl,hl2,hb,hh,λ p dx H3 np s3 hp=>g _ _ ?_⟩
 clear g;have s13:=s12.trans s3;have hl3:=s3 _ _ hl2;refine seq_g λ R g=>⟨_,rfl,l,B,rfl,hl3,hb,h1000,λ H4 s4=>⟨_,rfl,?_⟩⟩
 have s14:=s13.trans s4;by_cases hc:sld (B.take (B.length-2))=B
 rotate_left
 ·rw [sf hc];refine bh ?_;have:o=.inl 1:=by
   cases hk with
   |head h=>exact absurd (h.uniq hh) (by intro z;cases z)
   |check h=>rfl
   |body _ h=>exact absurd h hc
   |ok _ h=>exact absurd h hc
  subst this;exact k _ s14
 rw [rn hc];refine aW (g _ _ ?_);clear g;obtain⟨h5,hv⟩:=hh.len5;refine⟨_,rfl,_,rfl,_,rfl,_,rfl,l,_,rfl,SqL.of (s4 _ _ hl3),λ l5 n5=>?_⟩;have ec:cutV (B.map vN) (some 3) (some (-2))=((B.take (B.length-2)).drop 3).map vN:=nK B h5;rw [ec];have s5:=af (o:=.lst (((B.take (B.length-2)).drop 3).map vN)) n5;refine⟨_,rfl,_,rfl,?_⟩;have hlk:∀o',TxK ((B.take (B.length-2)).drop 3) u v o'->o=(match o' with|none=>.inl 2|some T=>.inr T)->gA CHd cB [.ref l5,.ref p,.ref lw] (upd H4 l5 (.lst (((B.take (B.length-2)).drop 3).map vN))) Q E:=λ o' ht e=>by
  refine⟨l5,p,lw,dx,_,u,v,yy,o',rfl,ad,λ b z=>hb b (sG (tm z)),s5 _ _ (s4 _ _ hp),hv,ht,?_⟩;subst e;cases o' with
  |none=>exact λ H' s6=>k _ ((s14.trans s5).trans s6)
  |some T=>exact λ l' H' n' s6 h'=>k l' _ (none_of (s14.trans s5) n') ((s14.trans s5).trans s6) h'
 cases hk with
 |head h=>exact absurd (h.uniq hh) (by intro z;cases z)
 |check _ h=>exact absurd hc h
 |body h _ ht=>cases h.uniq hh;exact hlk _ ht rfl
 |ok h _ ht=>cases h.uniq hh;exact hlk _ ht rfl
end
end K23.Ck
set_option maxHeartbeats 2000000
namespace L2
open PySem PySem.Spec PySem.Calls PyProof.Rows QQ PySem.W
variable {cl:List (Str×vR)}{X:Cx}{f:vR}{Q:VK}{qual:Str}{E:XK}{D:vS->Prop}{scope:Scope}
def io (D:vS->Prop)(E:XK)(X:Cx)(N:List Str)(qual:Str)(scope:Scope)(cl:List (Str×vR))(f:vR)(cd:vS)(A:vX)(s:vT)(H:Hp):Cx:=
 (jp X N qual scope cl f cd A s H).wish λ e s'=>wpAny (model X.prog X.w) (A.deeper (envX qual scope s.heap.objs.size f cd cl)) (leaving (envX qual scope s.heap.objs.size f cd cl) e) (λ _ s''=>CXD D X.prog X.w X.stack H s E e s'') (λ e' s''=>CXD D X.prog X.w X.stack H s E e' s'') s'
def Lands (D:vS->Prop)(X:Cx)(E:XK):Prop:=∀(v8:List (vR×v1)) (σ:St) (H':Hp) (s':vT) (ea:vR) (cls:vS) (fp:List vR) (c:vS),Inv X v8 σ H' s'->D c->Fly s'.heap ea cls fp c->BkX X v8 H' ea c->(∀b∈fp,New X v8 H' b)->E cls none H'->X.xe (.ref ea) s'
theorem oo (hX:X.ex=[])(hst:X.stack=X.env::X.outer)(hf:X.env.frame=some X.env.locals)
  (hx:∀e s',wpAny (model X.prog X.w) X.A (leaving X.env (.ref e)) (λ _ s''=>CXD D X.prog X.w X.outer X.H₀ X.s₀ E (.ref e) s'') (λ e' s''=>CXD D X.prog X.w X.outer X.H₀ X.s₀ E e' s'') s'->X.xe (.ref e) s'):Lands D X E:=by
 intro v8 σ H' s' ea cls fp c I' dc F bk fr q;refine hx ea s' ?_;unfold leaving;refine re (land (hst▸I'.ok.frames) (hst▸I'.stack) hf F λ h' T F' hT f3 f4 f5=>?_);have J:=I'.landed fr (by rw [hst];exact f3) f4 f5;refine⟨ea,cls,[ea,T],H',rfl,J.os,J.bare,by have:=J.base;rw [hX] at this;exact this,J.hok,⟨c,dc,F',bk.1,λ b e=>(bk.2 b e).s0⟩,λ b hb=>?_,q⟩;rcases rY.mp hb with hb|hb
 ·subst hb;have z:=fr b F.here;exact⟨z.s0,z.h⟩
 ·rw [rJ] at hb;subst hb;refine⟨?_,I'.hok.fresh hT⟩;cases z:X.s₀.heap.get? b with
  |none=>rfl
  |some o=>
   obtain⟨o',r⟩:=I'.base.there b o z (by rw [hX];simp);exact absurd (rj (rk r) hT) (su _)
theorem Lands.passes (L:Lands D X E)(hX:X.ex=[]):bc (CXD D X.prog X.w) X E:=by
 intro v8 σ H s e s' I hx;obtain⟨ea,cls,fp,H',rfl,I',⟨c,dc,F,bk⟩,fr,q⟩:=I.thrown hx hX;exact L v8 σ H' s' ea cls fp c I' dc F bk fr q
theorem ma {N:List Str}{cd:vS}{A:vX}{s:vT}{H:Hp}:bc (CXD D X.prog X.w) (io D E X N qual scope cl f cd A s H) E:=
 Lands.passes (oo rfl rfl rfl λ _ _ z=>z) rfl
section
variable {X:Cx}{v8:List (vR × v1)}{σ:St}{H:Hp}{s:vT}
theorem j7 {y:Str}{Nc:List Str}{params:Arguments}{body:vZ}{js:List Nat}{c':vR}{pm ctv:vS}{te:TE}{k:Nat}{v:V}{u:vS}
  (I:Inv X v8 σ H s) (C:LCaps X y Nc scope cl js) (hr:Room (k+2) X.A) (hf:s.heap.get? f=some (kla_obj "<lambda>" qual params body scope cl pm c' ctv)) (hcd:s.heap.CodeRec (.ref c') qual)
  (hbind:∀u,bindArgs (kla_fn "<lambda>" qual params body scope cl pm (.ref c') ctv) ⟨[u],[]⟩=pure [(y,u)]) (r:RelV v u)
  (he:PE (io D E X (y::Nc) qual scope cl f (.ref c') X.A.in1 s H) body te) (hq:te (nj js σ v) H Q):
  wpAny (model X.prog X.w) X.A.in1 (call (.ref f) [u]) (EP X v8 σ Q) (λ e s'=>CXD D X.prog X.w X.stack H s E e s') s:=by
 have hd:X.A.in1.depth<recursionLimit:=(show Room (k+1) X.A.in1 from hr.in1).depth;refine u7 (kla_callFunE hd hf rfl C.co C.gen rfl hcd ?_);rw [hbind];refine rA (uZ C.nocell (λ z hz=>?_) (λ h₁ hns hsb=>⟨(I.ok.mod.nolimit.keeps I.bk).fresh _ hsb,?_⟩) C.kind)
 ·rw [rJ.mp hz];exact C.par
 show codeAny _ _ (.expr body (envX qual scope s.heap.objs.size f (.ref c') cl)) _ _;have hk₁:∀b o,s.heap.get? b=some o->h₁.get? b=some o:=λ b o e=>hsb.extBut b o (rL (rk e)) (rf _ e)
 refine kla_codeExpr (rV (he [] _ (nj js σ v) H Q ((mr I C r hns hk₁).wish _) hq) (λ w' s' hs=>?_) λ _ _ z=>z);obtain⟨v',H',J,r',q⟩:=hs;exact I.after ⟨v',H',J.os,J.bare,J.base,J.hok,r',q⟩
theorem kr {l:vR}{xs:List V}{of:v1}(I:Inv X v8 σ H s)(hX:X.ex=[])(hL:Lands D X E)(hh:X.A.handled=none)(hq:SqL X.K H l xs)(hne:0<xs.length)(hf:∀v,of.data≠ .cell v)(ff:FpOk X v8 H f)(hfo:s.heap.get? f=some of)
  (step:∀(pins':List (vR×v1)) (s':vT) (v:V) (u:vS),Inv X pins' σ H s'->s'.heap.get? f=some of->xs[0]?=some v->RelV v u->
   wpAny (model X.prog X.w) X.A.in1 (call (.ref f) [u]) (EP X pins' σ λ _ _=>False) (λ e s''=>CXD D X.prog X.w X.stack H s' E e s'') s'):
  wpAny (model X.prog X.w) X.A (call (.builtin "min") [.ref l] [(Str.ofString "key",.ref f)]) (EP X v8 σ Q) X.xe s:=by
 have hname:(toString "min"++toString ".loop":String)="min.loop":=Z9;obtain⟨its,rv,pl,hz⟩:=I.list hq;have hil:=rv.length;have hll:l<s.heap.objs.size:=by obtain⟨o,e,_⟩:=pl.isList;exact rk e
 refine kmk_tree PySem.F.kind_min PySem.F.plain_min PySem.F.entry_min (kmk_min_key _ _) ?_;show wpAny _ X.A.in1 (Builtin.Builtins.bindParams "min" ["key","default"] 0 ⟨[],[(Str.ofString "key",.ref f)]⟩>>= _) _ _ s;refine re (wpAny_of_eq (show Builtin.Builtins.bindParams "min" ["key","default"] 0 ⟨[],[(Str.ofString "key",.ref f)]⟩=pure [some (.ref f),none] from rfl) ?_);refine re (rA ?_);refine re (wpAny_pyIter_list pl.isList ?_);refine re (wpAny_newList ?_ (sy _));rw [hname];have hS:(s.heap.push {cls:=.type "list_iterator",data:=.fields #[.ref l,.int 0 0]}).objs.size=s.heap.objs.size+1:=size_push' ..;have hlI:l≠s.heap.objs.size:=rL hll;have hSI:(s.heap.push {cls:=.type "list_iterator",data:=.fields #[.ref l,.int 0 0]}).objs.size≠s.heap.objs.size:=by rw [hS];exact uc (uu _)
 refine rA ⟨plainId_quiet PySem.F.plain_min_loop _,?_⟩;have hk0:∀b o,s.heap.get? b=some o->((s.heap.push {cls:=.type "list_iterator",data:=.fields #[.ref l,.int 0 0]}).push (seqObj "list" #[] 0)).get? b=some o:=λ b o e=>rf _ (rf _ e)
 have gI:((s.heap.push {cls:=.type "list_iterator",data:=.fields #[.ref l,.int 0 0]}).push (seqObj "list" #[] 0)).get? s.heap.objs.size=some {cls:=.type "list_iterator",data:=.fields #[.ref l,.int 0 0]}:=
  rf _ (rF _ rfl)
 have gS:((s.heap.push {cls:=.type "list_iterator",data:=.fields #[.ref l,.int 0 0]}).push (seqObj "list" #[] 0)).get? (s.heap.push {cls:=.type "list_iterator",data:=.fields #[.ref l,.int 0 0]}).objs.size=some (seqObj "list" #[] 0):=rF _ rfl;have fI:FpOk X v8 H s.heap.objs.size:=I.fpOk (rB _) (I.hok.fresh (rB _));have fS:FpOk X v8 H (s.heap.push {cls:=.type "list_iterator",data:=.fields #[.ref l,.int 0 0]}).objs.size:=I.fpOk (by rw [hS];exact ut _ 1) (I.hok.fresh (by rw [hS];exact ut _ 1));have nfI:f≠s.heap.objs.size:=rL (rk hfo);have nfS:f≠(s.heap.push {cls:=.type "list_iterator",data:=.fields #[.ref l,.int 0 0]}).objs.size:=by rw [hS];exact rL (vG (rk hfo))
 have J0:Inv X v8 σ H {s with heap:=(s.heap.push {cls:=.type "list_iterator",data:=.fields #[.ref l,.int 0 0]}).push (seqObj "list" #[] 0)}:=I.kept (t':=s.toks) hk0;have hl0:((s.heap.push {cls:=.type "list_iterator",data:=.fields #[.ref l,.int 0 0]}).push (seqObj "list" #[] 0)).IsList l its.toArray:=by
  obtain⟨o,e,r⟩:=pl.isList;exact⟨o,hk0 _ _ e,r⟩
 have hf0:=hk0 _ _ hfo;generalize (s.heap.push {cls:=.type "list_iterator",data:=.fields #[.ref l,.int 0 0]}).objs.size=S at*;generalize (s.heap.push {cls:=.type "list_iterator",data:=.fields #[.ref l,.int 0 0]}).push (seqObj "list" #[] 0)=h0 at*;generalize s.heap.objs.size=Ia at*;have W:=Walks.list (prog:=X.prog) (w:=X.w) (A:=X.A.in1) hh Ia l hlI its.toArray;have hsz:its.toArray.size=its.length:=rh ..;refine vk PySem.F.entry_min_loop ?_;rw [Around.under_plainId PySem.F.plain_min_loop _];show wpAny _ X.A.in1 (seqItems? (.ref _)>>= _) _ _ _;refine re (wpAny_seqItems gS rfl ?_);show wpAny _ X.A.in1 (tryCatch (pyNext (.ref Ia)) _>>= _) _ _ _;refine re (wpAny_tryCatch (W.item 0 _ _ _ (by rw [hsz];exact tX hne hil) ⟨⟨_,gI,rfl,rfl⟩,hl0⟩ λ u h' tk' hP hst' hk'=>?_));have hu:its[0]?=some u:=by simpa using hP
 obtain⟨oI',hoI',hoc,hod⟩:=id hst'.1;obtain⟨v,hv,rvu⟩:∃v,xs[0]?=some v/\RelV v u:=by
  obtain⟨u',e3,r3⟩:=rv.get (i:=0) (x:=xs[0]) (rT hne);rw [hu] at e3;cases e3;exact⟨_,rT hne,r3⟩
 have J1:Inv X v8 σ H {s with heap:=h',toks:=tk'}:=Inv.turned (s:={s with heap:=h0}) (it:=Ia) J0 (λ b o n e=>hk' b o (by simpa using n) e) fI.1 fI.2.1 fI.2.2.2.1 fI.2.2.2.2.1 fI.2.2.2.2.2;have hS':=hk' S _ (by simpa using hSI) gS;have hf':=hk' f _ (by simpa using nfI) hf0;have Jp:=J1.pinned (fp:=[Ia,S,f]) (λ b hb=>by
  rcases rY.mp hb with rfl|hb
  ·exact fI
  ·rcases rY.mp hb with rfl|hb
   ·exact fS
   ·rw [rJ.mp hb];exact ff) (λ b hb=>by
  rcases rY.mp hb with rfl|hb
  ·exact⟨_,hoI',λ v z=>by rw [hod] at z;cases z⟩
  ·rcases rY.mp hb with rfl|hb
   ·exact⟨_,hS',iy⟩
   ·rw [rJ.mp hb];exact⟨_,hf',hf⟩)
 show wpAny _ X.A.in1 (tryCatch (holding [u] (call (.ref f) [u])) _>>= _) _ _ _;refine re (wpAny_tryCatch (so (rV (step _ _ v u Jp hf' hv rvu) (λ x s'' z9=>by obtain⟨_,_,_,_,z⟩:=z9;exact z.elim) λ e s'' hx=>?_)));obtain⟨ea,cls,fp,H2,rfl,J2p,⟨c,dc,F,bk,bn⟩,nw,q⟩:=Jp.thrown hx hX;have mS:=aX (fp:=[Ia,S,f]) (b:=S) Z6 hS';obtain⟨gS2,nS⟩:s''.heap.get? S=_/\H2 S=none:=let z:=J2p.pin (S,_) (rz _ (rz _ mS));⟨z.1,z.2.1⟩;have sub:∀p∈X.pn++v8,p∈X.pn++(v8++dY [Ia,S,f] h'):=λ p hp=>by
  rcases sL.mp hp with z|z
  ·exact sg _ z
  ·exact rz _ (sg _ z)
 refine re ?_;refine wpAny_updateSeq gS2 rfl (re (wpAny_letGo (wpAny_throw ?_)));exact hL v8 σ H2 _ ea cls fp c (J2p.unpinned.turn (fS.at nS)) dc (F.keep λ b hb o e=>by
  show(s''.heap.update S _).get? b=_;rw [Heap.get?_update_ne _ _ _ _ λ z=>(nw b hb).pin _ (rz _ (rz _ mS)) z.symm];exact e) ⟨bk,λ b e=>let n:=bn b e;⟨n.s0,n.loc,n.cel,λ p hp=>n.pin p (sub p hp)⟩⟩ (λ b hb=>let n:=nw b hb;⟨n.s0,n.h,n.loc,n.cel,λ p hp=>n.pin p (sub p hp)⟩) q
end
def qc (K:Frag)(P:vR)(pos:Pos)(qual:Str)(js:List Nat)(te:TE)(t:TA):TE:=λ σ H Q=>t σ H λ zs H1=>∃(p:vR) (xs:List V) (v:V),zs=[.ref p]/\SqL K H1 p xs/\xs[0]?=some v/\TbOk P pos qual H1/\(∀c xs,SqL K H1 c xs->c≠P)/\
 ∀H2,lD P H1 H2->TbOk P pos qual H2->te (nj js σ v) H2 λ _ _=>False
section
variable {X:Cx}{k:Nat}{e body:vZ}{te:TE}{p kp pos lpos:Pos}{y:Str}{Nc:List Str}{scope:Scope}{params:Arguments}{cl:List (Str × vR)}{js:List Nat}{P c:vR}
theorem ny {t:TA}(hX:X.ex=[])(hL:Lands D X E)(hn:X.A.handled=none)(hr:Room (k+2) X.A)(hg:Gl X "min")(hm:X.mg "min"=none)(C:LCaps X y Nc scope cl js)(hcode:X.env.code=.ref c)(hC:CodeHd X.base c P)
  (hbm:∃bm o,X.mg "__builtins__"=some (.ref bm)/\bm≠builtinsNs/\bm≠mainGlobals/\X.base.get? bm=some o/\o.cls=.type "module"/\o.dict=some builtinsNs/\o.data=.plain)
  (hdef:defaultsOf params X.env=([],[])) (hbind:∀(pm cd ct u:vS),bindArgs (kla_fn "<lambda>" (X.env.qual++"<lambda>") params body scope cl pm cd ct) ⟨[u],[]⟩=pure [(y,u)])
  (he:∀f c' s H,PE (io D E X (y::Nc) (X.env.qual++"<lambda>") scope cl f (.ref c') X.A.in1 s H) body te) (ha:PA X [e] t)
  (hee:autoParam (backTo pos (starEach (e:: []) X.env)=(false,eval e X.env)::backTo pos (starEach [] X.env)) Z0) (hplain:autoParam ((backTo pos (starEach (e:: []) X.env)).any (·.1)=false) Z0)
  (hall:autoParam ((backToKw pos (keywordEach [⟨some "key",.Lambda params body scope lpos,kp⟩] X.env)).all (·.1.isSome)=true) Z0)
  (hkw:autoParam ((backToKw pos (keywordEach [⟨some "key",.Lambda params body scope lpos,kp⟩] X.env)).any (·.1.isNone)=false) Z0)
  (hfm:autoParam ((backToKw pos (keywordEach [⟨some "key",.Lambda params body scope lpos,kp⟩] X.env)).filterMap (·.1)=[("key":Str)]) Z0):
  PE X (.Call (.Name "min" p) [e] [⟨some "key",.Lambda params body scope lpos,kp⟩] pos) (qc X.K P lpos (X.env.qual++"<lambda>") js te t):=by
 intro v8 s σ H Q I h;refine sI (ld_blt I hg hm (show bootBuiltins "min"=some (.builtin "min") from Z8) ?_);refine PyProof.Rows.callWith_kw (e:=e) (rest:=[]) (thn (ha pos v8 s σ H _ I h) λ us s1 z9=>?_) hee hplain hall hkw;obtain⟨vs,H1,I1,r1,q1⟩:=z9;obtain⟨l,xs,v0,rfl,hq,hne,hT,hnP,q⟩:=q1;have hne0:0<xs.length:=(rm.mp hne).1;obtain⟨u,rfl,ru⟩:=fo r1;obtain rfl:u=Value.ref l:=ru;refine kws_cons (lf I1 hT hcode hC hbm hdef C.clos λ f c' pm ctv H2 s2 I2 ff hfo hcd hrec hT2 sT=>kws_nil ?_);rw [hfm];have qs:=q H2 sT hT2;show wpAny _ _ (call (.builtin "min") [.ref l] [(Str.ofString "key",.ref f)]) _ _ s2;have hq2:SqL X.K H2 l xs:=by
  rcases hq with hq|hq
  ·rcases hq with z|⟨o,z⟩
   ·exact .inl (.inl (sT _ _ (hnP l xs (.inl (.inl z))) z))
   ·exact .inl (.inr ⟨o,sT _ _ (hnP l xs (.inl (.inr ⟨o,z⟩))) z⟩)
  ·exact .inr hq
 refine kr I2 hX hL hn hq2 hne0 (λ v z=>by cases z) ff hfo (λ pins' s' v u J hfo' hv ru=>?_);obtain rfl:v0=v:=rH (hne.symm.trans hv);obtain⟨oc,vs',t,hc,d1,d2⟩:=hrec;have hoc:s'.heap.get? c'=some oc:=(J.hok _ _ hc).1;exact j7 J C hr hfo' ⟨c',oc,vs',t,rfl,hoc,d1,d2⟩ (λ u=>hbind _ _ _ u) ru (he f c' s' H2) qs
end
end L2
set_option maxHeartbeats 4000000
namespace K23
open PySem L2
variable {c:vR}{H H':Hp}{x:V}
def SameN (H H':Hp):Prop:=∀c o,H c=some o->(∀ps,o≠ .tbl ps)->H' c=some o
theorem SameN.trans {H'':Hp}(a:SameN H H')(b:SameN H' H''):SameN H H'':=λ c o e n=>b c o (a c o e n) n
theorem _root_.L2.Same.n (a:Same H H'):SameN H H':=λ c o e _=>a c o e
theorem SameN.lst {xs:List V}(s:SameN H H')(e:H c=some (.lst xs)):H' c=some (.lst xs):=s _ _ e (by intro ps z;cases z)
theorem SameN.ins {C dx:vR}{fs:List (Str×V)}(s:SameN H H')(e:H c=some (.ins C dx fs)):H' c=some (.ins C dx fs):=s _ _ e (by intro ps z;cases z)
namespace Rf
section
variable {K:Frag}{H H':Hp}
theorem TyOf.sameN {t:vS}(s:SameN H H')(h:TyOf K H x t):TyOf K H' x t:=by
 cases h with
 |non=>exact .non
 |bl y=>exact .bl y
 |int i=>exact .int i
 |str y=>exact .str y
 |flt y=>exact .flt y
 |lst e=>exact .lst (s _ _ e (by intro ps z;cases z))
 |frz e=>exact .frz (s _ _ e (by intro ps z;cases z))
 |tup e=>exact .tup (s _ _ e (by intro ps z;cases z))
 |dK e=>exact .dK (s _ _ e (by intro ps z;cases z))
 |dT e=>exact .dT (s _ _ e (by intro ps z;cases z))
 |ins e cl ha hn htk hm=>exact .ins (s _ _ e (by intro ps z;cases z)) cl ha hn htk hm
theorem NoInt.sameN (s:SameN H H')(h:NoInt K H x):NoInt K H' x:=by
 obtain⟨t,b,c,ty,r⟩:=h;exact⟨t,b,c,TyOf.sameN s ty,r⟩
theorem NoRow.sameN (s:SameN H H')(h:NoRow K H x):NoRow K H' x:=by
 rcases h with⟨t,ty,r⟩|⟨a,xs,j,y,e,hl,hg,hj,hy⟩
 ·exact .inl ⟨t,TyOf.sameN s ty,r⟩
 ·refine .inr ⟨a,xs,j,y,e,s.lst hl,hg,hj,?_⟩;rcases hy with hy|⟨hy,r⟩
  ·exact .inl hy
  ·exact .inr ⟨hy.sameN s,r⟩
theorem IsR.sameN {B:List Nat}(h:IsR H x B)(s:SameN H H'):IsR H' x B:=by
 obtain⟨a,e,h1,h2⟩:=h;exact⟨a,e,s.lst h1,h2⟩
theorem NoWin.sameN {m:Nat}(h:NoWin K H x m)(s:SameN H H'):NoWin K H' x m:=by
 rcases h with⟨h1,h⟩|⟨W,h,r⟩
 ·exact .inl ⟨h1,h.sameN s⟩
 ·exact .inr ⟨W,h.sameN s,r⟩
theorem NoSg.sameN {y:V}(h:NoSg K H x y)(s:SameN H H'):NoSg K H' x y:=by
 rcases h with h|⟨T,h,r⟩
 ·exact .inl (h.sameN s)
 ·refine .inr ⟨T,h.sameN s,?_⟩;rcases r with r|r|⟨r1,r2⟩
  ·exact .inl r
  ·exact .inr (.inl r)
  ·exact .inr (.inr ⟨r1,r2.sameN s⟩)
end
end Rf
end K23
namespace K23.Ck
open PySem L2 QQ W17 W16 BP
seal PE PA PS PSs PT PW PG PI
variable {Tb a c f fB fw:vR}{q x:Str}{fd fdB fdw:vW}{dB dV:vS}{H:Hp}{p:Pos}
theorem lookup_two {y z:Str}{b:vR}(h:List.lookup x [(y,a),(z,b)]=some c):(x=y/\c=a)\/(x=z/\c=b):=by
 unfold List.lookup at h
 split at h
 ·rename_i e
  cases h;exact .inl ⟨by simpa using e,rfl⟩
 ·unfold List.lookup at h
  split at h
  ·rename_i e
   cases h;exact .inr ⟨by simpa using e,rfl⟩
  ·cases h
structure Put (K:Frag)(mg:Str->Option vS)(B cR C0 C1 C2 C3:vR):Prop where
 N:Rf.Nr K mg cR
 W:Wal K mg C0 C1 C2 C3
 signs:∃f fd,Fn K mg "need_signs" cV ["text","before"] f fd
 ahead:∃f fd,Fn K mg "need_ahead" bz ["before"] f fd
 win:∃f fd,Fn K mg "need_window" bQ ["before","most"] f fd
 tell:∃f fd,Me K C0 "tell" "RawWay.tell" er ["self","bits","text","before"] f fd
 cost:∃f fd,Me K C0 "cost" "Way.cost" kc ["self","text","before"] f fd
 CB:CB K mg B
 mB:mg "BitRow"=some (.ref B)
 init:∃f fd,Fun K "__init__" "BitRow.__init__" iK f fd/\Binds K fd ["self"] []/\Mk K B f
section
variable {B cR C0 C1 C2 C3:vR}
def nU (K:Frag)(cR:vR):Sp:=λ vs H _ E=>∃(o p:vR) (x y:V),vs=[.ref o,.ref p,x,y]/\Rf.NoSg K H x y/\∀H',Same H H'->E (.ref cR) none H'
theorem scTellE:FnScope ["self","bits","text","before","sign"] ["self","bits","text","before"] (aj er):=⟨rfl,rfl,rfl,Z8,rfl,Z8,Z8⟩
theorem kt (F:Fun K "tell" "RawWay.tell" er f fd)(Z:Put K mg B cR C0 C1 C2 C3):FnOk P w K mg base (CXE P w) 35 f fd ["self","bits","text","before"] (nU K cR):=by
 obtain⟨_,_,Sg⟩:=Z.signs;obtain⟨_,_,Ah⟩:=Z.ahead;obtain⟨_,_,Wn⟩:=Z.win;refine F.okE scTellE λ v9 A outer st H vs Q E hr h=>?_
 intro _;obtain⟨o,p,x,y,rfl,hN,k⟩:=h;refine⟨_,ai (cm PassesOwn.leaving rfl (bS (ap (Rf.ok_needsigns Sg Ah Wn Z.N) hr Z7 Sg.m Sg.F.kp Sg.b .nil aV (ac (pv 2) (ac (pv 3) ae)))) (a8 (i:=4) scTellE.nd) fk),?_⟩;exact⟨_,rfl,_,rfl,x,y,rfl,hN,k⟩
def mi (K:Frag)(C0 cR:vR):Sp:=λ vs H _ E=>∃(o dx:vR) (x y:V),vs=[.ref o,x,y]/\H o=some (.ins C0 dx [])/\Rf.NoSg K H x y/\∀H',Same H H'->E (.ref cR) none H'
theorem scCostE:FnScope ["self","text","before","bits"] ["self","text","before"] (aj kc):=⟨rfl,rfl,rfl,Z8,rfl,Z8,Z8⟩
theorem kS (F:Fun K "cost" "Way.cost" kc f fd)(Z:Put K mg B cR C0 C1 C2 C3):FnOk P w K mg base (CXE P w) 36 f fd ["self","text","before"] (mi K C0 cR):=by
 obtain⟨_,_,Te⟩:=Z.tell;obtain⟨_,_,FI,bI,MI⟩:=Z.init;refine F.okE scCostE λ v9 A outer st H vs Q E hr h=>?_
 intro _;obtain⟨o,dx,x,y,rfl,ho,hN,k⟩:=h;have hr2:Room 2 _:=hr.mono Z9;refine⟨_,ah (av (i:=3) scCostE.nd (ke MI (lJ (mg:=mg) FI Z.CB) hr2 Z7 Z.mB bI .nil aw))
  (ah (cF (bV (pv 0) Z.W.c0 Te.m (kt Te.F Z) hr Te.b .nil aV (ac (pv 3) (ac (pv 1) (ac (pv 2) ae)))))
  (ai bR)),?_⟩
 refine λ p dp np nd ne=>?_
 have s0:=bF (C:=B) np nd;refine⟨p,dp,rfl,ad,λ d H2 nd2 hB kp=>⟨rfl,?_⟩⟩;have s2:Same H H2:=λ c o e=>kp _ _ (s0 _ _ e) (am e np)
 exact⟨_,rfl,o,dx,[],rfl,s2 _ _ ho,rfl,_,rfl,_,rfl,_,rfl,o,p,x,y,rfl,hN.sameN s2.n,λ H' s3=>k _ (s2.trans s3)⟩
structure FunC (K:Frag)(x qual:Str)(st:v7)(dV:vS)(c f:vR)(fd:vW):Prop where
 ex:∃(oc:vS) (od:Option vR) (kV doc pm:vS) (an:Option vR) (ct:vS) (osl:Array (Option vS)),
  fd=fnOf x qual (aP st) (aL st) (aj st) dV kV doc pm an (.ref c) ct/\K.lookup f=some ⟨oc,od,.func fd,osl⟩/\codeIn K (.ref c) qual=true
 kp:keepIn K (.ref f)=true
theorem FunC.okE {D:vS->Prop}{qual:Str}{st:v7}{N ps:List Str}{k:Nat}{sp:Sp}(F:FunC K x qual st dV c f fd)(S:FnScope N ps (aj st))
  (hb:∀(A:vX) (outer:List Env) (s:vT) (H:Hp) (vs:List V) (Q:VK) (E:XK),Room k (A.deeper (PyProof.Rows.envOfC qual (aj st) s.heap.objs.size f (.ref c)))->sp vs H Q E->
   let X:=(cxOf (CXD D P w) P w K mg base N qual (aj st) f (.ref c) A outer s H E);∃t,PSs X (aL st) t/\t {nx:=λ _ H'=>Q .non H',rt:=Q} (start N vs) H) (len:autoParam (∀vs H Q E,sp vs H Q E->vs.length=ps.length) ZV):FnOk P w K mg base (CXD D P w) (k+1) f fd ps sp:=by
 obtain⟨oc,od,kV,doc,pm,an,ct,osl,rfl,lk,hcd⟩:=F.ex;exact gE lk hcd S len λ A outer s H vs Q E hr hsp=>hb A outer s H vs Q E hr hsp
abbrev pw:Pos:=⟨508,27,508,61⟩
abbrev TbB (Tb:vR)(H:Hp):Prop:=TbOk Tb pw ("best_way.<locals>."++"<lambda>") H
theorem _root_.L2.TbOk.ne {o:HO}(h:TbOk Tb p q H)(e:H a=some o)(hn:∀ps,o≠ .tbl ps):a≠Tb:=by
 rintro rfl;obtain⟨ps,e',_⟩:=h;rw [e] at e';exact hn ps (rH e')
theorem _root_.L2.TbOk.n {H':Hp}(h:TbOk Tb p q H)(s:lD Tb H H'):SameN H H':=λ c o e n=>s c o (h.ne e n) e
theorem _root_.L2.TbOk.sq {xs:List V}(h:TbOk Tb p q H)(hK:K.lookup Tb=none)(e:SqL K H a xs):a≠Tb:=by
 rcases e with(e|⟨o,e⟩)|⟨o,its,n,e,_⟩
 ·exact h.ne e (by intro ps z;cases z)
 ·exact h.ne e (by intro ps z;cases z)
 ·rintro rfl;rw [hK] at e;cases e
def lO (K:Frag)(Tb cR:vR):Sp:=λ vs H _ E=>∃(x y:V),vs=[x,y]/\Rf.NoSg K H x y/\TbB Tb H/\∀H',SameN H H'->TbB Tb H'->E (.ref cR) none H'
theorem oy:FnScope ["text","before"] ["text","before"] (aj cu):=⟨rfl,rfl,rfl,Z8,rfl,Z8,Z8⟩
theorem mM (F:FunC K "best_way" "best_way" cu dV c f fd)(Z:Put K mg B cR C0 C1 C2 C3)(hm:mg "min"=none)(hC:CodeHd base c Tb)(hB:BmAt mg base)(hK:K.lookup Tb=none):
  FnOk P w K mg base (CXE P w) 39 f fd ["text","before"] (lO K Tb cR):=by
 obtain⟨_,_,Wy⟩:=Z.W.ways;obtain⟨_,_,Co⟩:=Z.cost;refine F.okE oy λ A outer st H vs Q E hr h=>?_
 intro _;obtain⟨x,y,rfl,hN,hT,k⟩:=h;have hr1:Room 1 _:=hr.mono Z9;have hn:=hr.hd Z9;refine⟨_,ai (au (ny (k:=36) (y:="way") (Nc:=["text","before"]) (js:=[0,1]) (cl:=[("text",st.heap.objs.size+1),("before",st.heap.objs.size+1+1)]) (P:=Tb) (c:=c) (D:=λ _=>True) (E:=E) rfl (oo rfl rfl rfl λ _ _ z=>z) hn hr Z7 hm
  ⟨rfl,rfl,rfl,Z8,rfl,Z7,λ x c h=>?c0,λ x hx=>?c1,rfl,λ i x j h1 h2=>?c2⟩ rfl hC hB Z7 (λ pm cd ct u=>Z7)
  (λ f' c' s H=>bV (pv 0) Z.W.c0 Co.m (kS Co.F Z) (hr.in1.deeper _) Co.b .nil ma (ac (pv 1) (ac (pv 2) ae)))
  (ac (dZ (jo Wy.F Z.W) hr1 Z7 Wy.m Wy.F.kp Wy.b .nil aw) ae))),?_⟩
 case c0=>
  rcases lookup_two h with⟨rfl,rfl⟩|⟨rfl,rfl⟩<;>rfl
 case c1=>
  rcases hx with hx|hx
  ·have m':(x,NameKind.cell)∈([("way",.local),("before",.free),("text",.free)]:List (Str×NameKind)):=rX hx;simp at m'
  ·have m':(x,NameKind.free)∈([("way",.local),("before",.free),("text",.free)]:List (Str×NameKind)):=rX hx;have e:x="before"\/x="text":=by simpa using m'
   rcases e with rfl|rfl<;>exact⟨_,rfl⟩
 case c2=>rcases slotsL h1 h2 with⟨rfl,rfl⟩|⟨rfl,rfl⟩<;>exact⟨rfl,rfl,rfl,λ c h=>h⟩
 refine⟨rfl,λ l os ds H1 nl no hl ho s1=>⟨l,_,_,rfl,.inl (.inl hl),rfl,hT.same s1,λ c xs h=>(hT.same s1).sq hK h,λ H2 sT hT2=>?_⟩⟩;have hT1:=hT.same s1;have n2:SameN H H2:=s1.n.trans (hT1.n sT);exact⟨_,rfl,os 0,ds 0,[],rfl,(hT1.n sT).ins (ho 0 Z9),rfl,_,rfl,_,rfl,os 0,ds 0,x,y,rfl,(hT1.n sT).ins (ho 0 Z9),hN.sameN n2,λ H' s3=>k _ (n2.trans s3.n) (hT2.same s3)⟩
theorem scPutBlock:FnScope ["text","before","way","bits","body","head"] ["text","before"] (aj cJ):=⟨rfl,rfl,rfl,Z8,rfl,Z8,Z8⟩
theorem gG (F:FunD K "put_block" "put_block" cJ dV f fd)(Bw:FunC K "best_way" "best_way" cu dB c fB fdB)(mW:mg "best_way"=some (.ref fB))(bW:Binds K fdB ["text","before"] [])(Z:Put K mg B cR C0 C1 C2 C3)(hm:mg "min"=none)(hC:CodeHd base c Tb)(hB:BmAt mg base)(hK:K.lookup Tb=none):
  FnOk P w K mg base (CXE P w) 40 f fd ["text","before"] (lO K Tb cR):=by
 refine F.okE scPutBlock λ v9 A outer st H vs Q E hr h=>?_
 intro _;obtain⟨x,y,rfl,hN,hT,k⟩:=h;refine⟨_,ah (av (i:=2) scPutBlock.nd (ap (mM Bw Z hm hC hB hK) hr Z7 mW Bw.kp bW .nil aV (ac (pv 0) (ac (pv 1) ae)))) fk,?_⟩;exact⟨_,rfl,_,rfl,x,y,rfl,hN,hT,k⟩
end
abbrev gl:v7:=top 119
abbrev kb:v7:=top 120
def wd:Nat->Str
 |0=>Str.ofString "head"
 |1=>Str.ofString "check"
 |_=>Str.ofString "body"
structure EC (cs:List vR)(cR cH cK cB:vR):Prop where
 r:cs[0]?=some cR
 b:cs[9]?=some cB
 h:cs[10]?=some cH
 k:cs[11]?=some cK
theorem EC.e3 {cs:List vR}{cR cH cK cB:vR}(h:EC cs cR cH cK cB)(i:Nat):∃j,cs[j]?=some (e3 cH cK cB i)/\WdI j (wd i):=by
 rcases i with _|_|i
 ·exact⟨10,h.h,.inr (.inr (.inl ⟨rfl,rfl⟩))⟩
 ·exact⟨11,h.k,.inr (.inr (.inr ⟨rfl,rfl⟩))⟩
 ·exact⟨9,h.b,.inr (.inl ⟨rfl,rfl⟩)⟩
def TkV (K:Frag)(H:Hp)(x y:V)(o:Str ⊕ List Nat):Prop:=
 ((Rf.NoRow K H x\/∃B,Rf.IsR H x B/\Rf.NoWin K H y 192)/\o=.inl (Str.ofString "row"))\/
 ∃B W r,Rf.IsR H x B/\B.length≤1000/\Rf.Win H y W/\W.length≤192/\BkK B r/\o=r.elim (λ i=>.inl (wd i)) .inr
section
variable {C CHd CR cR cH cK cB cN C0 C1 C2 C3 cP:vR}{cs:List vR}
def lI (K:Frag):Sp:=λ vs H Q _=>∃(x y:V) (o:Str ⊕ List Nat),vs=[x,y]/\TkV K H x y o/\match o with
 | .inl z=>∀t H',Same H H'->H' t=some (.tup [.str z])->Q (.ref t) H'
 | .inr T=>∀lo l H',Same H H'->H' lo=some (.lst [.ref l])->H' l=some (.lst (T.map vN))->Q (.ref lo) H'
theorem scLTaken:FnScope ["_law_row","_law_window","_law_e"] ["_law_row","_law_window"] (aj gl):=⟨rfl,rfl,rfl,Z8,rfl,Z8,Z8⟩
theorem jA {fT:vR}{fdT:vW}(F:Fn K mg "_law_taken" gl ["_law_row","_law_window"] f fd)(Tb:FunD K "take_block" "take_block" b9 dV fT fdT)(mT:mg "take_block"=some (.ref fT))(bT:Binds K fdT ["row","before"] [])
  (Z:Tbk K mg C CHd CR cR cH cK cB cN C0 C1 C2 C3) (Wd:Fn K mg "_law_word" eO ["_law_e"] fw fdw) (Y:Ers K mg cP cs) (ec:EC cs cR cH cK cB):FnOk P w K mg base CX0 35 f fd ["_law_row","_law_window"] (lI K):=by
 have GW:=gk (P:=P) (w:=w) (base:=base) Wd Z.H.N.Y.X Y;refine F.F.ok scLTaken λ v9 A outer st H vs Q E hr h=>?_
 intro _;obtain⟨x,y,o,rfl,h,k⟩:=h;refine⟨_,ai (im (i:=2) scLTaken.nd rfl rfl Z7 Y.mP Y.xP rfl rfl rfl
   (λ pn σ0 E=>ai (au (aq (ac (d5 (gc Tb Z) hr Z7 mT Tb.kp bT .nil (jr rfl) (ac (pv 0) (ac (pv 1) ae))) ae))))
   (λ e G=>ai (au (ap GW (hr.hand Z9 Z9) Z7 Wd.m Wd.F.kp Wd.b .nil aw (ac (pv 2) ae))))),?_⟩
 have word:∀(i:Nat) (z:Str) (c:vR) (H':Hp),cs[i]?=some c->WdI i z->o=.inl z->Same H H'->∀(e:vR) (vx:Array vS),H' e=none->kE cs [.ref e] (upd H' e (.frz (exO (.ref c) vx) (.own e))) Q E0:=λ i z c H' hc hw ho s1 e vx he=>by
  subst ho;exact⟨e,c,i,z,rfl,⟨vx,ad⟩,hc,hw,λ t H2 s2 ht=>k t H2 ((s1.trans (af he)).trans s2) ht⟩
 refine⟨rfl,_,rfl,_,rfl,x,y,rfl,?_⟩;rcases h with⟨h,ho⟩|⟨B,W,r,h1,h2,h3,h4,h5,ho⟩
 ·obtain⟨e1,_⟩:=Y.k 0 _ cR (.inl ⟨rfl,rfl⟩) ec.r;rcases h with h|⟨B,h1,h2⟩
  ·exact .inl ⟨h,λ H' s1=>⟨cR,rfl,e1.x,e1.n,e1.s,λ e vx he=>⟨_,rfl,word 0 _ cR H' ec.r (.inl ⟨rfl,rfl⟩) ho s1 e vx he⟩⟩⟩
  ·exact .inr (.inl ⟨B,h1,h2,λ H' s1=>⟨cR,rfl,e1.x,e1.n,e1.s,λ e vx he=>⟨_,rfl,word 0 _ cR H' ec.r (.inl ⟨rfl,rfl⟩) ho s1 e vx he⟩⟩⟩)
 ·refine .inr (.inr ⟨B,W,r,h1,h2,h3,h4,h5,?_⟩);cases r with
  |inl i=>
   obtain⟨j,hj,hw⟩:=ec.e3 i;obtain⟨e1,_⟩:=Y.k j _ _ hw hj;exact λ H' s1=>⟨_,rfl,e1.x,e1.n,e1.s,λ e vx he=>⟨_,rfl,word j _ _ H' hj hw ho s1 e vx he⟩⟩
  |inr T=>
   subst ho;exact λ l H' nl s1 hl=>⟨(by show 1≤sizeLine;decide),λ lo nlo=>k lo l _ (s1.trans (af nlo)) ad (af nlo _ _ hl)⟩
def pp (K:Frag)(Tb:vR):Sp:=λ vs H Q _=>∃(x y:V),vs=[x,y]/\Rf.NoSg K H x y/\TbB Tb H/\∀t H',SameN H H'->TbB Tb H'->H' t=some (.tup [.str (Str.ofString "row")])->Q (.ref t) H'
theorem scLPut:FnScope ["_law_text","_law_window","_law_e"] ["_law_text","_law_window"] (aj kb):=⟨rfl,rfl,rfl,Z8,rfl,Z8,Z8⟩
theorem nD {B fP:vR}{fdP:vW}(F:Fn K mg "_law_put" kb ["_law_text","_law_window"] f fd)(Pb:FunD K "put_block" "put_block" cJ dV fP fdP)(mp:mg "put_block"=some (.ref fP))(bP:Binds K fdP ["text","before"] [])
  (Bw:FunC K "best_way" "best_way" cu dB c fB fdB) (mW:mg "best_way"=some (.ref fB)) (bW:Binds K fdB ["text","before"] []) (Z:Put K mg B cR C0 C1 C2 C3) (hC:CodeHd base c Tb) (hB:BmAt mg base) (hK:K.lookup Tb=none)
  (Wd:Fn K mg "_law_word" eO ["_law_e"] fw fdw) (Y:Ers K mg cP cs) (ec:EC cs cR cH cK cB):FnOk P w K mg base CX0 41 f fd ["_law_text","_law_window"] (pp K Tb):=by
 have GW:=gk (P:=P) (w:=w) (base:=base) Wd Z.N.Y.X Y;refine F.F.ok scLPut λ v9 A outer st H vs Q E hr h=>?_
 intro _;obtain⟨x,y,rfl,hN,hT,k⟩:=h;refine⟨_,ai (im (i:=2) scLPut.nd rfl rfl Z7 Y.mP Y.xP rfl rfl rfl
   (λ pn σ0 E=>ai (au (aq (ac (d5 (gG Pb Bw mW bW Z Z.N.Y.X.min hC hB hK) hr Z7 mp Pb.kp bP .nil (jr rfl) (ac (pv 0) (ac (pv 1) ae))) ae))))
   (λ e G=>ai (au (ap GW (hr.hand Z9 Z9) Z7 Wd.m Wd.F.kp Wd.b .nil aw (ac (pv 2) ae))))),?_⟩
 obtain⟨e1,_⟩:=Y.k 0 _ cR (.inl ⟨rfl,rfl⟩) ec.r;refine⟨rfl,_,rfl,_,rfl,x,y,rfl,hN,hT,λ H1 s1 hT1=>⟨cR,rfl,e1.x,e1.n,e1.s,λ e vx he=>⟨_,rfl,e,cR,0,_,rfl,⟨vx,ad⟩,ec.r,.inl ⟨rfl,rfl⟩,λ t H2 s2 ht=>?_⟩⟩⟩;have s12:=(af he).trans s2;exact k t H2 (s1.trans s12.n) (hT1.same s12) ht
end
end K23.Ck
set_option maxHeartbeats 4000000
namespace K23.Ck
open PySem L2 QQ W17 W16 BP
variable {A D L R r:List Nat}{a b e j m:Nat}
theorem lC (hb:b<256)(he:e<8)(hD:∀x∈D,x<256):BP.val (A++(b^^^2^e)::D)=BP.val (A++b::D)^^^(1*2^(8*D.length+e)):=by
 have hd:BP.val D<2^(8*D.length):=by rw [<-pow256];exact val_lt hD
 have h2:2^e<256:=rj (uk (by decide) he) (by decide);have hx:b^^^2^e<2^8:=sR hb h2;have sp:∀c,c<2^8->BP.val (A++c::D)=((BP.val A*2^8)^^^c)*2^(8*D.length)^^^BP.val D:=λ c hc=>by
  rw [CK.mul_pow_xor _ _ _ hd,CK.mul_pow_xor _ _ _ hc,cO,cp,sr,sH,pow256,Nat.add_mul,sK,sY (2^8),Nat.add_assoc]
 rw [sp _ hx,sp _ hb,Nat.one_mul,tM,sY (2^(8*D.length)),<-rS (BP.val A*2^8),<-CK.xor_mul_pow];rw [rS,tJ (2^e*_),<-rS]
theorem eg {w p:Nat}(hw:WP w p)(hA:∀x∈A,x<256)(hb:b<256)(he:e<8)(hD:∀x∈D,x<256):chk w p (A++(b^^^2^e)::D)≠chk w p (A++b::D):=by
 have h2:2^e<256:=rj (uk (by decide) he) (by decide);have hx:b^^^2^e<256:=sR (n:=8) hb h2;have al:∀c,c<256->∀x∈A++c::D,x<256:=λ c hc x h=>by
  rcases sL.mp h with z|z
  ·exact hA x z
  ·rcases rY.mp z with z|z
   ·rw [z];exact hc
   ·exact hD x z
 obtain⟨w8,p1,p2⟩:8≤w/\p%2=1/\p<2^w:=by rcases hw with⟨rfl,rfl⟩|⟨rfl,rfl⟩<;>decide
 rw [lN hw (al _ hx),lN hw (al _ hb),<-CK.G_F w8,<-CK.G_F w8,lC hb he hD];have el:(A++(b^^^2^e)::D).length=(A++b::D).length:=by simp
 rw [el];intro h;have h0:=CK.G_xor w p (A++b::D).length (2^w-1) 0 (BP.val (A++b::D)) (1*2^(8*D.length+e));rw [vP,h] at h0;have h1:CK.G w p (A++b::D).length 0 (1*2^(8*D.length+e))=0:=by
  have:=sv (CK.G w p (A++b::D).length (2^w-1) (BP.val (A++b::D))^^^·) h0;simp only [<-rS,vq,vQ] at this;exact this.symm
 exact CK.burst (k:=1) w8 p1 p2 (by decide) (by decide) (rP (by decide) w8) (by simp;omega) h1
theorem j8:b^^^2^e≠b:=λ h=>by
 have:=sv (b^^^·) h;simp only [<-rS,vq,vQ] at this;exact absurd this (uc (sw (by decide)))
theorem bv (R:List Nat):(sld R).length=R.length+2:=by simp [sld,two]
theorem hI (R:List Nat):(sld R).take ((sld R).length-2)=R:=by
 rw [bv,Nat.add_sub_cancel];exact vd rfl
theorem nZ (h1:1≤b)(h2:b≤64)(hr:r.length=b+2):NhK (wc a b++r) (some (a/64,a%64+1,b)):=.ok rfl (.ok rfl h1 h2) (by show r.length+3=b+5;omega)
theorem oA (h1:1≤b)(h2:b≤64)(hr:r.length≠b+2):NhK (wc a b++r) none:=.len rfl (.ok rfl h1 h2) (by show r.length+3≠b+5;omega)
theorem cG (a b:Nat)(R:List Nat):sld (wc a b++R)=wc a b++(R++two (chk 16 45 (wc a b++R))):=by unfold sld;rw [uM]
theorem hJ {o:Option (List Nat)}(h1:1≤b)(h2:b≤64)(hR:R.length=b)(ht:TxK R (a/64) (a%64+1) o):BkK (sld (wc a b++R)) (o.elim (.inl 2) .inr):=by
 have hn:NhK (sld (wc a b++R)) (some (a/64,a%64+1,b)):=by rw [cG];exact nZ h1 h2 (by simp [two,hR])
 have hs:sld ((sld (wc a b++R)).take ((sld (wc a b++R)).length-2))=sld (wc a b++R):=by rw [hI]
 have ht':TxK (((sld (wc a b++R)).take ((sld (wc a b++R)).length-2)).drop 3) (a/64) (a%64+1) o:=by rw [hI];exact ht
 cases o with
 |none=>exact .body hn hs ht'
 |some T=>exact .ok hn hs ht'
theorem iO (h1:1≤b)(h2:b≤64)(hr:r.length≠b+2):BkK (wc a b++r) (.inl 0):=.head (oA h1 h2 hr)
theorem pq (h1:1≤b)(h2:b≤64)(hr:r.length=b+2)(hm:m<r.length+3):BkK ((wc a b++r).take m) (.inl 0):=by
 rcases uP m 3 with h|h
 ·exact .head (.short (by rw [rW];omega))
 ·have e:(wc a b++r).take m=wc a b++r.take (m-3):=by rw [List.take_append,uI (by show 3≤m;exact h)];rfl
  rw [e];exact iO h1 h2 (by rw [rW];omega)
theorem mU {n:Nat}(h:two m=two n):m=n:=by
 have e1:m/256=n/256:=(List.cons.inj h).1;have e2:m%256=n%256:=(List.cons.inj (List.cons.inj h).2).1;omega
theorem o0 {v:Nat}(hj:j<L.length):L.set j v=L.take j++v::L.drop (j+1):=by
 rw [List.set_eq_take_append_cons_drop,se hj]
theorem kG (hj:j<L.length):L=L.take j++L[j]::L.drop (j+1):=by
 rw [<-List.drop_eq_getElem_cons hj,ua]
theorem nA (h1:1≤b)(h2:b≤64)(ha:a<256)(hR:R.length=b)(hb:∀x∈R,x<256)(he:e<8)(hj:j<(sld (wc a b++R)).length):
  BkK ((sld (wc a b++R)).set j ((sld (wc a b++R))[j]^^^2^e)) (.inl (if j<3 then 0 else 1)):=by
 have hb64:b<256:=by omega
 have hc:chk 8 29 [a,b]<256:=dw wp8 (by intro x hx;simp at hx;rcases hx with rfl|rfl<;>assumption);have hall:∀x∈wc a b++R,x<256:=λ x hx=>by
  rcases sL.mp hx with z|z
  ·have z:x=a\/x=b\/x=chk 8 29 [a,b]:=by simpa [wc] using z
   rcases z with rfl|rfl|rfl<;>assumption
  ·exact hb x z
 rcases uP j 3 with h3|h3
 ·rw [se h3];have hd:∀{x y z:Nat},z≠chk 8 29 [x,y]->∀r,BkK (x::y::z::r) (.inl 0):=λ h r=>.head (.bad rfl (.bad h))
  rcases j with _|_|_|j
  ·exact hd (λ z=>eg wp8 (A:=[]) (D:=[b]) (b:=a) (e:=e) (by simp) ha he (by simpa using hb64) z.symm) _
  ·exact hd (λ z=>eg wp8 (A:=[a]) (D:=[]) (b:=b) (e:=e) (by simpa using ha) hb64 he (by simp) z.symm) _
  ·exact hd (λ z=>j8 z) _
  ·omega
 ·rw [rO (Nat.not_lt.2 h3)];have hl:=bv (wc a b++R);have hl3:(wc a b++R).length=b+3:=by rw [rq,hR];show 3+b=b+3;omega
  obtain⟨r,hr,hrl⟩:∃r,(sld (wc a b++R)).set j ((sld (wc a b++R))[j]^^^2^e)=wc a b++r/\r.length=b+2:=by
   refine⟨((sld (wc a b++R)).set j ((sld (wc a b++R))[j]^^^2^e)).drop 3,?_,by rw [ur,ud,hl,hl3];omega⟩;have e1:((sld (wc a b++R)).set j ((sld (wc a b++R))[j]^^^2^e)).take 3=wc a b:=by
    rw [List.take_set_of_le h3,cG];exact vd rfl
   exact(ua 3 _).symm.trans (sv (·++_) e1)
  have hn:NhK ((sld (wc a b++R)).set j ((sld (wc a b++R))[j]^^^2^e)) (some (a/64,a%64+1,b)):=by rw [hr];exact nZ h1 h2 hrl
  refine .check hn ?_;clear hn hr hrl r;rw [ud,hl,Nat.add_sub_cancel];generalize hX:wc a b++R=X at*;intro heq;rcases uP j X.length with hj'|hj'
  ·have e0:(sld X)[j]=X[j]:=by unfold sld;exact List.getElem_append_left hj'
   have e1:(sld X).set j ((sld X)[j]^^^2^e)=X.set j (X[j]^^^2^e)++two (chk 16 45 X):=by
    rw [e0];unfold sld;rw [List.set_append_left _ _ hj']
   rw [e1,vd (by rw [ud])] at heq;have h4:two (chk 16 45 (X.set j (X[j]^^^2^e)))=two (chk 16 45 X):=List.append_cancel_left heq;have h5:=mU h4;rw [o0 hj'] at h5;have sp:=kG hj';refine eg jC (A:=X.take j) (D:=X.drop (j+1)) (b:=X[j]) (e:=e) (λ x h=>hall x (sG h)) (hall _ (tT hj')) he (λ x h=>hall x (tm h)) ?_;rw [h5,<-sp]
  ·have e1:((sld X).set j ((sld X)[j]^^^2^e)).take X.length=X:=by
    rw [List.take_set_of_le hj'];unfold sld;exact vd rfl
   rw [e1] at heq;have h6:=sv (·[j]?) heq;simp only [List.getElem?_set,se,hj,rT hj] at h6;exact j8 (rH h6).symm
end K23.Ck
set_option maxHeartbeats 4000000
namespace L2
open PySem PySem.Spec PyProof.Rows QQ
open PySem.AutoSeq1 (wpAny_loadPart') in
theorem ck (l b:vR)(items:Array vS)(n:Nat)(dd:Option vR)(sl:Array (Option vS))(d2:Option vR)(da2:Data)(sl2:Array (Option vS)):
  Meets (Builtin.«list.__ne__» ⟨[.ref l,.ref b],[]⟩) (λ _ R s=>s.heap.get? l=some {cls:=.type "list",dict:=dd,data:=.seq items n,slots:=sl}/\s.heap.get? b=some {cls:=.type "dict",dict:=d2,data:=da2,slots:=sl2}/\R (.ok (.ret .notImplemented)) s):=
 .of_wp λ prog w A R s h=>by obtain⟨hp,g,d,tk,os⟩:=s;obtain⟨hl,hb,h⟩:=h;have f1:=F.sub_dict_list;wp_walk using wpAny_loadPart' hl,wpAny_loadPart' hb;exact⟨_,rfl,h⟩
theorem eC {A:vX}{s:vT}{p l:vR}{items:Array vS}(hp:s.TypeIs (.ref p) "dict")(hl:s.heap.IsList l items)(hu:A.units<cLine):SeqAt.RcNeAt A s (.ref p) (.ref l) true:=λ prog w E Q h=>by
 obtain⟨⟨cls,dd,data,sl⟩,ho,hc,n,hd⟩:=id hl;obtain⟨⟨cls2,dd2,data2,sl2⟩,ho2,hc2⟩:=id hp;simp only at hc hd hc2;subst hc hd hc2;have hne:p≠l:=λ e=>by
  subst e;rw [ho] at ho2;exact absurd (show Value.type "list"=Value.type "dict" from sv Obj.cls (rH ho2)) (by decide)
 refine SeqAt.rc_ne_decline_or (k:=false) hp ⟨_,ho,rfl⟩ (by decide) F.sub_list_dict F.slot_dict_ne F.slot_list_ne_refl
  (λ _ hq=>uU PySem.F.slot_dict_ne hp PySem.F.entry_dict_ne ?_ (PySem.F.args_dict_ne_2 _ _))
  (λ _ hq=>call_meets F.slot_list_ne_refl ⟨_,ho,rfl⟩ F.entry_list_ne (F.args_list_ne_2 _ _) (ck l p items n dd sl dd2 data2 sl2) ⟨ho,ho2,hq⟩)
  (λ _ hq=>SeqAt.wpAny_isSame_ref_other' hne ho2 ho (by simp) hq) (.inr hu) h
 show wpAny _ _ (Builtin.Dict.dictSlotArgs "__ne__" ⟨[.ref p,.ref l],[]⟩>>= _) _ _ s;refine re ?_;unfold Builtin.Dict.dictSlotArgs;refine re (wpAny_notOrdered_dict hp ?_);show wpAny _ _ (pure (Value.ref p,Value.ref l)) _ _ s;refine rA ?_;refine re (uV (T:="list") ⟨_,ho,rfl⟩ PySem.F.sub_list_dict ?_);simp only [Bool.not_false,if_true];refine re (wpAny_rule ?_);exact rA ⟨_,rfl,hq⟩
section
variable {X:Cx}
def Differ (K:Frag)(H:Hp)(x:V)(ys:List V):Prop:=(∃i,x=.int i)\/(∃z,x=.str z)\/(∃p xs,x=.ref p/\H p=some (.tup xs))\/(∃p,x=.ref p/\H p=some (.dK []))\/
 (∃p xs,x=.ref p/\H p=some (.lst xs)/\(xs.length≠ys.length\/∃a b,xs=[a]/\ys=[b]/\flatV a=true/\flatV b=true/\eqV a b=false))
def qd (K:Frag):R2:=λ x y H Q=>∃(q:vR) (ys:List V),y=.ref q/\H q=some (.lst ys)/\Differ K H x ys/\Q (.bl true) H
theorem i3 (hu:X.A.units+64<cLine):OpR X (compareOp .NotEq) (qd X.K):=by
 intro v8 s σ H x y v u Q I rx ry h;obtain⟨q,ys,rfl,h2,hn,k⟩:=h;cases ry;obtain⟨its2,rv2,pl2,hz2⟩:=I.list (SqL.of h2);have hu':X.A.units<cLine:=by omega
 have fin:EP X v8 σ Q (.bool true) s:=⟨.bl true,H,I,rfl,k⟩;rcases hn with⟨i,rfl⟩|⟨z,rfl⟩|⟨p,xs,rfl,h1⟩|⟨p,rfl,hp⟩|⟨p,xs,rfl,h1,hl⟩
 ·obtain⟨t,rfl⟩:=rx;exact SeqAt.RcNeAt.int_list i t pl2.isList hu' _ _ _ _ fin
 ·obtain⟨t,rfl⟩:=rx;exact SeqAt.RcNeAt.str_list z t pl2.isList hu' _ _ _ _ fin
 ·cases rx;obtain⟨its,rv,pl,hz⟩:=I.tuple (SqT.of h1);exact SeqAt.RcNeAt.tuple_list pl pl2.isList hu' _ _ _ _ fin
 ·cases rx;obtain⟨_,hs,vs,kv,D⟩:=(show ObjOk X.prog X.w H s.heap p (.dK []) from I.hok p _ hp);exact eC D.typeIs pl2.isList hu' _ _ _ _ fin
 ·cases rx;obtain⟨its,rv,pl,hz⟩:=I.list (SqL.of h1);have l1:=rv.length;have l2:=rv2.length;rcases hl with hl|⟨a,b,rfl,rfl,fa,fb,e⟩
  ·refine SeqAt.RcNeAt.lists_lengths pl.isList pl2.isList ?_ hu' _ _ _ _ fin;rw [rh,rh,<-l1,<-l2];simpa using hl
  ·obtain⟨u1,rfl,r1⟩:=dz rv;obtain⟨u2,rfl,r2⟩:=dz rv2;refine vz (e:=λ _=>false) pl.isList pl2.isList rfl hu' (λ j h1 h2=>?_) _ _ _ _ ?_
   ·have ej:j=0:=by simp at h1;assumption
    subst ej;rw [<-e];exact ey r1 r2 fa fb
   ·exact fin
def o3:R2:=λ x y H Q=>∃(p q:vR) (xs ys:List V),x=.ref p/\y=.ref q/\H p=some (.lst xs)/\H q=some (.tup ys)/\Q (.bl true) H
theorem lp (hu:X.A.units+64<cLine):OpR X (compareOp .NotEq) o3:=by
 intro v8 s σ H x y v u Q I rx ry h;obtain⟨p,q,xs,ys,rfl,rfl,h1,h2,k⟩:=h;cases rx;cases ry;obtain⟨its,rv,pl,hz⟩:=I.list (SqL.of h1);obtain⟨its2,rv2,pl2,hz2⟩:=I.tuple (SqT.of h2);exact SeqAt.RcNeAt.list_tuple pl.isList pl2 (by omega) _ _ _ _ ⟨.bl true,H,I,rfl,k⟩
end
end L2
set_option maxHeartbeats 4000000
namespace K23.Ck
open PySem L2 QQ W17 W16 BP
seal PE PA PS PSs PT PW PG PI
variable {x y:V}{f:vR}{fd:vW}{K:Frag}{H H':Hp}{xs:List V}
abbrev lV:v7:=top 123
abbrev gf:v7:=top 121
def Wn (H:Hp)(x:V):Prop:=x=.non\/∃p,x=.ref p/\(H p=some (.lst [.int 7])\/H p=some (.lst []))
def WnO (K:Frag)(H:Hp)(x:V):Prop:=Rf.NoWin K H x 192/\x≠ .non/\Differ K H x [.int 7]/\Differ K H x []
section
variable {P:vU}{w:vV}{K:Frag}{mg:Str -> Option vS}{base:vY}
theorem Wn.win (h:Wn H x):∃W,Rf.Win H x W/\W.length≤192:=by
 rcases h with rfl|⟨p,rfl,h|h⟩
 ·exact⟨[],.inl ⟨rfl,rfl⟩,Z9⟩
 ·exact⟨[7],.inr ⟨p,rfl,h,by simp⟩,Z9⟩
 ·exact⟨[],.inr ⟨p,rfl,h,by simp⟩,Z9⟩
theorem bN {t:String}(ty:TyOf K H x (.type t))(h: ["NoneType","str","int","bool","tuple","dict"].contains t=true):Rf.NoRow K H x:=.inl ⟨_,ty,Rf.kit_nl K h⟩
theorem eG {a:vR}(h:H a=some (.lst xs))(h0:xs[0]?=some y)(hy:Rf.WhV K H y 0 255 false):Rf.NoRow K H (.ref a):=.inr ⟨a,xs,0,y,rfl,h,λ i z=>absurd z (Nat.not_lt_zero _),h0,hy⟩
def oW (K:Frag):Sp:=λ vs H Q _=>∃c:Nat,vs=[vN c]/\∀x H',Same H H'->(Wn H' x\/WnO K H' x)->Q x H'
theorem scLWin:FnScope ["_law_cell","_law_odd"] ["_law_cell"] (aj lV):=⟨rfl,rfl,rfl,Z8,rfl,Z8,Z8⟩
theorem ng (F:Fn K mg "_law_windows" lV ["_law_cell"] f fd):FnOk P w K mg base CX0 1 f fd ["_law_cell"] (oW K):=by
 refine F.F.ok scLWin λ v9 A outer st H vs Q E hr h=>?_
 intro _;obtain⟨c,rfl,k⟩:=h;refine⟨_,ah (av (i:=1) scLWin.nd (aq (ac (aC (ac ag ae)) (ac (aq (ac ag ae)) (ac aB (ac (aq (ac cj ae)) (ac (ak dt (aq (ac ag ae)) ag) (ac kK (ac (aq (ac bf ae)) (ac ag ae))))))))))
  (ai (au (aS aG (aq (ac bf (ac (aq (ac ag ae)) (ac (aq ae) (ac (aS aG (pv 1) (ak aK (ak aN (pv 0) ag) ag) (λ _ _=>rfl)) ae))))) (ak aK (pv 0) ag) (λ _ _=>rfl)))),?_⟩
 refine seq_g λ R g=>⟨(by show 1≤sizeLine;decide),λ p1 n1=>⟨(by show 1≤sizeLine;decide),λ l2 n2=>⟨(by show 1≤sizeLine;decide),λ l4 n4=>⟨(by show 1≤sizeLine;decide),λ l5 n5=>?_⟩⟩⟩⟩
 have s1:=af (o:=.tup [.int 1]) n1;have h1:(upd H p1 (.tup [.int 1])) p1=some (.tup [.int 1]):=ad;generalize upd H p1 (.tup [.int 1])=H1 at*;have s2:=af (o:=.lst [.int 256]) n2;have h2:(upd H1 l2 (.lst [.int 256])) l2=some (.lst [.int 256]):=ad;generalize upd H1 l2 (.lst [.int 256])=H2 at*;have s4:=af (o:=.lst [.bl true]) n4;have h4:(upd H2 l4 (.lst [.bl true])) l4=some (.lst [.bl true]):=ad;generalize upd H2 l4 (.lst [.bl true])=H4 at*;have s5:=af (o:=.lst [.int 0]) n5;have h5:(upd H4 l5 (.lst [.int 0])) l5=some (.lst [.int 0]):=ad;generalize upd H4 l5 (.lst [.int 0])=H5 at*;refine⟨l5,_,_,rfl,rfl,h5,Z9,Z9,(by show 1*193≤sizeLine;decide),λ l6 n6=>?_⟩;have e6:(List.replicate (Int.toNat 193) [V.int 0]).flatten=(List.replicate 193 0).map vN:=bO 193 0;rw [e6];have s6:=af (o:=.lst ((List.replicate 193 0).map vN)) n6;have h6:(upd H5 l6 (.lst ((List.replicate 193 0).map vN))) l6=some (.lst ((List.replicate 193 0).map vN)):=ad;generalize upd H5 l6 (.lst ((List.replicate 193 0).map vN))=H6 at*;refine λ d7 n7=>⟨(by show 1≤sizeLine;decide),λ l8 n8=>⟨(by show 8≤sizeLine;decide),λ lo no=>g _ _ ?_⟩⟩
 clear g;have s7:=af (o:=.dK []) n7;have h7:(upd H6 d7 (.dK [])) d7=some (.dK []):=ad;generalize upd H6 d7 (.dK [])=H7 at*;have s8:=af (o:=.lst [.non]) n8;have h8:(upd H7 l8 (.lst [.non])) l8=some (.lst [.non]):=ad;generalize upd H7 l8 (.lst [.non])=H8 at*;have s9:=af (o:=.lst [.ref p1,.ref l2,.str (Str.ofString "1"),.ref l4,.ref l6,.ref d7,.ref l8,.int 5]) no;have h9:(upd H8 lo (.lst [.ref p1,.ref l2,.str (Str.ofString "1"),.ref l4,.ref l6,.ref d7,.ref l8,.int 5])) lo=some (.lst [.ref p1,.ref l2,.str (Str.ofString "1"),.ref l4,.ref l6,.ref d7,.ref l8,.int 5]):=ad;have f1:Same H1 _:=(((((s2.trans s4).trans s5).trans s6).trans s7).trans s8).trans s9;have f2:Same H2 _:=((((s4.trans s5).trans s6).trans s7).trans s8).trans s9;have f4:Same H4 _:=(((s5.trans s6).trans s7).trans s8).trans s9;have f6:Same H6 _:=(s7.trans s8).trans s9;have f0:Same H _:=s1.trans f1;have g1:=f1 _ _ h1;have g2:=f2 _ _ h2;have g4:=f4 _ _ h4;have g6:=f6 _ _ h6;have g7:=(s8.trans s9) _ _ h7;have g8:=s9 _ _ h8;clear f1 f2 f4 f6 s1 s2 s4 s5 s6 s7 s8 s9 n1 n2 n4 n5 n6 n7 n8 no h1 h2 h4 h5 h6 h7 h8;generalize upd H8 lo (.lst [.ref p1,.ref l2,.str (Str.ofString "1"),.ref l4,.ref l6,.ref d7,.ref l8,.int 5])=H9 at*;clear H1 H2 H4 H5 H6 H7 H8;have odd:∀j,j<8->∃v,([.ref p1,.ref l2,.str (Str.ofString "1"),.ref l4,.ref l6,.ref d7,.ref l8,.int 5]:List V)[j]?=some v/\∀H',Same H9 H'->WnO K H' v:=by
  intro j hj;have d1:∀{H':Hp} {p:vR} {a:V},H' p=some (.lst [a])->flatV a=true->eqV a (.int 7)=false->Differ K H' (.ref p) [.int 7]/\Differ K H' (.ref p) []:=λ h f e=>
   ⟨.inr (.inr (.inr (.inr ⟨_,_,rfl,h,.inr ⟨_,_,rfl,rfl,f,rfl,e⟩⟩))),.inr (.inr (.inr (.inr ⟨_,_,rfl,h,.inl (λ z=>nomatch z)⟩)))⟩
  have nn:∀{p:vR},(V.ref p:V)≠ .non:=λ z=>nomatch z
  match j,hj with
  |0,_=>exact⟨_,rfl,λ H' s=>⟨.inl ⟨nn,bN (.tup (s _ _ g1)) Z9⟩,nn,.inr (.inr (.inl ⟨_,_,rfl,s _ _ g1⟩)),.inr (.inr (.inl ⟨_,_,rfl,s _ _ g1⟩))⟩⟩
  |1,_=>exact⟨_,rfl,λ H' s=>⟨.inl ⟨nn,eG (s _ _ g2) rfl (.inl ⟨256,rfl,rfl⟩)⟩,nn,d1 (s _ _ g2) rfl rfl⟩⟩
  |2,_=>exact⟨_,rfl,λ H' s=>⟨.inl ⟨(λ z=>nomatch z),bN (.str _) Z9⟩,(λ z=>nomatch z),.inr (.inl ⟨_,rfl⟩),.inr (.inl ⟨_,rfl⟩)⟩⟩
  |3,_=>exact⟨_,rfl,λ H' s=>⟨.inl ⟨nn,eG (s _ _ g4) rfl (.inr ⟨.bl true,rfl⟩)⟩,nn,d1 (s _ _ g4) rfl rfl⟩⟩
  |4,_=>
   refine⟨_,rfl,λ H' s=>⟨.inr ⟨_,⟨l6,rfl,s _ _ g6,λ b hb=>by rw [tE hb];exact Z9⟩,by rw [rZ];exact Z9⟩,nn,?_,?_⟩⟩
   ·exact .inr (.inr (.inr (.inr ⟨_,_,rfl,s _ _ g6,.inl (by rw [rg,rZ];exact Z9)⟩)))
   ·exact .inr (.inr (.inr (.inr ⟨_,_,rfl,s _ _ g6,.inl (by rw [rg,rZ];exact Z9)⟩)))
  |5,_=>exact⟨_,rfl,λ H' s=>⟨.inl ⟨nn,bN (.dK (s _ _ g7)) Z9⟩,nn,.inr (.inr (.inr (.inl ⟨_,rfl,s _ _ g7⟩))),.inr (.inr (.inr (.inl ⟨_,rfl,s _ _ g7⟩)))⟩⟩
  |6,_=>exact⟨_,rfl,λ H' s=>⟨.inl ⟨nn,eG (s _ _ g8) rfl (.inr ⟨.non,rfl⟩)⟩,nn,d1 (s _ _ g8) rfl rfl⟩⟩
  |7,_=>exact⟨_,rfl,λ H' s=>⟨.inl ⟨(λ z=>nomatch z),bN (.int 5) Z9⟩,(λ z=>nomatch z),.inl ⟨_,rfl⟩,.inl ⟨_,rfl⟩⟩⟩
 refine⟨(by show 1≤sizeLine;decide),λ m1 q1=>⟨sy _,λ m2 q2=>?_⟩⟩;have t1:=af (o:=.lst [.int 7]) q1;have r1:(upd H9 m1 (.lst [.int 7])) m1=some (.lst [.int 7]):=ad;generalize upd H9 m1 (.lst [.int 7])=H10 at*;have t2:=af (o:=.lst []) q2;have r2:(upd H10 m2 (.lst [])) m2=some (.lst []):=ad;have r1:=t2 _ _ r1;generalize upd H10 m2 (.lst [])=H11 at*;have e1:((c:Nat):Int)/4%8=((c/4%8:Nat):Int):=by omega
 obtain⟨v,hv,ho⟩:=odd (c/4%8) (ss _ Z9);refine⟨_,rfl,_,rfl,_,_,rfl,rfl,⟨Z9,Z9⟩,_,_,rfl,rfl,(by show(0:Int)<8;decide),lo,_,_,_,rfl,rfl,SqL.of (t2 _ _ (t1 _ _ h9)),(by rw [e1];exact aE hv),?_⟩;refine⟨(by show 4≤sizeLine;decide),λ m3 q3=>?_⟩;have t3:=af (o:=.lst [.non,.ref m1,.ref m2,v]) q3;have r3:(upd H11 m3 (.lst [.non,.ref m1,.ref m2,v])) m3=some (.lst [.non,.ref m1,.ref m2,v]):=ad;have r1:=t3 _ _ r1;have r2:=t3 _ _ r2;have t9:Same H9 _:=(t1.trans t2).trans t3;generalize upd H11 m3 (.lst [.non,.ref m1,.ref m2,v])=H12 at*;have e2:((c:Nat):Int)%4=((c%4:Nat):Int):=by omega
 have fin:∃x,([.non,.ref m1,.ref m2,v]:List V)[c%4]?=some x/\(Wn H12 x\/WnO K H12 x):=by
  have:c%4<4:=ss _ Z9;generalize c%4=j at*
  match j,this with
  |0,_=>exact⟨_,rfl,.inl (.inl rfl)⟩
  |1,_=>exact⟨_,rfl,.inl (.inr ⟨_,rfl,.inl r1⟩)⟩
  |2,_=>exact⟨_,rfl,.inl (.inr ⟨_,rfl,.inr r2⟩)⟩
  |3,_=>exact⟨_,rfl,.inr (ho _ t9)⟩
 obtain⟨x,hx,hw⟩:=fin;exact⟨_,rfl,_,_,rfl,rfl,(by show(0:Int)<4;decide),m3,_,_,x,rfl,rfl,SqL.of r3,(by rw [e2];exact aE hx),k x _ (f0.trans t9) hw⟩
end
def Kp (H:Hp)(x:V):Prop:=x=.non\/(∃p xs,x=.ref p/\H p=some (.tup xs)/\xs.all flatV=true)\/∃p xs,x=.ref p/\H p=some (.lst xs)/\xs.all flatV=true
theorem iY {p q:vR}(h1:H p=some (.lst xs))(h2:H q=some (.lst xs))(f:xs.all flatV=true):gp K H p q:=
 ⟨xs,xs,SqL.of h1,SqL.of h2,rfl,λ i x y e1 e2=>.inl ⟨rH (e1.symm.trans e2),.inl (tS.mp f _ (sO e1))⟩⟩
def HtV (K:Frag)(H:Hp)(x:V)(o:Option (Nat×Nat×Nat) ⊕ Str):Prop:=
 ((Rf.NoRow K H x\/∃T,Rf.IsR H x T/\T.length≠3)/\o=.inr (Str.ofString "row"))\/∃a b c r,Rf.IsR H x [a,b,c]/\HdK a b c r/\o=r.elim .inl λ _=>.inr (Str.ofString "head")
section
variable {P:vU}{w:vV}{K:Frag}{mg:Str -> Option vS}{base:vY}{C CHd cR cH cK cB cP:vR}{cs:List vR}
def mn (K:Frag):Sp:=λ vs H Q _=>∃(x:V) (o:Option (Nat×Nat×Nat) ⊕ Str),vs=[x]/\Kp H x/\HtV K H x o/\match o with
 | .inr z=>∀t H',Same H H'->H' t=some (.tup [.str z])->Q (.ref t) H'
 | .inl none=>∀lo H',Same H H'->H' lo=some (.lst [.non])->Q (.ref lo) H'
 | .inl (some (u,v,y))=>∀lo t H',Same H H'->H' lo=some (.lst [.ref t])->H' t=some (.tup [vN u,vN v,vN y])->Q (.ref lo) H'
abbrev nHT:List Str:=["_law_row","_law_kept","_law_head_here","_law_caught","_law_e"]
theorem scHTold:FnScope nHT ["_law_row"] (aj gf):=⟨rfl,rfl,rfl,Z8,rfl,Z8,Z8⟩
theorem lW {fO fw:vR}{fdO fdw:vW}(F:Fn K mg "_law_head_told" gf ["_law_row"] f fd)(O:Fn K mg "head_of" dj ["row"] fO fdO)(Z:Hds K mg C CHd cR cH)(Wd:Fn K mg "_law_word" eO ["_law_e"] fw fdw)(Y:Ers K mg cP cs)(ec:EC cs cR cH cK cB):
  FnOk P w K mg base CX0 33 f fd ["_law_row"] (mn K):=by
 have X:=Z.N.Y.X;have GW:=gk (P:=P) (w:=w) (base:=base) Wd X Y;refine F.F.ok scHTold λ v9 A outer st H vs Q E hr h=>?_
 intro _;obtain⟨x,o,rfl,hk,h,k⟩:=h;have hu:=hr.units;have hr5:Room 5 _:=hr.mono Z9;refine⟨_,ah (av (i:=1) scHTold.nd (dn (ba (aH bB Z7 X.isi rQ (ac (pv 0) (ac (bG (v:=.ty "list") Z7 X.list sQ rfl) ae)))) (bq cb Z7 X.list sQ (ac (pv 0) ae)) (pv 0)))
  (ah (av (i:=2) scHTold.nd bf)
  (ah (av (i:=3) scHTold.nd bf)
  (ah (im (i:=4) scHTold.nd rfl rfl Z7 Y.mP Y.xP rfl rfl rfl
   (λ pn σ0 E=>ai (av (i:=2) scHTold.nd (d5 (fu O Z) hr Z7 O.m O.F.kp O.b .nil (jr rfl) (ac (pv 0) ae))))
   (λ e G=>ai (av (i:=3) scHTold.nd (pv 4))))
  (ah (aI (ax ((mD hu).either ((mF hu).either jl)) (pv 0) (pv 1) (az _)) (ai bR) ay)
  (ah (aI (ax jk (pv 3) bf (az _)) (ai (au (ap GW hr5 Z7 Wd.m Wd.F.kp Wd.b .nil aw (ac (pv 3) ae)))) ay)
  (ai (au (aq (ac (dn (ax ic (pv 2) bf (az _)) bf (aC (ac (bd (pv 2) rfl) (ac (bd (pv 2) rfl) (ac (bd (pv 2) rfl) ae))))) ae))))))))),?_⟩
 refine seq_g λ R g=>?_
 refine(λ(J:∀(y:V) (H1:Hp),Same H H1->(∀H2,Same H1 H2->∀Q':VK,Q' (.bl false) H2->n9 K x y H2 Q'\/oi K x y H2 Q'\/rNe x y H2 Q')->R [some x,some y,none,none,none] H1)=>?_) (λ y H1 s1 hne=>g _ _ ?_)
 ·rcases hk with rfl|⟨p,xs,rfl,hp,fl⟩|⟨p,xs,rfl,hp,fl⟩
  ·exact⟨_,rfl,_,_,_,_,rfl,.non,Rf.kit_nl K (t:="NoneType") Z9,_,rfl,aW ⟨_,rfl,J _ H (Same.refl H) λ H2 s2 Q' q=>.inr (.inr ⟨rfl,q⟩)⟩⟩
  ·exact⟨_,rfl,_,_,_,_,rfl,.tup hp,Rf.kit_nl K (t:="tuple") Z9,_,rfl,aW ⟨_,rfl,J _ H (Same.refl H) λ H2 s2 Q' q=>.inr (.inl ⟨p,p,xs,rfl,rfl,SqT.of (s2 _ _ hp),SqT.of (s2 _ _ hp),fl,q⟩)⟩⟩
  ·refine⟨_,rfl,_,_,_,_,rfl,.lst hp,gh K,_,rfl,bh ⟨_,rfl,p,xs,rfl,.inl (SqL.of hp),λ l nl=>?_⟩⟩;have s1:=af (o:=.lst xs) nl;exact J _ _ s1 λ H2 s2 Q' q=>.inl ⟨p,l,rfl,rfl,iY (s2 _ _ (s1 _ _ hp)) (s2 _ _ ad) fl,q⟩
 clear g;refine seq_g λ _ g=>g _ _ ?_
 clear g;refine seq_g λ _ g=>g _ _ ?_
 clear g;refine seq_g λ R2 g=>?_
 have caught:∀(i:Nat) (z:Str) (c:vR) (H2:Hp) (e:vR) (vx:Array vS),Same H1 H2->H2 e=none->cs[i]?=some c->WdI i z->o=.inr z->R2 [some x,some y,some .non,some (.ref e),none] (upd H2 e (.frz (exO (.ref c) vx) (.own e))):=by
  intro i z c H2 e vx s2 he hc hw ho;refine g _ _ ?_;have s3:=af (o:=.frz (exO (.ref c) vx) (.own e)) he;have s23:=s2.trans s3;refine seq_g λ _ g=>⟨_,rfl,_,rfl,hne _ s23 _ ⟨_,rfl,aW (g _ _ ?_)⟩⟩
  clear g;refine seq_g λ _ g=>⟨_,rfl,rfl,_,rfl,bh ⟨_,rfl,e,c,i,z,rfl,⟨vx,ad⟩,hc,hw,λ t H4 s4 ht=>?_⟩⟩
  subst ho;exact k t H4 ((s1.trans s23).trans s4) ht
 have nonT:∀H2,Same H1 H2->o=.inl none->R2 [some x,some y,some .non,some .non,none] H2:=by
  intro H2 s2 ho;refine g _ _ ?_;refine seq_g λ _ g=>⟨_,rfl,_,rfl,hne _ s2 _ ⟨_,rfl,aW (g _ _ ?_)⟩⟩
  clear g;refine seq_g λ _ g=>⟨_,rfl,rfl,_,rfl,aW (g _ _ ?_)⟩
  clear g;refine⟨_,rfl,rfl,_,rfl,bh ⟨(by show 1≤sizeLine;decide),λ lo nl=>?_⟩⟩;subst ho;exact k lo _ ((s1.trans s2).trans (af nl)) ad
 have hdT:∀(H2:Hp) (p dx u v yy:Nat),Same H1 H2->H2 p=some (.ins CHd dx (fH u v yy))->o=.inl (some (u,v,yy))->R2 [some x,some y,some (.ref p),some .non,none] H2:=by
  intro H2 p dx u v yy s2 hp ho;refine g _ _ ?_;refine seq_g λ _ g=>⟨_,rfl,_,rfl,hne _ s2 _ ⟨_,rfl,aW (g _ _ ?_)⟩⟩
  clear g;refine seq_g λ _ g=>⟨_,rfl,rfl,_,rfl,aW (g _ _ ?_)⟩
  clear g;refine⟨_,rfl,rfl,_,rfl,aW ?_⟩;refine⟨_,rfl,p,CHd,dx,_,_,rfl,hp,Z.T.cl,Z.T.nW,pe _ _ _,_,rfl,p,CHd,dx,_,_,rfl,hp,Z.T.cl,Z.T.nC,pE _ _ _,_,rfl,p,CHd,dx,_,_,rfl,hp,Z.T.cl,Z.T.nI,qf _ _ _,(by show 3≤sizeLine;decide),λ t nt=>⟨(by show 1≤sizeLine;decide),λ lo nl=>?_⟩⟩;subst ho;exact k lo t _ (((s1.trans s2).trans (af nt)).trans (af nl)) ad (af nl _ _ ad)
 clear g;refine⟨rfl,_,rfl,x,rfl,?_⟩;obtain⟨eR,_⟩:=Y.k 0 _ cR (.inl ⟨rfl,rfl⟩) ec.r;obtain⟨eH,_⟩:=Y.k 10 _ cH (.inr (.inr (.inl ⟨rfl,rfl⟩))) ec.h;rcases h with⟨h|⟨T,h1,h2⟩,ho⟩|⟨a,b,c,r,h1,h2,ho⟩
 ·exact .inl ⟨h.same s1,λ H2 s2=>⟨cR,rfl,eR.x,eR.n,eR.s,λ e vx he=>⟨_,rfl,caught 0 _ cR H2 e vx s2 he ec.r (.inl ⟨rfl,rfl⟩) ho⟩⟩⟩
 ·exact .inr (.inl ⟨T,h1.same s1,h2,λ H2 s2=>⟨cR,rfl,eR.x,eR.n,eR.s,λ e vx he=>⟨_,rfl,caught 0 _ cR H2 e vx s2 he ec.r (.inl ⟨rfl,rfl⟩) ho⟩⟩⟩)
 ·refine .inr (.inr ⟨a,b,c,r,h1.same s1,h2,?_⟩)
  match r,ho with
  | .inr _,ho=>exact λ H2 s2=>⟨cH,rfl,eH.x,eH.n,eH.s,λ e vx he=>⟨_,rfl,caught 10 _ cH H2 e vx s2 he ec.h (.inr (.inr (.inl ⟨rfl,rfl⟩))) ho⟩⟩
  | .inl none,ho=>exact λ H2 s2=>nonT H2 s2 ho
  | .inl (some (u,v,yy)),ho=>exact λ p dx H2 np s2 hp=>hdT H2 p dx u v yy s2 hp ho
end
abbrev iz:v7:=top 122
theorem zl1:1≤sizeLine:=Z9
theorem zl2:2≤sizeLine:=Z9
theorem zl3:3≤sizeLine:=Z9
theorem zl6:6≤sizeLine:=Z9
theorem mh {n j:Nat}(h:j<n):ixN n ((j:Nat):Int)=some j:=by
 unfold ixN;rw [se (rN _),se (Int.ofNat_lt.mpr h)];simp
theorem o7 (n d:Nat):HT.sIx n d (some (-1))=n-1:=by
 unfold HT.sIx;simp;omega
theorem oM (B:List Nat):cutV (B.map vN) none (some (-1))=(B.take (B.length-1)).map vN:=by
 unfold cutV;rw [o7,HT.sIx_none,vC,vO,rg,u4]
theorem lZ (x y:Nat):BP.val [x,y]=x*256+y:=by rw [cp,cp,jm];simp
theorem ql {x y:Nat}(hx:x<256)(hy:y<256):bt [x,y] 0 6=x/4:=by
 unfold bt;rw [lZ];show(x*256+y)/1024%64=x/4;omega
theorem qK {x y:Nat}(hy:y<256):bt [x,y] 6 8=(x*64+y/4)%256:=by
 unfold bt;rw [lZ];show(x*256+y)/4%256=_;omega
def RdV (K:Frag)(H:Hp)(x y:V):Prop:=(Rf.NoRow K H x/\∃d,y=.ref d/\H d=some (.tup [.str (Str.ofString "row")]))\/
 ∃B r,Rf.IsR H x B/\B.length≤1000/\BkK B r/\∃d,y=.ref d/\match r with
  | .inl i=>H d=some (.tup [.str (wd i)])
  | .inr T=>∃l,H d=some (.lst [.ref l])/\H l=some (.lst (T.map vN))
section
variable {P:vU}{w:vV}{K:Frag}{mg:Str -> Option vS}{base:vY}
def mG (K:Frag):Sp:=λ vs H Q _=>∃(a:vR) (T:List Nat) (c:Nat),vs=[.ref a,vN c]/\H a=some (.lst (T.map vN))/\(∀b∈T,b<256)/\1≤T.length/\T.length≤20/\
 ∀t x y H',Same H H'->H' t=some (.tup [x,y])->RdV K H' x y->Q (.ref t) H'
abbrev nRB:List Str:=["_law_text","_law_cell","_law_size","_law_block","_law_at","_law_way","_law_inside","_law_head_here"]
theorem scRowBy:FnScope nRB ["_law_text","_law_cell"] (aj iz):=⟨rfl,rfl,rfl,Z8,rfl,Z8,Z8⟩
theorem lK {fS fH fC:vR}{fdS fdH fdC:vW}(F:Fn K mg "_law_row_by" iz ["_law_text","_law_cell"] f fd)(Sl:Fn K mg "_law_sealed" dM ["_law_row"] fS fdS)(Hd:Fn K mg "_law_head" fQ ["_law_way","_law_count","_law_inside"] fH fdH)
  (Ch:Fn K mg "_law_check" eU ["_law_row","_law_wide"] fC fdC) (X:K23.Txt K mg) (tup:mg "tuple"=none):FnOk P w K mg base CX0 3 f fd ["_law_text","_law_cell"] (mG K):=by
 have GS:=j4 (P:=P) (w:=w) (base:=base) Sl Ch X;have GH:=lT (P:=P) (w:=w) (base:=base) Hd Ch X;have GC:=dR (P:=P) (w:=w) (base:=base) Ch X;refine F.F.ok scRowBy λ v9 A outer st H vs Q E hr h=>?_
 intro _;obtain⟨a,T,c,rfl,ha,hb,hT1,hT20,k⟩:=h;have hr1:Room 1 _:=hr.mono Z9;refine⟨_,ah (av (i:=2) scRowBy.nd (aH aF Z7 X.len sF (ac (pv 0) ae)))
  (ah (av (i:=3) scRowBy.nd (ap GS hr Z7 Sl.m Sl.F.kp Sl.b .nil aw (ac (ak aO (ap GH hr Z7 Hd.m Hd.F.kp Hd.b .nil aw (ac ag (ac (pv 2) (ac (pv 2) ae)))) (pv 0)) ae)))
  (ah (av (i:=4) scRowBy.nd (ak aK (ak aN (pv 1) ag) (ak bj ag (aH aF Z7 X.len sF (ac (pv 3) ae)))))
  (ah (av (i:=5) scRowBy.nd (ak aK (pv 1) ag))
  (ah (aI (ax bg (pv 5) ag (az _)) (ai (au (aC (ac (bi bw (pv 3) b8 (bo (ak aN (pv 4) ag))) (ac (aC (ac aB ae)) ae))))) ay)
  (ah (aI (ax bg (pv 5) ag (az _)) (ai (au (aC (ac (ak aO (pv 3) (ak dt (aq (ac ag ae)) (ak aM ag (ak aK (pv 4) ag)))) (ac (aC (ac aB ae)) ae))))) ay)
  (ah (aI (ax bg (pv 5) ag (az _)) (ah (lF (ak dy (aS aG (pv 3) (ak aN (pv 4) ag) (λ _ _=>rfl)) (ak bK ag (ak aK (pv 4) ag))) (ou (pv 3) (ak aN (pv 4) ag) lm))
   (ai (au (aC (ac (pv 3) (ac (dn (ax gF (pv 4) ag (az _)) (aC (ac aB ae)) (aC (ac aB ae))) ae)))))) ay)
  (ah (aI (ax bg (pv 5) ag (az _)) (ai (au (aC (ac (ap GS hr Z7 Sl.m Sl.F.kp Sl.b .nil aw (ac (ak aO (aq (ac ag (ac ag (ac (ap GC hr1 Z7 Ch.m Ch.F.kp Ch.b .nil aw (ac (aq (ac ag (ac ag ae))) (ac ag ae))) ae)))) (pv 0)) ae)) (ac (aC (ac aB ae)) ae))))) ay)
  (ah (aI (ax bg (pv 5) ag (az _)) (ah (av (i:=6) scRowBy.nd (aS aG (aq (ac ag (ac ag (ac ag ae)))) (ak aK (pv 4) ag) (λ _ _=>rfl)))
   (ah (av (i:=7) scRowBy.nd (aq (ac (ak aM ag (pv 2)) (ac (pv 6) ae))))
   (ai (au (aC (ac (ap GS hr Z7 Sl.m Sl.F.kp Sl.b .nil aw (ac (ak aO (ak aO (pv 7) (aq (ac (ap GC hr1 Z7 Ch.m Ch.F.kp Ch.b .nil aw (ac (pv 7) (ac ag ae))) ae))) (pv 0)) ae)) (ac (aC (ac aB ae)) ae))))))) ay)
  (ah (aI (ax bg (pv 5) ag (az _)) (ai (au (aC (ac (ap GS hr Z7 Sl.m Sl.F.kp Sl.b .nil aw (ac (ak aO (ap GH hr Z7 Hd.m Hd.F.kp Hd.b .nil aw (ac ag (ac (pv 2) (ac (ak aM (pv 2) ag) ae)))) (pv 0)) ae)) (ac (aC (ac aB ae)) ae))))) ay)
  (ah (aI (ax bg (pv 5) ag (az _)) (ai (au (aC (ac (ap GS hr Z7 Sl.m Sl.F.kp Sl.b .nil aw (ac (ak aO (ap GH hr Z7 Hd.m Hd.F.kp Hd.b .nil aw (ac ag (ac (ak aM (ak aM (pv 2) ag) (ak aK (pv 4) ag)) (ac (pv 2) ae)))) (pv 0)) ae)) (ac (aC (ac aB ae)) ae))))) ay)
  (ah (aI (ax bg (pv 5) ag (az _)) (ai (au (aC (ac (ap GS hr Z7 Sl.m Sl.F.kp Sl.b .nil aw (ac (ak aO (ak aO (ap GH hr Z7 Hd.m Hd.F.kp Hd.b .nil aw (ac ag (ac (pv 2) (ac (ak aM (pv 2) ag) ae)))) (pv 0)) (aq (ac (ak aK (pv 4) ag) ae))) ae)) (ac (aC (ac aB ae)) ae))))) ay)
  (ah (aI (ax bg (pv 5) ag (az _)) (ai (au (aC (ac (ap GS hr Z7 Sl.m Sl.F.kp Sl.b .nil aw (ac (ak aO (ap GH hr Z7 Hd.m Hd.F.kp Hd.b .nil aw (ac ag (ac ag (ac ag ae)))) (aq (ac (ak aN (aS aG (pv 0) ag (λ _ _=>rfl)) ag) (ac (ak aM (ak aM (ak bj (ak aK (aS aG (pv 0) ag (λ _ _=>rfl)) ag) ag) ag) (ak aK (pv 4) ag)) ae)))) ae)) (ac (aC (ac aB ae)) ae))))) ay)
  (ah (aI (ax bg (pv 5) ag (az _)) (ai (au (aC (ac (aS aG (aq (ac bf (ac (bq bJ Z7 tup uC (ac (pv 3) ae)) (ac (ak aO (bi bw (pv 3) b8 (bo (gz ef ag))) (aq (ac ag ae))) (ac aB (ac (ak aO (pv 3) (aq (ac cj ae))) (ac (aq (ac (gz ef ag) ae)) ae))))))) (ak aK (pv 4) ag) (λ _ _=>rfl)) (ac (aC (ac aB ae)) ae))))) ay)
  (ah (aI (ax bg (pv 5) ag (az _)) (ai (au (aC (ac (ap GS hr Z7 Sl.m Sl.F.kp Sl.b .nil aw (ac (ak aO (ap GH hr Z7 Hd.m Hd.F.kp Hd.b .nil aw (ac ag (ac (ak aM ag (ak aK (pv 4) ag)) (ac ag ae)))) (aq (ac (ak aM (ak bj (ak aK (pv 4) ag) ag) (ak aN (aS aG (pv 0) ag (λ _ _=>rfl)) ag)) (ac (ak bj (ak aK (aS aG (pv 0) ag (λ _ _=>rfl)) ag) ag) ae)))) ae)) (ac (aq (ac (ak dt (aq (ac (aS aG (pv 0) ag (λ _ _=>rfl)) ae)) (ak aM ag (ak aK (pv 4) ag))) ae)) ae))))) ay)
  (ai (au (aC (ac (pv 3) (ac (aq (ac (pv 0) ae)) ae))))))))))))))))))),?_⟩
 refine seq_g λ _ g=>⟨_,rfl,a,_,rfl,.inl (SqL.of ha),g _ _ ?_⟩
 clear g
 try dsimp only
 rw [rg];have e0:64*0+T.length-1=T.length-1:=by omega
 have hh8:∀{u v:Nat},u<256->v<256->∀x∈wc u v,x<256:=λ h1 h2=>gB h1 h2
 have cat:∀{H2:Hp} {l1 l2:vR} {A D:List Nat} {Q':VK},H2 l1=some (.lst (A.map vN))->H2 l2=some (.lst (D.map vN))->A.length+D.length≤2000->(∀l,H2 l=none->Q' (.ref l) (upd H2 l (.lst ((A++D).map vN))))->pA (.ref l1) (.ref l2) H2 Q':=by
  intro H2 l1 l2 A D Q' h1 h2 hl q;refine⟨l1,l2,_,_,rfl,rfl,h1,h2,cq (by rw [rg,rg];exact hl),λ l nl=>?_⟩;have:=q l nl;rw [tD] at this;exact this
 have byt:∀{u v:Nat} {D:List Nat},u<256->v<256->(∀x∈D,x<256)->∀x∈wc u v++D,x<256:=λ h1 h2 h3 x hx=>(sL.mp hx).elim (gB h1 h2 x) (h3 x)
 have dueW:∀(i:Nat) (z:Str) (B:List Nat) (H2:Hp) (l:vR),wd i=z->Same H H2->H2 l=some (.lst (B.map vN))->(∀b∈B,b<256)->B.length≤1000->BkK B (.inl i)->∀d,H2 d=none->∀t,(upd H2 d (.tup [.str z])) t=none->Q (.ref t) (upd (upd H2 d (.tup [.str z])) t (.tup [.ref l,.ref d])):=by
  intro i z B H2 l hz s2 hl hb hlen hk d nd t nt;subst hz;have s3:=af (o:=.tup [.str (wd i)]) nd;have s4:=af (o:=.tup [.ref l,.ref d]) nt;exact k t _ _ _ ((s2.trans s3).trans s4) ad (.inr ⟨B,.inl i,⟨l,rfl,s4 _ _ (s3 _ _ hl),hb⟩,hlen,hk,d,rfl,s4 _ _ ad⟩)
 refine seq_g λ _ g=>⟨_,rfl,_,rfl,0,T.length,T.length,rfl,Z9,hT1,by omega,by omega,λ l1 H1 n1 s1 h1=>⟨_,rfl,cat h1 (s1 _ _ ha) (by show 3+_≤_;omega) λ l2 n2=>
  ⟨l2,_,rfl,ad,byt (by omega) (by omega) hb,by rw [rq];show 3+_≤_;omega,λ lb H3 nb s3 hB=>g _ _ ?_⟩⟩⟩
 clear g;rw [e0] at hB;have nlb:H lb=none:=none_of (s1.trans (af n2)) nb;have sB:=(s1.trans (af n2)).trans s3;clear s1 s3 n2 n1 h1 nb;have hB0:=cG (T.length-1) T.length T;generalize hr0:T++two (chk 16 45 (wc (T.length-1) T.length++T))=r0 at hB0;have hr0l:r0.length=T.length+2:=by rw [<-hr0];simp [two]
 have hlenB:(sld (wc (T.length-1) T.length++T)).length=T.length+5:=by rw [hB0,rq,hr0l];show 3+_=_;omega
 have hBb:∀b∈sld (wc (T.length-1) T.length++T),b<256:=bH (byt (by omega) (by omega) hb);have bk0:BkK (sld (wc (T.length-1) T.length++T)) (.inr T):=hJ (o:=some T) hT1 (by omega) rfl (by
  have e1:(T.length-1)/64=0:=by omega
  have e2:(T.length-1)%64+1=T.length:=by omega
  rw [e1,e2];exact .raw)
 have bkt:∀{j e:Nat},e<8->(hj:j<(sld (wc (T.length-1) T.length++T)).length)->BkK ((sld (wc (T.length-1) T.length++T)).set j ((sld (wc (T.length-1) T.length++T))[j]^^^2^e)) (.inl (if j<3 then 0 else 1)):=λ he hj=>nA hT1 (by omega) (by omega) rfl hb he hj
 generalize hBq:sld (wc (T.length-1) T.length++T)=B at*;have ha3:=sB _ _ ha;refine seq_g λ _ g=>⟨_,rfl,_,_,rfl,rfl,⟨Z9,Z9⟩,_,rfl,lb,_,rfl,.inl (SqL.of hB),_,_,rfl,rfl,.inl ⟨Z9,Z9⟩,_,_,rfl,rfl,?_,g _ _ ?_⟩
 ·show(0:Int)<8*_;rw [rg];omega
 clear g;have e1:((c:Nat):Int)/12%(8*((B.map vN).length:Int))=((c/12%(8*(T.length+5)):Nat):Int):=by
  rw [rg,hlenB,show((c:Nat):Int)/12=((c/12:Nat):Int) by omega,show(8:Int)*((T.length+5:Nat):Int)=((8*(T.length+5):Nat):Int) by omega];exact(Int.natCast_emod _ _).symm
 try dsimp only
 rw [e1];have hat:c/12%(8*(T.length+5))<8*(T.length+5):=ss _ (by omega);generalize c/12%(8*(T.length+5))=q at*;have e2:((c:Nat):Int)%12=((c%12:Nat):Int):=by omega
 refine seq_g λ _ g=>⟨_,rfl,_,_,rfl,rfl,(by show(0:Int)<12;decide),g _ _ ?_⟩
 clear g
 try dsimp only
 rw [e2];generalize c%12=way at*;clear e1 e2;have m8:((q:Nat):Int)/8=((q/8:Nat):Int):=by omega
 have hj:q/8<B.length:=by rw [hlenB];omega
 refine seq_g λ _ g=>⟨_,rfl,rfl,_,rfl,aT (λ _=>?_) (λ _=>g _ _ ?_)⟩
 ·clear g;refine⟨_,rfl,_,rfl,_,_,rfl,rfl,⟨Z9,Z9⟩,_,rfl,lb,_,rfl,SqL.of hB,λ l nl=>?_⟩
  try dsimp only
  rw [m8,gM,<-u4];refine⟨zl1,λ d nd=>⟨zl2,λ t nt=>dueW 0 _ _ _ l rfl (sB.trans (af nl)) ad (λ b z=>hBb b (sG z)) (by rw [rW];omega) ?_ d nd t nt⟩⟩;rw [hB0];exact pq hT1 (by omega) hr0l (by omega)
 clear g;refine seq_g λ _ g=>⟨_,rfl,rfl,_,rfl,aT (λ _=>?_) (λ _=>g _ _ ?_)⟩
 ·clear g;refine⟨_,rfl,zl1,λ l1 n1=>?_⟩;have s1:=af (o:=.lst [.int 0]) n1;have e3:(1:Int)+((q:Nat):Int)%3=((1+q%3:Nat):Int):=by omega
  refine⟨_,rfl,_,_,rfl,rfl,(by show(0:Int)<3;decide),_,_,rfl,rfl,l1,_,_,rfl,rfl,ad,(by omega),(by omega),(by show 1*_≤sizeLine;exact cq (by omega)),λ l2 n2=>?_⟩;have e4:(List.replicate (((1:Int)+((q:Nat):Int)%3)).toNat [V.int 0]).flatten=(List.replicate (1+q%3) 0).map vN:=by rw [e3,rD];exact bO _ 0
  try dsimp only
  rw [e4];have s2:=af (o:=.lst ((List.replicate (1+q%3) 0).map vN)) n2;refine cat (s2 _ _ (s1 _ _ hB)) ad (by rw [rZ];omega) λ l nl=>?_
  refine⟨zl1,λ d nd=>⟨zl2,λ t nt=>dueW 0 _ _ _ l rfl (((sB.trans s1).trans s2).trans (af nl)) ad (λ b z=>(sL.mp z).elim (hBb b) λ z=>by rw [tE z];exact Z9) (by rw [rq,rZ];omega) ?_ d nd t nt⟩⟩;rw [hB0,uM];exact iO hT1 (by omega) (by rw [rq,rZ];omega)
 clear g;refine seq_g λ _ g=>⟨_,rfl,rfl,_,rfl,aT (λ _=>?_) (λ _=>g _ _ ?_)⟩
 ·clear g;have gv:(B.map vN)[q/8]?=some (vN B[q/8]):=by rw [si,rT hj];rfl
  have m3:((q:Nat):Int)%8=((q%8:Nat):Int):=by omega
  refine⟨_,rfl,_,rfl,_,_,rfl,rfl,⟨Z9,Z9⟩,lb,_,_,_,rfl,rfl,SqL.of hB,(by rw [m8];exact aE gv),_,rfl,_,_,rfl,rfl,(by show(0:Int)<8;decide),_,_,rfl,rfl,?_,_,_,rfl,rfl,_,rfl,_,rfl,_,_,rfl,rfl,⟨Z9,Z9⟩,lb,_,_,q/8,rfl,rfl,hB,(by rw [m8];exact mh (by rw [rg];exact hj)),?_⟩
  ·exact⟨by show(0:Int)≤_;omega,by show _≤(_:Int);omega,Z9⟩
  have e5:Builtin.bitXor ((B[q/8]:Nat):Int) (1*2^(((q:Nat):Int)%8).toNat)=((B[q/8]^^^2^(q%8):Nat):Int):=by
   rw [m3,rD,Int.one_mul];exact cg _ _
  try dsimp only
  rw [e5];have hset:(upd H3 lb (.lst ((B.map vN).set (q/8) (vN (B[q/8]^^^2^(q%8)))))) lb=some (.lst ((B.set (q/8) (B[q/8]^^^2^(q%8))).map vN)):=by rw [ad,List.map_set]
  have s1:Same H (upd H3 lb (.lst ((B.map vN).set (q/8) (vN (B[q/8]^^^2^(q%8)))))):=λ c o e=>by rw [ao (am e nlb)];exact sB _ _ e
  generalize upd H3 lb (.lst ((B.map vN).set (q/8) (vN (B[q/8]^^^2^(q%8)))))=H4 at*;have hb':∀b∈B.set (q/8) (B[q/8]^^^2^(q%8)),b<256:=λ b z=>by
   rcases List.mem_or_eq_of_mem_set z with z|z
   ·exact hBb b z
   ·rw [z];exact sR (n:=8) (hBb _ (tT hj)) (uk (by decide) (ss _ Z9))
  have hk:=bkt (e:=q%8) (ss _ Z9) hj;refine⟨_,rfl,_,rfl,_,_,rfl,rfl,_,rfl,aT (λ h=>⟨zl1,λ d nd=>⟨zl2,λ t nt=>dueW 0 _ _ _ lb rfl s1 hset hb' (by rw [ud];omega) ?_ d nd t nt⟩⟩) (λ h=>⟨zl1,λ d nd=>⟨zl2,λ t nt=>dueW 1 _ _ _ lb rfl s1 hset hb' (by rw [ud];omega) ?_ d nd t nt⟩⟩)⟩
  ·have:((q:Nat):Int)<24:=rE h;rw [se (by omega)] at hk;exact hk
  ·have:¬(((q:Nat):Int)<24):=λ z=>h (rn z)
   rw [rO (by omega)] at hk;exact hk
 clear g bkt;refine seq_g λ _ g=>⟨_,rfl,rfl,_,rfl,aT (λ _=>?_) (λ _=>g _ _ ?_)⟩
 ·clear g;refine⟨zl2,λ l1 n1=>?_⟩;have s1:=af (o:=.lst ([0,0].map vN)) n1;refine⟨l1,[0,0],8,29,rfl,wp8,ad,λ b z=>by simp at z;omega,Z9,λ H4 s4=>⟨zl3,λ l2 n2=>?_⟩⟩;have s2:=af (o:=.lst ((wc 0 0).map vN)) n2;have s12:=((sB.trans s1).trans s4).trans s2;refine⟨_,rfl,cat (A:=wc 0 0) ad (s12 _ _ ha) (by show 3+_≤_;omega) λ l3 n3=>⟨l3,_,rfl,ad,byt Z9 Z9 hb,by rw [rq];show 3+_≤_;omega,λ l H5 nl s5 hl=>?_⟩⟩;refine⟨zl1,λ d nd=>⟨zl2,λ t nt=>dueW 0 _ _ _ l rfl ((s12.trans (af n3)).trans s5) hl (bH (byt Z9 Z9 hb)) (by rw [bv,rq];show 3+_+2≤_;omega) ?_ d nd t nt⟩⟩;rw [cG];exact .head (.tail rfl (.tail rfl rfl rfl))
 clear g;refine seq_g λ _ g=>⟨_,rfl,rfl,_,rfl,aT (λ _=>?_) (λ _=>g _ _ ?_)⟩
 ·clear g;obtain⟨v,hv,hv2,hv3⟩:∃v:Nat,([V.int 0,V.int 65,V.int 255]:List V)[q%3]?=some (vN v)/\v<256/\(v=0\/64<v):=by
   have:q%3<3:=ss _ Z9;generalize q%3=j at*
   match j,this with
   |0,_=>exact⟨0,rfl,Z9,.inl rfl⟩
   |1,_=>exact⟨65,rfl,Z9,.inr Z9⟩
   |2,_=>exact⟨255,rfl,Z9,.inr Z9⟩
  have m3:((q:Nat):Int)%3=((q%3:Nat):Int):=by omega
  refine seq_g λ _ g=>⟨zl3,λ l1 n1=>⟨_,rfl,_,_,rfl,rfl,(by show(0:Int)<3;decide),l1,_,_,_,rfl,rfl,SqL.of ad,(by rw [m3];exact aE hv),g _ _ ?_⟩⟩
  clear g;have s1:=sB.trans (af (o:=.lst [.int 0,.int 65,.int 255]) n1);generalize upd H3 l1 (.lst [.int 0,.int 65,.int 255])=H4 at*;have e3:(1:Int)+((T.length:Nat):Int)=((1+T.length:Nat):Int):=by omega
  refine seq_g λ _ g=>⟨_,rfl,_,_,rfl,rfl,_,rfl,zl2,λ l2 n2=>g _ _ ?_⟩
  clear g
  try dsimp only
  rw [e3];have s2:=s1.trans (af (o:=.lst ([1+T.length,v].map vN)) n2);have h2:(upd H4 l2 (.lst ([1+T.length,v].map vN))) l2=some (.lst ([1+T.length,v].map vN)):=ad;refine⟨_,rfl,_,rfl,l2,[1+T.length,v],8,29,rfl,wp8,h2,λ b z=>by simp at z;omega,(by show 2≤1000;decide),λ H5 s5=>⟨zl1,λ l3 n3=>?_⟩⟩;have s3:=af (o:=.lst ([chk 8 29 [1+T.length,v]].map vN)) n3;have s25:=(s2.trans s5).trans s3;refine cat (A:=[1+T.length,v]) (D:=[chk 8 29 [1+T.length,v]]) (s3 _ _ (s5 _ _ h2)) ad (by show 2+1≤2000;decide) λ l4 n4=>?_
  have s4:=af (o:=.lst ((wc (1+T.length) v).map vN)) n4;have s45:=s25.trans s4;refine⟨_,rfl,cat (A:=wc (1+T.length) v) ad (s45 _ _ ha) (by show 3+_≤_;omega) λ l5 n5=>⟨l5,_,rfl,ad,byt (by omega) hv2 hb,by rw [rq];show 3+_≤_;omega,λ l H6 nl s6 hl=>?_⟩⟩;refine⟨zl1,λ d nd=>⟨zl2,λ t nt=>dueW 0 _ _ _ l rfl ((s45.trans (af n5)).trans s6) hl (bH (byt (by omega) hv2 hb)) (by rw [bv,rq];show 3+_+2≤_;omega) ?_ d nd t nt⟩⟩;rw [cG];exact .head (.bad rfl (.far rfl (λ z=>by omega) hv3))
 clear g;have e6:((T.length:Nat):Int)+1=((T.length+1:Nat):Int):=by omega
 refine seq_g λ _ g=>⟨_,rfl,rfl,_,rfl,aT (λ _=>?_) (λ _=>g _ _ ?_)⟩
 ·clear g;refine⟨_,rfl,_,rfl,_,_,rfl,rfl,0,T.length,T.length+1,(by dsimp only;rw [e6];rfl),Z9,hT1,by omega,by omega,λ l1 H4 n1 s1 h1=>?_⟩;have s14:=sB.trans s1;refine⟨_,rfl,cat h1 (s14 _ _ ha) (by show 3+_≤_;omega) λ l2 n2=>⟨l2,_,rfl,ad,byt (by omega) (by omega) hb,by rw [rq];show 3+_≤_;omega,λ l H5 nl s5 hl=>?_⟩⟩;refine⟨zl1,λ d nd=>⟨zl2,λ t nt=>dueW 0 _ _ _ l rfl ((s14.trans (af n2)).trans s5) hl (bH (byt (by omega) (by omega) hb)) (by rw [bv,rq];show 3+_+2≤_;omega) ?_ d nd t nt⟩⟩;rw [cG];exact iO (by omega) (by omega) (by simp [two])
 clear g;refine seq_g λ _ g=>⟨_,rfl,rfl,_,rfl,aT (λ _=>?_) (λ _=>g _ _ ?_)⟩
 ·clear g;have e7:((T.length:Nat):Int)+1+((q:Nat):Int)%9=((T.length+1+q%9:Nat):Int):=by omega
  refine⟨_,rfl,_,_,rfl,rfl,_,rfl,_,_,rfl,rfl,(by show(0:Int)<9;decide),_,_,rfl,rfl,_,rfl,0,T.length+1+q%9,T.length,(by dsimp only;rw [e7];rfl),Z9,by omega,by omega,by omega,λ l1 H4 n1 s1 h1=>?_⟩;have s14:=sB.trans s1;refine⟨_,rfl,cat h1 (s14 _ _ ha) (by show 3+_≤_;omega) λ l2 n2=>⟨l2,_,rfl,ad,byt (by omega) (by omega) hb,by rw [rq];show 3+_≤_;omega,λ l H5 nl s5 hl=>?_⟩⟩;refine⟨zl1,λ d nd=>⟨zl2,λ t nt=>dueW 2 _ _ _ l rfl ((s14.trans (af n2)).trans s5) hl (bH (byt (by omega) (by omega) hb)) (by rw [bv,rq];show 3+_+2≤_;omega) ?_ d nd t nt⟩⟩;refine hJ (o:=none) hT1 (by omega) rfl ?_;rw [show(64*0+(T.length+1+q%9)-1)/64=0 by omega];exact .few (by omega)
 clear g;refine seq_g λ _ g=>⟨_,rfl,rfl,_,rfl,aT (λ _=>?_) (λ _=>g _ _ ?_)⟩
 ·clear g;have e8:((q:Nat):Int)%256=((q%256:Nat):Int):=by omega
  refine⟨_,rfl,_,rfl,_,_,rfl,rfl,0,T.length,T.length+1,(by dsimp only;rw [e6];rfl),Z9,hT1,by omega,by omega,λ l1 H4 n1 s1 h1=>?_⟩;have s14:=sB.trans s1;refine⟨_,rfl,cat h1 (s14 _ _ ha) (by show 3+_≤_;omega) λ l2 n2=>?_⟩;have s2:=af (o:=.lst ((wc (64*0+T.length-1) (T.length+1)++T).map vN)) n2;refine⟨_,rfl,_,_,rfl,rfl,(by show(0:Int)<256;decide),zl1,λ l3 n3=>?_⟩;have h3:(upd (upd H4 l2 (.lst ((wc (64*0+T.length-1) (T.length+1)++T).map vN))) l3 (.lst [V.int (((q:Nat):Int)%256)])) l3=some (.lst ([q%256].map vN)):=by rw [ad,e8];rfl
  have s3:=af (o:=.lst [V.int (((q:Nat):Int)%256)]) n3;refine cat (s3 _ _ ad) h3 (by rw [rq];show 3+_+1≤_;omega) λ l4 n4=>?_
  have hb8:∀x∈T++[q%256],x<256:=λ x z=>(sL.mp z).elim (hb x) λ z=>by rw [rJ.mp z];exact ss _ Z9
  rw [uM];refine⟨l4,_,rfl,ad,byt (by omega) (by omega) hb8,by rw [rq,rq];show 3+(_+1)≤_;omega,λ l H5 nl s5 hl=>?_⟩;refine⟨zl1,λ d nd=>⟨zl2,λ t nt=>dueW 2 _ _ _ l rfl ((((s14.trans s2).trans s3).trans (af n4)).trans s5) hl (bH (byt (by omega) (by omega) hb8)) (by rw [bv,rq,rq];show 3+(_+1)+2≤_;omega) ?_ d nd t nt⟩⟩;refine hJ (o:=none) (by omega) (by omega) (by rw [rq];rfl) ?_;rw [show(64*0+T.length-1)/64=0 by omega,show(64*0+T.length-1)%64+1=T.length by omega];exact .more (by rw [rq];exact uu _)
 clear g;obtain⟨t0,hT0,ht0⟩:∃t0,(T.map vN)[0]?=some (vN t0)/\T[0]?=some t0:=by
  cases T with
  |nil=>cases hT1
  |cons x r=>exact⟨x,rfl,rfl⟩
 have ht8:t0<256:=hb t0 (sO ht0);have dueL:∀(B T':List Nat) (H2:Hp) (l lt:vR),Same H H2->H2 l=some (.lst (B.map vN))->(∀b∈B,b<256)->B.length≤1000->BkK B (.inr T')->H2 lt=some (.lst (T'.map vN))->∀d,H2 d=none->∀t,(upd H2 d (.lst [.ref lt])) t=none->Q (.ref t) (upd (upd H2 d (.lst [.ref lt])) t (.tup [.ref l,.ref d])):=by
  intro B T' H2 l lt s2 hl hb hlen hk wa d nd t nt;have s3:=af (o:=.lst [.ref lt]) nd;have s4:=af (o:=.tup [.ref l,.ref d]) nt;exact k t _ _ _ ((s2.trans s3).trans s4) ad (.inr ⟨B,.inr T',⟨l,rfl,s4 _ _ (s3 _ _ hl),hb⟩,hlen,hk,d,rfl,lt,s4 _ _ ad,s4 _ _ (s3 _ _ wa)⟩)
 refine seq_g λ _ g=>⟨_,rfl,rfl,_,rfl,aT (λ _=>?_) (λ _=>g _ _ ?_)⟩
 ·clear g;refine⟨1,1,2,rfl,Z9,Z9,Z9,Z9,λ l1 H4 n1 s1 h1=>?_⟩;have s14:=sB.trans s1;refine⟨_,rfl,a,_,_,_,rfl,rfl,SqL.of (s14 _ _ ha),aE (j:=0) hT0,_,_,rfl,rfl,⟨Z9,Z9⟩,_,rfl,a,_,_,_,rfl,rfl,SqL.of (s14 _ _ ha),aE (j:=0) hT0,_,_,rfl,rfl,(by show(0:Int)<64;decide),_,_,rfl,rfl,.inr ⟨Z9,Z9⟩,_,_,rfl,rfl,_,rfl,_,_,rfl,rfl,(by show(0:Int)<3;decide),_,_,rfl,rfl,zl2,λ l2 n2=>?_⟩;have e9: [V.int (((t0:Nat):Int)/64),V.int (((t0:Nat):Int)%64*4+1+((q:Nat):Int)%3)]=[t0/64,t0%64*4+1+q%3].map vN:=by
   rw [show((t0:Nat):Int)/64=((t0/64:Nat):Int) by omega,show((t0:Nat):Int)%64*4+1+((q:Nat):Int)%3=((t0%64*4+1+q%3:Nat):Int) by omega];rfl
  try dsimp only
  try dsimp only at n2
  rw [e9];have s2:=af (o:=.lst ([t0/64,t0%64*4+1+q%3].map vN)) n2;have hb9:∀x∈ [t0/64,t0%64*4+1+q%3],x<256:=λ x z=>by simp at z;omega
  refine cat (s2 _ _ h1) ad (by show 3+2≤2000;decide) λ l3 n3=>⟨l3,_,rfl,ad,byt Z9 Z9 hb9,(by show 5≤1000;decide),λ l H5 nl s5 hl=>?_⟩
  refine⟨zl1,λ d nd=>⟨zl2,λ t nt=>dueW 2 _ _ _ l rfl (((s14.trans s2).trans (af n3)).trans s5) hl (bH (byt Z9 Z9 hb9)) (by rw [bv];show 5+2≤1000;decide) ?_ d nd t nt⟩⟩;refine hJ (o:=none) (b:=2) Z9 Z9 rfl ?_;have h:=TxK.odd (R:=[t0/64,t0%64*4+1+q%3]) rfl (by rw [lZ];omega);rw [ql (by omega) (by omega),show t0/64/4=0 by omega] at h;exact h
 clear g;refine seq_g λ _ g=>⟨_,rfl,rfl,_,rfl,aT (λ _=>?_) (λ _=>g _ _ ?_)⟩
 ·clear g;refine⟨_,rfl,lb,_,rfl,.inl ⟨SqL.of hB,λ l1 n1=>?_⟩⟩;have s1:=af (o:=.tup (B.map vN)) n1;have h1:(upd H3 l1 (.tup (B.map vN))) l1=some (.tup (B.map vN)):=ad;have hB1:=s1 _ _ hB;have s0:=sB.trans s1;generalize upd H3 l1 (.tup (B.map vN))=H4 at*;refine⟨_,rfl,_,rfl,_,rfl,lb,_,rfl,SqL.of hB1,λ l2 n2=>?_⟩;have ec:cutV (B.map vN) none (some (-1))=(B.take (B.length-1)).map vN:=oM B
  try dsimp only
  try dsimp only at n2
  rw [ec];have s2:=af (o:=.lst ((B.take (B.length-1)).map vN)) n2;have h2:(upd H4 l2 (.lst ((B.take (B.length-1)).map vN))) l2=some (.lst ((B.take (B.length-1)).map vN)):=ad;have h1:=s2 _ _ h1;have hB1:=s2 _ _ hB1;have s0:=s0.trans s2;generalize upd H4 l2 (.lst ((B.take (B.length-1)).map vN))=H5 at*;refine⟨zl1,λ l3 n3=>?_⟩;have s3:=af (o:=.lst [.int 256]) n3;refine cat (D:=[256]) (s3 _ _ h2) ad (by rw [rW];show _+1≤2000;omega) λ l4 n4=>?_
  have s4:=af (o:=.lst ((B.take (B.length-1)++[256]).map vN)) n4;have h4:(upd (upd H5 l3 (.lst [.int 256])) l4 (.lst ((B.take (B.length-1)++[256]).map vN))) l4=some (.lst ((B.take (B.length-1)++[256]).map vN)):=ad;have h1:=s4 _ _ (s3 _ _ h1);have hB1:=s4 _ _ (s3 _ _ hB1);have s0:=(s0.trans s3).trans s4;generalize upd (upd H5 l3 (.lst [.int 256])) l4 (.lst ((B.take (B.length-1)++[256]).map vN))=H6 at*;refine⟨_,rfl,zl1,λ l5 n5=>?_⟩;have s5:=af (o:=.lst [.bl true]) n5;refine⟨lb,l5,_,_,rfl,rfl,s5 _ _ hB1,ad,cq (by rw [rg];show _+1≤2000;omega),λ l6 n6=>?_⟩;have s6:=af (o:=.lst (B.map vN++[.bl true])) n6;have h6:(upd (upd H6 l5 (.lst [.bl true])) l6 (.lst (B.map vN++[.bl true]))) l6=some (.lst (B.map vN++[.bl true])):=ad;have h1:=s6 _ _ (s5 _ _ h1);have h4:=s6 _ _ (s5 _ _ h4);have s0:=(s0.trans s5).trans s6;generalize upd (upd H6 l5 (.lst [.bl true])) l6 (.lst (B.map vN++[.bl true]))=H7 at*;refine⟨_,rfl,zl1,λ l7 n7=>⟨zl6,λ lo no=>?_⟩⟩;have s7:=af (o:=.lst [.int (-1)]) n7;have h7:(upd H7 l7 (.lst [.int (-1)])) l7=some (.lst [.int (-1)]):=ad;have s8:=af (o:=.lst [.non,.ref l1,.ref l4,.str (Str.ofString "12"),.ref l6,.ref l7]) no;have h8:(upd (upd H7 l7 (.lst [.int (-1)])) lo (.lst [.non,.ref l1,.ref l4,.str (Str.ofString "12"),.ref l6,.ref l7])) lo=some (.lst [.non,.ref l1,.ref l4,.str (Str.ofString "12"),.ref l6,.ref l7]):=ad;have h1:=s8 _ _ (s7 _ _ h1);have h4:=s8 _ _ (s7 _ _ h4);have h6:=s8 _ _ (s7 _ _ h6);have h7:=s8 _ _ h7;have s0:=(s0.trans s7).trans s8;generalize (upd (upd H7 l7 (.lst [.int (-1)])) lo (.lst [.non,.ref l1,.ref l4,.str (Str.ofString "12"),.ref l6,.ref l7]))=H8 at*;clear s1 s2 s3 s4 s5 s6 s7 s8;obtain⟨x,hx,hN⟩:∃x,([.non,.ref l1,.ref l4,.str (Str.ofString "12"),.ref l6,.ref l7]:List V)[q%6]?=some x/\∀H',Same H8 H'->Rf.NoRow K H' x:=by
   have:q%6<6:=ss _ Z9;generalize q%6=j at*
   match j,this with
   |0,_=>exact⟨_,rfl,λ H' s=>bN .non Z9⟩
   |1,_=>exact⟨_,rfl,λ H' s=>bN (.tup (s _ _ h1)) Z9⟩
   |2,_=>
    refine⟨_,rfl,λ H' s=>.inr ⟨l4,_,B.length-1,vN 256,rfl,s _ _ h4,λ i hi=>?_,?_,.inl ⟨256,rfl,rfl⟩⟩⟩
    ·have hi2:i<B.length:=by omega
     refine⟨B[i],hBb _ (tT hi2),?_⟩;rw [si,uo (by rw [rW];omega),List.getElem?_take_of_lt hi,rT hi2];rfl
    ·rw [si,uj (by rw [rW];omega),rW,show B.length-1-min (B.length-1) B.length=0 by omega];rfl
   |3,_=>exact⟨_,rfl,λ H' s=>bN (.str _) Z9⟩
   |4,_=>
    refine⟨_,rfl,λ H' s=>.inr ⟨l6,_,B.length,.bl true,rfl,s _ _ h6,λ i hi=>?_,?_,.inr ⟨.bl true,rfl⟩⟩⟩
    ·refine⟨B[i],hBb _ (tT hi),?_⟩;rw [uo (by rw [rg];exact hi),si,rT hi];rfl
    ·rw [uj (by rw [rg];exact rB _),rg,Nat.sub_self];rfl
   |5,_=>exact⟨_,rfl,λ H' s=>eG (s _ _ h7) rfl (.inl ⟨-1,rfl,rfl⟩)⟩
  have m6:((q:Nat):Int)%6=((q%6:Nat):Int):=by omega
  refine⟨_,rfl,_,_,rfl,rfl,(by show(0:Int)<6;decide),lo,_,_,x,rfl,rfl,SqL.of h8,(by rw [m6];exact aE hx),zl1,λ d nd=>⟨zl2,λ t nt=>?_⟩⟩;have s3:=af (o:=.tup [.str (Str.ofString "row")]) nd;have s4:=af (o:=.tup [x,.ref d]) nt;exact k t _ _ _ ((s0.trans s3).trans s4) ad (.inl ⟨hN _ (s3.trans s4),d,rfl,s4 _ _ ad⟩)
 clear g;refine seq_g λ _ g=>⟨_,rfl,rfl,_,rfl,aT (λ _=>?_) (λ _=>g _ _ ?_)⟩
 ·clear g;have e11:(1:Int)+((q:Nat):Int)%64=((1+q%64:Nat):Int):=by omega
  refine⟨_,rfl,_,_,rfl,rfl,(by show(0:Int)<64;decide),_,_,rfl,rfl,1,1+q%64,2,(by dsimp only;rw [e11];rfl),Z9,by omega,by omega,Z9,λ l1 H4 n1 s1 h1=>?_⟩;have s14:=sB.trans s1;refine⟨_,rfl,_,_,rfl,rfl,(by show(0:Int)<64;decide),_,_,rfl,rfl,.inr ⟨Z9,Z9⟩,_,rfl,a,_,_,_,rfl,rfl,SqL.of (s14 _ _ ha),aE (j:=0) hT0,_,_,rfl,rfl,⟨Z9,Z9⟩,_,_,rfl,rfl,_,rfl,a,_,_,_,rfl,rfl,SqL.of (s14 _ _ ha),aE (j:=0) hT0,_,_,rfl,rfl,(by show(0:Int)<64;decide),_,_,rfl,rfl,.inr ⟨Z9,Z9⟩,zl2,λ l2 n2=>?_⟩;have e9: [V.int (((q:Nat):Int)%64*4+((t0:Nat):Int)/64),V.int (((t0:Nat):Int)%64*4)]=[q%64*4+t0/64,t0%64*4].map vN:=by
   rw [show((q:Nat):Int)%64*4+((t0:Nat):Int)/64=((q%64*4+t0/64:Nat):Int) by omega,show((t0:Nat):Int)%64*4=((t0%64*4:Nat):Int) by omega];rfl
  try dsimp only
  try dsimp only at n2
  rw [e9];have s2:=af (o:=.lst ([q%64*4+t0/64,t0%64*4].map vN)) n2;have hb9:∀x∈ [q%64*4+t0/64,t0%64*4],x<256:=λ x z=>by simp at z;omega
  refine cat (s2 _ _ h1) ad (by show 3+2≤2000;decide) λ l3 n3=>⟨l3,_,rfl,ad,byt (by omega) Z9 hb9,(by show 5≤1000;decide),λ l H5 nl s5 hl=>?_⟩
  have s15:=((s14.trans s2).trans (af n3)).trans s5;refine⟨_,rfl,a,_,_,_,rfl,rfl,SqL.of (s15 _ _ ha),aE (j:=0) hT0,zl1,λ l4 n4=>?_⟩;have s6:=af (o:=.lst [vN t0]) n4;refine⟨_,rfl,_,_,rfl,rfl,(by show(0:Int)<64;decide),_,_,rfl,rfl,l4,_,_,rfl,rfl,ad,(by omega),(by omega),(by show 1*_≤sizeLine;exact cq (by omega)),λ l5 n5=>?_⟩;have e4:(List.replicate (((1:Int)+((q:Nat):Int)%64)).toNat [vN t0]).flatten=(List.replicate (1+q%64) t0).map vN:=by rw [e11,rD];exact bO _ t0
  try dsimp only
  try dsimp only at n5
  rw [e4];have s7:=af (o:=.lst ((List.replicate (1+q%64) t0).map vN)) n5;refine⟨zl1,λ d nd=>⟨zl2,λ t nt=>dueL _ (List.replicate (1+q%64) t0) _ l l5 ((s15.trans s6).trans s7) (s7 _ _ (s6 _ _ hl)) (bH (byt (by omega) Z9 hb9)) (by rw [bv];show 5+2≤1000;decide) ?_ ad d nd t nt⟩⟩;refine hJ (o:=some (List.replicate (1+q%64) t0)) (b:=2) Z9 Z9 rfl ?_;have h:=TxK.run (R:=[q%64*4+t0/64,t0%64*4]) rfl (by rw [lZ];omega);rw [ql (by omega) (by omega),qK (by omega),show(q%64*4+t0/64)/4=q%64 by omega,show((q%64*4+t0/64)*64+t0%64*4/4)%256=t0 by omega] at h;rw [show(64*1+(1+q%64)-1)/64=1 by omega,show(64*1+(1+q%64)-1)%64+1=q%64+1 by omega,Nat.add_comm 1 (q%64)];exact h
 clear g;refine⟨_,rfl,_,rfl,zl1,λ d nd=>⟨zl2,λ t nt=>dueL B T H3 lb a sB hB hBb (by omega) bk0 ha3 d nd t nt⟩⟩
end
abbrev gj:v7:=top 124
structure FnD (K:Frag)(mg:Str->Option vS)(x:Str)(st:v7)(ps:List Str)(f:vR)(fd:vW):Prop where
 F:∃dV,FunD K x x st dV f fd
 m:mg x=some (.ref f)
 b:Binds K fd ps []
structure All (K:Frag)(mg:Str->Option vS)(CK CHd CR cR cH cK cB cN C0 C1 C2 C3 B c cP:vR)(cs:List vR):Prop where
 T:Tbk K mg CK CHd CR cR cH cK cB cN C0 C1 C2 C3
 U:Put K mg B cR C0 C1 C2 C3
 E:Ers K mg cP cs
 ec:EC cs cR cH cK cB
 take:∃f fd,FnD K mg "take_block" b9 ["row","before"] f fd
 put:∃f fd,FnD K mg "put_block" cJ ["text","before"] f fd
 best:∃f fd dV,FunC K "best_way" "best_way" cu dV c f fd/\mg "best_way"=some (.ref f)/\Binds K fd ["text","before"] []
 cell:∃f fd,Fn K mg "_law_cell_at" fV ["_law_script","_law_k"] f fd
 mixed:∃f fd,Fn K mg "_law_mixed" iA ["_law_cell","_law_k"] f fd
 word:∃f fd,Fn K mg "_law_word" eO ["_law_e"] f fd
 check:∃f fd,Fn K mg "_law_check" eU ["_law_row","_law_wide"] f fd
 sealed:∃f fd,Fn K mg "_law_sealed" dM ["_law_row"] f fd
 lhead:∃f fd,Fn K mg "_law_head" fQ ["_law_way","_law_count","_law_inside"] f fd
 taken:∃f fd,Fn K mg "_law_taken" gl ["_law_row","_law_window"] f fd
 lput:∃f fd,Fn K mg "_law_put" kb ["_law_text","_law_window"] f fd
 htold:∃f fd,Fn K mg "_law_head_told" gf ["_law_row"] f fd
 rowby:∃f fd,Fn K mg "_law_row_by" iz ["_law_text","_law_cell"] f fd
 win:∃f fd,Fn K mg "_law_windows" lV ["_law_cell"] f fd
theorem _root_.L2.Differ.same {ys:List V}(s:Same H H')(h:Differ K H x ys):Differ K H' x ys:=by
 rcases h with h|h|⟨p,xs,e,h⟩|⟨p,e,h⟩|⟨p,xs,e,h,r⟩
 ·exact .inl h
 ·exact .inr (.inl h)
 ·exact .inr (.inr (.inl ⟨p,xs,e,s _ _ h⟩))
 ·exact .inr (.inr (.inr (.inl ⟨p,e,s _ _ h⟩)))
 ·exact .inr (.inr (.inr (.inr ⟨p,xs,e,s _ _ h,r⟩)))
theorem WnO.same (s:Same H H')(h:WnO K H x):WnO K H' x:=⟨h.1.same s,h.2.1,h.2.2.1.same s,h.2.2.2.same s⟩
theorem Wn.same (s:Same H H')(h:Wn H x):Wn H' x:=by
 rcases h with h|⟨p,e,h|h⟩
 ·exact .inl h
 ·exact .inr ⟨p,e,.inl (s _ _ h)⟩
 ·exact .inr ⟨p,e,.inr (s _ _ h)⟩
theorem RdV.same (s:Same H H')(h:RdV K H x y):RdV K H' x y:=by
 rcases h with⟨h,d,e,hd⟩|⟨B,r,h1,h2,h3,d,e,hd⟩
 ·exact .inl ⟨h.same s,d,e,s _ _ hd⟩
 ·refine .inr ⟨B,r,h1.same s,h2,h3,d,e,?_⟩;cases r with
  |inl i=>exact s _ _ hd
  |inr T=>
   obtain⟨l,q1,q2⟩:=hd;exact⟨l,s _ _ q1,s _ _ q2⟩
theorem m9 {k y z1 z2 x:Str}(hx:List.lookup x ([(".0",.local),(k,.local),(z1,.globalImplicit),(z2,.globalImplicit),(y,.cell)]:List (Str×NameKind))=some .cell\/List.lookup x ([(".0",.local),(k,.local),(z1,.globalImplicit),(z2,.globalImplicit),(y,.cell)]:List (Str×NameKind))=some .free):x=y:=by
 rcases hx with hx|hx
 ·have m':=rX hx;simpa using m'
 ·have m':=rX hx;simp at m'
theorem qW:(["_law_k","_law_script"]:List Str).Nodup:=by decide+kernel
def qR (H:Hp)(d:vR):Option (Nat×Nat×Nat) ⊕ Unit->Prop
 | .inr _=>H d=some (.tup [.str (Str.ofString "head")])
 | .inl none=>H d=some (.lst [.non])
 | .inl (some (u,v,y))=>∃t,H d=some (.lst [.ref t])/\H t=some (.tup [vN u,vN v,vN y])
def pP (K:Frag):TE:=tOp (rI (λ _ j=>0<j) λ i j=>.int (i%j)) (tOp (rI pI λ i j=>.int (i/j)) (gy jb [] E0 (cr (gy (lU K) [] E0 (cr (d9 1) (cr (tC (.int 1)) ee))) (cr (d9 0) ee))) (tC (.int 7))) (tC (.int 256))
section
variable {P:vU}{w:vV}{K:Frag}{mg:Str -> Option vS}{base:vY}{CK CHd CR cR cH cK cB cN C0 C1 C2 C3 B c cP Tb:vR}{cs:List vR}
def ja (K:Frag)(Tb:vR):Sp:=λ vs H Q _=>∃(a:vR) (ns:List Int),vs=[.ref a]/\SqL K H a (ns.map V.int)/\H Tb=some (.tbl #[])/\a≠Tb/\∀H',Q (.bl true) H'
abbrev qI:List Str:=["_law_script","_law_cell","_law_text","_law_row","_law_due","_law_window","_law_none","_law_more","_law_odd","_law_three","_law_other"]
theorem scLaw:FnScope qI ["_law_script"] (aj gj):=⟨rfl,rfl,rfl,Z8,rfl,Z8,Z8⟩
theorem oE (F:Fun K "law" "law" gj f fd)(Y:All K mg CK CHd CR cR cH cK cB cN C0 C1 C2 C3 B c cP cs)(hC:CodeHd base c Tb)(hBm:BmAt mg base)(hK:K.lookup Tb=none):FnOk P w K mg base CX0 42 f fd ["_law_script"] (ja K Tb):=by
 have X:=Y.T.H.N.Y.X;have Er:=Y.E;obtain⟨_,_,Tk⟩:=Y.take;obtain⟨_,Tk'⟩:=Tk.F;obtain⟨_,_,Pb⟩:=Y.put;obtain⟨_,Pb'⟩:=Pb.F;obtain⟨_,_,_,Bw,mW,bW⟩:=Y.best;obtain⟨_,_,Ce⟩:=Y.cell;obtain⟨_,_,Mi⟩:=Y.mixed;obtain⟨_,_,Wd⟩:=Y.word;obtain⟨_,_,Ch⟩:=Y.check;obtain⟨_,_,Se⟩:=Y.sealed;obtain⟨_,_,Lh⟩:=Y.lhead;obtain⟨_,_,Ta⟩:=Y.taken;obtain⟨_,_,Pu⟩:=Y.lput;obtain⟨_,_,Ht⟩:=Y.htold;obtain⟨_,_,Rb⟩:=Y.rowby;obtain⟨_,_,Wi⟩:=Y.win;obtain⟨_,_,Ho⟩:=Y.T.headof;have GC:=nu (P:=P) (w:=w) (base:=base) Ce X;have GM:=lL (P:=P) (w:=w) (base:=base) Mi;have GK:=dR (P:=P) (w:=w) (base:=base) Ch X;have GB:=lK (P:=P) (w:=w) (base:=base) Rb Se Lh Ch X Er.tuple;have GN:=ng (P:=P) (w:=w) (base:=base) Wi;have GT:=jA (P:=P) (w:=w) (base:=base) Ta Tk' Tk.m Tk.b Y.T Wd Er Y.ec;have GP:=nD (P:=P) (w:=w) (base:=base) Pu Pb' Pb.m Pb.b Bw mW bW Y.U hC hBm hK Wd Er Y.ec;have GH:=lW (P:=P) (w:=w) (base:=base) Ht Ho Y.T.H Wd Er Y.ec;refine F.ok scLaw λ v9 A outer st H vs Q E hr h=>?_
 intro _;obtain⟨a,ns,rfl,hS,hT0,haT,k⟩:=h;have hr1:Room 1 _:=hr.mono Z9;have hr3:Room 3 _:=hr.mono Z9;have hr33:Room 33 _:=hr.mono Z9;have hr35:Room 35 _:=hr.mono Z9;have hu:=hr.units;have hu':=tY (ut _ 64) hu;refine⟨_,ah (av (i:=1) scLaw.nd (ap GM hr1 Z7 Mi.m Mi.F.kp Mi.b .nil aw (ac (ap GC hr1 Z7 Ce.m Ce.F.kp Ce.b .nil aw (ac (pv 0) (ac ag ae))) (ac ag ae))))
   (ah (kg (N:=["_law_k","_law_script"]) (js:=[none,some 0]) (cl:=[("_law_script",st.heap.objs.size+1)]) (g:=bE 0) (te:=pP K) (i:=2) scLaw.nd rfl (Or.inl rfl) rfl ⟨rfl,Z8,Z8,Z7,λ x c h=>(by obtain⟨rfl,rfl⟩:=dW h;rfl),λ x hx=>(by obtain rfl:=m9 hx;exact⟨_,rfl⟩),rfl,λ i x j h1 h2=>?c1⟩ (cL Z7 X.range (ac (ak aM ag (ak aK (pv 1) ag)) ae)) (λ fp s H=>a8 (i:=0) qW) (λ fp s H=>ak aK (ak aN (ap GM hr1 Z7 Mi.m Mi.F.kp Mi.b .nil aw (ac (ap GC hr1 Z7 Ce.m Ce.F.kp Ce.b .nil aw (ac (pv 1) (ac ag ae))) (ac (pv 0) ae))) ag) ag) Z7)
   (ah (lF (ap GB hr3 Z7 Rb.m Rb.F.kp Rb.b .nil aw (ac (pv 2) (ac (ap GM hr1 Z7 Mi.m Mi.F.kp Mi.b .nil aw (ac (ap GC hr1 Z7 Ce.m Ce.F.kp Ce.b .nil aw (ac (pv 0) (ac ag ae))) (ac ag ae))) ae))) (lR rfl (dl (a8 (i:=3) scLaw.nd) (dl (a8 (i:=4) scLaw.nd) ju))))
   (ah (av (i:=5) scLaw.nd (ap GN hr1 Z7 Wi.m Wi.F.kp Wi.b .nil aw (ac (ap GM hr1 Z7 Mi.m Mi.F.kp Mi.b .nil aw (ac (ap GC hr1 Z7 Ce.m Ce.F.kp Ce.b .nil aw (ac (pv 0) (ac ag ae))) (ac ag ae))) ae)))
   (ah (av (i:=6) scLaw.nd (cn (bx jk (pv 5) bf (az _)) (cn (bx ((i3 hu).either (iu hu)) (pv 5) (aq (ac ag ae)) (az _)) (cU (bx ((i3 hu).either (iu hu)) (pv 5) (aq ae) (az _))))))
   (ah (aI (PW.pt (iM (ba (pv 6)) (f8 (ax ((dQ hu').either (lp hu)) (pv 4) (aC (ac aB ae)) (az _))))) (ai (av (i:=4) scLaw.nd (aC (ac aB ae)))) ay)
   (ah (aI (ax ((dQ hu').either (nc hu)) (ap GT hr35 Z7 Ta.m Ta.F.kp Ta.b .nil aw (ac (pv 3) (ac (pv 5) ae))) (pv 4) (az _)) (ai (au cj)) ay)
   (ah (av (i:=7) scLaw.nd (ap GM hr1 Z7 Mi.m Mi.F.kp Mi.b .nil aw (ac (ap GC hr1 Z7 Ce.m Ce.F.kp Ce.b .nil aw (ac (pv 0) (ac ag ae))) (ac ag ae))))
   (ah (av (i:=8) scLaw.nd (aS aG (aq (ac (aq ae) (ac (ak dt (aq (ac ag ae)) ag) (ac bf (ac (aq (ac ag ae)) (ac (aC (ac ag ae)) (ac (aq (ac cj ae)) (ac aB (ac (aq (ac (gz ef ag) (ac ag ae))) ae))))))))) (ak aK (pv 7) ag) (λ _ _=>rfl)))
   (ah (aI (PW.pt (fc (ax (dQ hu') (ap GP hr Z7 Pu.m Pu.F.kp Pu.b .nil aw (ac (pv 8) (ac (aq (ac ag ae)) ae))) (aC (ac aB ae)) (az _)) (eB (ax (dQ hu') (ap GP hr Z7 Pu.m Pu.F.kp Pu.b .nil aw (ac (pv 2) (ac (aS aG (aq (ac (ak dt (aq (ac ag ae)) ag) (ac (aC (ac ag ae)) (ac (aq (ac ag ae)) ae)))) (ak aK (ak aN (pv 7) ag) ag) (λ _ _=>rfl)) ae))) (aC (ac aB ae)) (az _))))) (ai (au cj)) ay)
   (ah (av (i:=9) scLaw.nd (aq (ac (ak aK (ak aN (pv 7) ag) ag) (ac (aS aG (aq (ac ag (ac ag (ac ag (ac ag (ac ag (ac (ak aK (ak aN (pv 7) ag) ag) ae))))))) (ak aK (ak aN (pv 7) ag) ag) (λ _ _=>rfl)) ae))))
   (ah (av (i:=9) scLaw.nd (ak aO (pv 9) (aq (ac (ak dy (ap GK hr1 Z7 Ch.m Ch.F.kp Ch.b .nil aw (ac (pv 9) (ac ag ae))) (aS aG (aq (ac ag (ac ag (ac (ak bK ag (ak aK (ak aN (pv 7) ag) ag)) ae)))) (ak aK (ak aN (pv 7) ag) ag) (λ _ _=>rfl))) ae))))
   (ah (av (i:=4) scLaw.nd (aq (ac (aC (ac (ak aN (aS aG (pv 9) ag (λ _ _=>rfl)) ag) (ac (ak aM (ak aK (aS aG (pv 9) ag (λ _ _=>rfl)) ag) ag) (ac (aS aG (pv 9) ag (λ _ _=>rfl)) ae)))) ae)))
   (ah (aI (PW.pt (fc (ax jl (aS aG (pv 9) ag (λ _ _=>rfl)) (ap GK hr1 Z7 Ch.m Ch.F.kp Ch.b .nil aw (ac (bi bw (pv 9) b8 (bo ag)) (ac ag ae))) (az _)) (fc (ax ek (aS aG (pv 9) ag (λ _ _=>rfl)) ag (az _)) (eB (PW.pt (iM (ax bg (aS aG (pv 9) ag (λ _ _=>rfl)) ag (az _)) (f8 (ax ek (aS aG (pv 9) ag (λ _ _=>rfl)) ag (az _))))))))) (ai (av (i:=4) scLaw.nd (aC (ac aB ae)))) (ai (aI (ax (lc hu) (bi bw (pv 9) b8 (bo ag)) (aq (ac ag (ac ag ae))) (az _)) (ai (av (i:=4) scLaw.nd (aq (ac bf ae)))) ay)))
   (ah (av (i:=10) scLaw.nd (aS aG (aq (ac (bi bw (pv 9) b8 (bo ag)) (ac (ak aO (pv 9) (aq (ac ag ae))) (ac bf (ac (bq bJ Z7 Er.tuple uC (ac (pv 9) ae)) (ac (aq (ac ag (ac ag (ac ag ae)))) (ac (aq ae) (ac (aq (ac cj (ac ag (ac ag ae)))) ae)))))))) (ak aK (ak aN (pv 7) ag) ag) (λ _ _=>rfl)))
   (ai (au (cn (bx ((je hu').either (ml hu)) (ap GH hr33 Z7 Ht.m Ht.F.kp Ht.b .nil aw (ac (pv 9) ae)) (pv 4) (az _)) (cU (bx (je hu') (ap GH hr33 Z7 Ht.m Ht.F.kp Ht.b .nil aw (ac (pv 10) ae)) (aC (ac aB ae)) (az _)))))))))))))))))))),?_⟩
 case c1=>obtain⟨rfl,rfl⟩:=ky h1 h2;exact⟨rfl,rfl,rfl,λ c h=>h⟩
 have tb0:TbB Tb H:=⟨_,hT0,.inl rfl⟩;have sq:∀H',Same H H'->SqL K H' a (ns.map V.int):=λ H' s=>by
  rcases hS with(e|⟨o,e⟩)|h
  ·exact .inl (.inl (s _ _ e))
  ·exact .inl (.inr ⟨o,s _ _ e⟩)
  ·exact .inr h
 refine seq_g λ _ g=>⟨_,rfl,a,ns,0,rfl,hS,_,_,rfl,Z9,Z9,g _ _ ?_⟩
 clear g;generalize mixN (ns.getD 0 0) 0=n;refine seq_g λ _ g=>⟨_,rfl,_,_,rfl,rfl,(by show(0:Int)<20;decide),_,_,rfl,rfl,?_⟩
 obtain⟨L,hL1,hL20,eL⟩:∃L:Nat,1≤L/\L≤20/\(1:Int)+((n:Nat):Int)%20=((L:Nat):Int):=⟨1+n%20,by omega,by omega,by omega⟩
 try dsimp only
 rw [eL];refine⟨_,rfl,by omega,by omega,λ lt nlt=>?_⟩;rw [rD];refine fi (g:=bE 0) (te:=pP K) (lo:=0) (l:=lt) (k:=L) (λ p ys σ H2=>∃(v0:Option V) (S:List Nat),σ=[v0,some (.ref a)]/\ys=S.map vN/\S.length=p/\(∀b∈S,b<256)/\H2 lt=some (.lst ys)/\Same H H2)
  ⟨none,[],rfl,rfl,rfl,(λ _ h=>nomatch h),ad,af nlt⟩ ?_ ?_ (λ x σ H A B h z=>h _ _ z) ?_
 ·rintro p ys σ H2 hp ⟨v0,S,rfl,rfl,hl,hb,h2,sm⟩;have e:(0:Int)+((p:Nat):Int)=((p:Nat):Int):=by omega
  rw [e];refine⟨_,rfl,a,ns,1,rfl,sq _ sm,_,rfl,_,_,rfl,by omega,by omega,_,_,rfl,rfl,⟨Z9,Z9⟩,_,_,rfl,rfl,(by show(0:Int)<256;decide),?_⟩
  try dsimp only
  rw [show((mixN (ns.getD 1 0) ((p:Nat):Int):Nat):Int)/7%256=((mixN (ns.getD 1 0) ((p:Nat):Int)/7%256:Nat):Int) by omega];refine⟨h2,i6 (by rw [rg];omega),_,S++[mixN (ns.getD 1 0) ((p:Nat):Int)/7%256],rfl,by rw [tD];rfl,by rw [rq,hl];rfl,λ x hx=>?_,ad,λ d o e=>by rw [ao (am e nlt)];exact sm _ _ e⟩;rcases sL.mp hx with z|z
  ·exact hb _ z
  ·rw [rJ.mp z];exact ss _ Z9
 rotate_left
 ·rintro σ H A B h ⟨v,e1,a',ns',k',e2,e3,v2,e4,c',k2,e5,e6,e7,i,j,f1,f2,f3,i2,j2,f4,f5,f6,z⟩;exact⟨v,e1,a',ns',k',e2,e3,v2,e4,c',k2,e5,e6,e7,i,j,f1,f2,f3,i2,j2,f4,f5,f6,h _ _ z⟩
 rintro ys σ H2 ⟨v0,T,rfl,rfl,hTl,hTb,h2,s2⟩;refine g _ _ ?_;clear g;have tb2:=tb0.same s2;have hS2:=sq _ s2;refine seq_g λ _ g=>⟨_,rfl,_,rfl,a,ns,2,rfl,hS2,_,_,rfl,Z9,Z9,lt,T,_,rfl,h2,hTb,by omega,by omega,λ t x y H3 s3 ht hrd=>⟨t,_,rfl,SqT.of ht,rfl,_,_,rfl,_,_,rfl,rfl,g _ _ ?_⟩⟩
 clear g;have hS3:=sq _ (s2.trans s3);refine seq_g λ _ g=>⟨_,rfl,a,ns,3,rfl,hS3,_,_,rfl,Z9,Z9,_,rfl,λ wn H4 s4 hw=>g _ _ ?_⟩
 clear g;have sA:=(s2.trans s3).trans s4;have hrd4:=hrd.same s4;have h4:=s4 _ _ (s3 _ _ h2);refine seq_g λ R g=>?_
 refine(λ(J:∀(b:Bool) (H5:Hp),Same H4 H5->(b=true->WnO K H5 wn)->(b=false->Wn H5 wn)->R [some (.ref a),some (vN n),some (.ref lt),some x,some y,some wn,some (.bl b),none,none,none,none] H5)=>?_) (λ b H5 s5 hb1 hb2=>g _ _ ?_)
 ·clear g;rcases hw with(rfl|⟨p,rfl,hp|hp⟩)|ho
  ·exact⟨_,rfl,rfl,_,rfl,aW (J false H4 (Same.refl _) (λ z=>nomatch z) (λ _=>.inl rfl))⟩
  ·exact⟨_,rfl,rfl,_,rfl,bh ⟨_,rfl,zl1,λ l7 n7=>.inr ⟨p,l7,[7],[7],rfl,rfl,SqL.of (af n7 _ _ hp),SqL.of ad,_,rfl,aW (J false _ (af n7) (λ z=>nomatch z) (λ _=>.inr ⟨p,rfl,.inl (af n7 _ _ hp)⟩))⟩⟩⟩
  ·exact⟨_,rfl,rfl,_,rfl,bh ⟨_,rfl,zl1,λ l7 n7=>.inr ⟨p,l7,[],[7],rfl,rfl,SqL.of (af n7 _ _ hp),SqL.of ad,_,rfl,bh ⟨_,rfl,sy _,λ l0 n0=>.inr ⟨p,l0,[],[],rfl,rfl,SqL.of (af n0 _ _ (af n7 _ _ hp)),SqL.of ad,J false _ ((af n7).trans (af n0)) (λ z=>nomatch z) (λ _=>.inr ⟨p,rfl,.inr (af n0 _ _ (af n7 _ _ hp))⟩)⟩⟩⟩⟩⟩
  ·refine⟨_,rfl,rfl,_,rfl,?_⟩;rw [sf ho.2.1];exact bh ⟨_,rfl,zl1,λ l7 n7=>.inl ⟨l7,_,rfl,ad,ho.2.2.1.same (af n7),_,rfl,bh ⟨_,rfl,sy _,λ l0 n0=>.inl ⟨l0,_,rfl,ad,ho.2.2.2.same ((af n7).trans (af n0)),J true _ ((af n7).trans (af n0)) (λ _=>ho.same ((af n7).trans (af n0))) (λ z=>nomatch z)⟩⟩⟩⟩
 clear g;have sB:=sA.trans s5;have hrd5:=hrd4.same s5;have h5:=s5 _ _ h4;clear hrd4 hrd h4 hw;refine seq_g λ R g=>?_
 refine(λ(J:∀(y':V) (H6:Hp),Same H5 H6->(b=true->∃d,y'=.ref d/\H6 d=some (.tup [.str (Str.ofString "row")]))->(b=false->y'=y)->R [some (.ref a),some (vN n),some (.ref lt),some x,some y',some wn,some (.bl b),none,none,none,none] H6)=>?_) (λ y' H6 s6 hy1 hy2=>g _ _ ?_)
 ·clear g;cases b with
  |false=>exact⟨_,rfl,_,rfl,aW (aW (J _ H5 (Same.refl _) (λ z=>nomatch z) (λ _=>rfl)))⟩
  |true=>
   refine⟨_,rfl,_,rfl,bh ⟨_,rfl,zl1,λ d nd=>?_⟩⟩;have sd:=af (o:=.tup [.str (Str.ofString "row")]) nd;have go:∀d1,(upd H5 d (.tup [.str (Str.ofString "row")])) d1=none->R [some (.ref a),some (vN n),some (.ref lt),some x,some (.ref d1),some wn,some (.bl true),none,none,none,none] (upd (upd H5 d (.tup [.str (Str.ofString "row")])) d1 (.tup [.str (Str.ofString "row")])):=λ d1 n1=>J _ _ (sd.trans (af n1)) (λ _=>⟨d1,rfl,ad⟩) (λ z=>nomatch z)
   rcases hrd5 with⟨_,d0,rfl,hd0⟩|⟨Bk,r,_,_,_,d0,rfl,hd0⟩
   ·exact .inl ⟨d0,d,rfl,rfl,.inl ⟨_,_,SqT.of (sd _ _ hd0),SqT.of ad,_,rfl,aW (J _ _ sd (λ _=>⟨d0,rfl,sd _ _ hd0⟩) (λ z=>nomatch z))⟩⟩
   ·cases r with
    |inl i=>
     refine .inl ⟨d0,d,rfl,rfl,.inl ⟨_,_,SqT.of (sd _ _ hd0),SqT.of ad,_,rfl,?_⟩⟩;have hne:(wd i==Str.ofString "row")=false:=by
      rcases i with _|_|i
      ·exact Z8
      ·exact Z8
      ·exact(show(Str.ofString "body"==Str.ofString "row")=false from Z8)
     rw [hne];exact bh ⟨zl1,go⟩
    |inr T'=>
     obtain⟨l,q1,q2⟩:=hd0;exact .inr ⟨d0,d,_,_,rfl,rfl,sd _ _ q1,ad,_,rfl,bh ⟨zl1,go⟩⟩
 clear g;have sC:=sB.trans s6;have hrd6:=hrd5.same s6;have h6:=s6 _ _ h5;clear hrd5 h5;refine seq_g λ R g=>?_
 refine(λ(J:∀H7:Hp,Same H6 H7->R [some (.ref a),some (vN n),some (.ref lt),some x,some y',some wn,some (.bl b),none,none,none,none] H7)=>?_) (λ H7 s7=>g _ _ ?_)
 ·clear g;cases b with
  |true=>
   have ho:=(hb1 rfl).same s6;obtain⟨d,rfl,hd⟩:=hy1 rfl;refine⟨_,rfl,_,rfl,x,wn,.inl (Str.ofString "row"),rfl,.inl ⟨?_,rfl⟩,λ t H7 s7 ht=>⟨_,rfl,.inl ⟨t,d,rfl,rfl,.inl ⟨_,_,SqT.of ht,SqT.of (s7 _ _ hd),_,rfl,aW (J _ s7)⟩⟩⟩⟩;rcases hrd6 with⟨h,_⟩|⟨Bk,r,h,_⟩
   ·exact .inl h
   ·exact .inr ⟨Bk,h,ho.1⟩
  |false=>
   obtain rfl:=hy2 rfl;obtain⟨W,hW,hWl⟩:=((hb2 rfl).same s6).win;rcases hrd6 with⟨h,d,rfl,hd⟩|⟨Bk,r,h1,h2',h3,d,rfl,hd⟩
   ·exact⟨_,rfl,_,rfl,x,wn,.inl (Str.ofString "row"),rfl,.inl ⟨.inl h,rfl⟩,λ t H7 s7 ht=>⟨_,rfl,.inl ⟨t,d,rfl,rfl,.inl ⟨_,_,SqT.of ht,SqT.of (s7 _ _ hd),_,rfl,aW (J _ s7)⟩⟩⟩⟩
   ·refine⟨_,rfl,_,rfl,x,wn,_,rfl,.inr ⟨Bk,W,r,h1,h2',hW,hWl,h3,rfl⟩,?_⟩;cases r with
    |inl i=>
     refine λ t H7 s7 ht=>⟨_,rfl,.inl ⟨t,d,rfl,rfl,.inl ⟨_,_,SqT.of ht,SqT.of (s7 _ _ hd),_,rfl,?_⟩⟩⟩
     rw [beq_self_eq_true];exact aW (J _ s7)
    |inr T'=>
     obtain⟨l',q1,q2⟩:=hd;refine λ lo l H7 s7 hlo hl=>⟨_,rfl,.inr ⟨lo,d,rfl,rfl,⟨[l],[l'],SqL.of hlo,SqL.of (s7 _ _ q1),rfl,λ i a b e1 e2=>?_⟩,_,rfl,aW (J _ s7)⟩⟩
     cases i with
     |zero=>
      cases e1;cases e2;refine⟨T'.map λ b=>((b:Nat):Int),?_,?_⟩
      ·rw [<-Rf.mapI];exact SqL.of hl
      ·rw [<-Rf.mapI];exact SqL.of (s7 _ _ q2)
     |succ i=>cases e1
 clear g;have sD:=sC.trans s7;have h7:=s7 _ _ h6;have tb7:=tb0.same sD;clear hrd6 h6;refine seq_g λ _ g=>⟨_,rfl,a,ns,4,rfl,sq _ sD,_,_,rfl,Z9,Z9,g _ _ ?_⟩
 clear g;generalize mixN (ns.getD 4 0) 3=q;clear sq hS hS2 hS3 tb2 tb0 hT0;refine seq_g λ _ g=>⟨sy _,λ l0 n0=>⟨zl1,λ l1 n1=>?_⟩⟩
 have t0:=af (o:=.lst []) n0;have e0:(upd H7 l0 (.lst [])) l0=some (.lst []):=ad;have u:=t0;generalize upd H7 l0 (.lst [])=G0 at*;have t1:=af (o:=.lst [.int 0]) n1;have e1:(upd G0 l1 (.lst [.int 0])) l1=some (.lst [.int 0]):=ad;have e0:=t1 _ _ e0;have u:=u.trans t1;generalize upd G0 l1 (.lst [.int 0])=G1 at*;refine⟨l1,_,_,rfl,rfl,e1,Z9,Z9,(by show 1*65≤sizeLine;decide),λ l2 n2=>?_⟩;have e6:(List.replicate (Int.toNat 65) [V.int 0]).flatten=(List.replicate 65 0).map vN:=bO 65 0;rw [e6];have t2:=af (o:=.lst ((List.replicate 65 0).map vN)) n2;have e2:(upd G1 l2 (.lst ((List.replicate 65 0).map vN))) l2=some (.lst ((List.replicate 65 0).map vN)):=ad;have e0:=t2 _ _ e0;have u:=u.trans t2;generalize upd G1 l2 (.lst ((List.replicate 65 0).map vN))=G2 at*;refine⟨zl1,λ l3 n3=>⟨zl1,λ l4 n4=>⟨zl1,λ l5 n5=>⟨_,rfl,zl2,λ l6 n6=>⟨(by show 8≤sizeLine;decide),λ lo no=>?_⟩⟩⟩⟩⟩;have t3:=af (o:=.lst [.int 256]) n3;have e3:(upd G2 l3 (.lst [.int 256])) l3=some (.lst [.int 256]):=ad;generalize upd G2 l3 (.lst [.int 256])=G3 at*;have t4:=af (o:=.tup [.int 1]) n4;have e4:(upd G3 l4 (.tup [.int 1])) l4=some (.tup [.int 1]):=ad;generalize upd G3 l4 (.tup [.int 1])=G4 at*;have t5:=af (o:=.lst [.bl true]) n5;have e5:(upd G4 l5 (.lst [.bl true])) l5=some (.lst [.bl true]):=ad;generalize upd G4 l5 (.lst [.bl true])=G5 at*;have t6:=af (o:=.lst [.int (-1),.int 3]) n6;have e6':(upd G5 l6 (.lst [.int (-1),.int 3])) l6=some (.lst [.int (-1),.int 3]):=ad;generalize upd G5 l6 (.lst [.int (-1),.int 3])=G6 at*;have t7:=af (o:=.lst [.ref l0,.ref l2,.non,.ref l3,.ref l4,.ref l5,.str (Str.ofString "1"),.ref l6]) no;have e7:(upd G6 lo (.lst [.ref l0,.ref l2,.non,.ref l3,.ref l4,.ref l5,.str (Str.ofString "1"),.ref l6])) lo=some (.lst [.ref l0,.ref l2,.non,.ref l3,.ref l4,.ref l5,.str (Str.ofString "1"),.ref l6]):=ad;have u:=(((((u.trans t3).trans t4).trans t5).trans t6).trans t7);have e0:=t7 _ _ (t6 _ _ (t5 _ _ (t4 _ _ (t3 _ _ e0))));have e2:=t7 _ _ (t6 _ _ (t5 _ _ (t4 _ _ (t3 _ _ e2))));have e3:=t7 _ _ (t6 _ _ (t5 _ _ (t4 _ _ e3)));have e4:=t7 _ _ (t6 _ _ (t5 _ _ e4));have e5:=t7 _ _ (t6 _ _ e5);have e6:=t7 _ _ e6';generalize upd G6 lo (.lst [.ref l0,.ref l2,.non,.ref l3,.ref l4,.ref l5,.str (Str.ofString "1"),.ref l6])=H8 at*;have h8:=u _ _ h7;have tb8:=tb7.same u;have odd:∃v,([.ref l0,.ref l2,.non,.ref l3,.ref l4,.ref l5,.str (Str.ofString "1"),.ref l6]:List V)[q%8]?=some v/\∀H' y,Same H8 H'->Rf.NoSg K H' v y:=by
  have:q%8<8:=ss _ Z9;generalize q%8=j at*
  match j,this with
  |0,_=>exact⟨_,rfl,λ H' y s=>.inr ⟨[],⟨l0,rfl,s _ _ e0,λ _ z=>nomatch z⟩,.inl rfl⟩⟩
  |1,_=>exact⟨_,rfl,λ H' y s=>.inr ⟨_,⟨l2,rfl,s _ _ e2,λ b hb=>by rw [tE hb];exact Z9⟩,.inr (.inl (by rw [rZ];exact Z9))⟩⟩
  |2,_=>exact⟨_,rfl,λ H' y s=>.inl (bN .non Z9)⟩
  |3,_=>exact⟨_,rfl,λ H' y s=>.inl (eG (s _ _ e3) rfl (.inl ⟨256,rfl,rfl⟩))⟩
  |4,_=>exact⟨_,rfl,λ H' y s=>.inl (bN (.tup (s _ _ e4)) Z9)⟩
  |5,_=>exact⟨_,rfl,λ H' y s=>.inl (eG (s _ _ e5) rfl (.inr ⟨.bl true,rfl⟩))⟩
  |6,_=>exact⟨_,rfl,λ H' y s=>.inl (bN (.str _) Z9)⟩
  |7,_=>exact⟨_,rfl,λ H' y s=>.inl (eG (s _ _ e6) rfl (.inl ⟨-1,rfl,rfl⟩))⟩
 obtain⟨v,hv,ho⟩:=odd;have m8:((q:Nat):Int)%8=((q%8:Nat):Int):=by omega
 refine⟨_,rfl,_,_,rfl,rfl,(by show(0:Int)<8;decide),lo,_,_,v,rfl,rfl,SqL.of e7,(by rw [m8];exact aE hv),g _ _ ?_⟩;clear g;clear t0 t1 t2 t3 t4 t5 t6 t7 e1 e6' n0 n1 n2 n3 n4 n5 n6 no;refine seq_g λ R g=>?_
 refine(λ(J:∀H9:Hp,R [some (.ref a),some (vN n),some (.ref lt),some x,some y',some wn,some (.bl b),some (vN q),some v,none,none] H9)=>?_) (λ H9=>g _ _ ?_)
 ·clear g;refine⟨_,rfl,zl1,λ w7 nw=>?_⟩;have r1:=af (o:=.lst [.int 7]) nw;refine⟨_,_,rfl,ho _ _ r1,tb8.same r1,λ t H9 s9 tb9 ht=>⟨zl1,λ d nd=>⟨t,d,rfl,rfl,.inl ⟨_,_,SqT.of (af nd _ _ ht),SqT.of ad,_,rfl,aW ?_⟩⟩⟩⟩;have r2:=af (o:=.tup [.str (Str.ofString "row")]) nd;have wa:=r2 _ _ (s9.lst (r1 _ _ h8));have tbd:=tb9.same r2;generalize upd H9 d (.tup [.str (Str.ofString "row")])=H10 at*;refine⟨_,rfl,zl1,λ l1 n1=>?_⟩;have t1:=af (o:=.lst [.int 0]) n1;have e1:(upd H10 l1 (.lst [.int 0])) l1=some (.lst [.int 0]):=ad;have u:=t1;generalize upd H10 l1 (.lst [.int 0])=G1 at*;refine⟨l1,_,_,rfl,rfl,e1,Z9,Z9,(by show 1*193≤sizeLine;decide),λ l2 n2=>?_⟩;have e6:(List.replicate (Int.toNat 193) [V.int 0]).flatten=(List.replicate 193 0).map vN:=bO 193 0;rw [e6];have t2:=af (o:=.lst ((List.replicate 193 0).map vN)) n2;have e2:(upd G1 l2 (.lst ((List.replicate 193 0).map vN))) l2=some (.lst ((List.replicate 193 0).map vN)):=ad;have u:=u.trans t2;generalize upd G1 l2 (.lst ((List.replicate 193 0).map vN))=G2 at*;refine⟨zl1,λ l3 n3=>⟨zl1,λ l4 n4=>⟨zl3,λ lo no=>?_⟩⟩⟩;have t3:=af (o:=.tup [.int 1]) n3;have e3:(upd G2 l3 (.tup [.int 1])) l3=some (.tup [.int 1]):=ad;generalize upd G2 l3 (.tup [.int 1])=G3 at*;have t4:=af (o:=.lst [.int 256]) n4;have e4:(upd G3 l4 (.lst [.int 256])) l4=some (.lst [.int 256]):=ad;generalize upd G3 l4 (.lst [.int 256])=G4 at*;have t5:=af (o:=.lst [.ref l2,.ref l3,.ref l4]) no;have e5:(upd G4 lo (.lst [.ref l2,.ref l3,.ref l4])) lo=some (.lst [.ref l2,.ref l3,.ref l4]):=ad;have u:=((u.trans t3).trans t4).trans t5;have e2:=t5 _ _ (t4 _ _ (t3 _ _ e2));have e3:=t5 _ _ (t4 _ _ e3);have e4:=t5 _ _ e4;generalize upd G4 lo (.lst [.ref l2,.ref l3,.ref l4])=H11 at*;have nn:∀{p:vR},(V.ref p:V)≠ .non:=λ z=>nomatch z
  obtain⟨wv,hwv,hN⟩:∃v,([.ref l2,.ref l3,.ref l4]:List V)[q/8%3]?=some v/\Rf.NoWin K H11 v 192:=by
   have:q/8%3<3:=ss _ Z9;generalize q/8%3=j at*
   match j,this with
   |0,_=>exact⟨_,rfl,.inr ⟨_,⟨l2,rfl,e2,λ b hb=>by rw [tE hb];exact Z9⟩,by rw [rZ];exact Z9⟩⟩
   |1,_=>exact⟨_,rfl,.inl ⟨nn,bN (.tup e3) Z9⟩⟩
   |2,_=>exact⟨_,rfl,.inl ⟨nn,eG e4 rfl (.inl ⟨256,rfl,rfl⟩)⟩⟩
  have m3:((q:Nat):Int)/8%3=((q/8%3:Nat):Int):=by omega
  refine⟨_,rfl,_,_,rfl,rfl,⟨Z9,Z9⟩,_,_,rfl,rfl,(by show(0:Int)<3;decide),lo,_,_,wv,rfl,rfl,SqL.of e5,(by rw [m3];exact aE hwv),_,_,rfl,.inr ⟨T,⟨lt,rfl,u _ _ wa,hTb⟩,.inr (.inr ⟨by omega,hN⟩)⟩,tbd.same u,λ t2 H12 s12 tb12 ht2=>⟨zl1,λ d2 nd2=>⟨t2,d2,rfl,rfl,.inl ⟨_,_,SqT.of (af nd2 _ _ ht2),SqT.of ad,_,rfl,aW (J _)⟩⟩⟩⟩
 clear g;clear e0 e2 e3 e4 e5 e6 e7 u h8 tb8 ho hv m8 h7 tb7 sD sC sB sA s2 s3 s4 s5 s6 s7 hb1 hb2 hy1 hy2 h2 nlt;obtain⟨aa,ha8,eaa⟩:∃aa:Nat,aa<256/\((q:Nat):Int)/24%256=((aa:Nat):Int):=⟨q/24%256,by omega,by omega⟩;obtain⟨e64,he64,ee64⟩:∃aa:Nat,aa<64/\((q:Nat):Int)/6144%64=((aa:Nat):Int):=⟨q/6144%64,by omega,by omega⟩;obtain⟨bb,hb8,hbb⟩:∃bb:Nat,bb<256/\([.int 0,.int 1,.int 64,.int 65,.int 200,.int (((q:Nat):Int)/6144%64)]:List V)[q/7%6]?=some (vN bb):=by
  have:q/7%6<6:=ss _ Z9;generalize q/7%6=j at*
  match j,this with
  |0,_=>exact⟨0,Z9,rfl⟩
  |1,_=>exact⟨1,Z9,rfl⟩
  |2,_=>exact⟨64,Z9,rfl⟩
  |3,_=>exact⟨65,Z9,rfl⟩
  |4,_=>exact⟨200,Z9,rfl⟩
  |5,_=>exact⟨e64,by omega,by rw [ee64];rfl⟩
 have m6:((q:Nat):Int)/7%6=((q/7%6:Nat):Int):=by omega
 refine seq_g λ _ g=>⟨_,rfl,_,_,rfl,rfl,⟨Z9,Z9⟩,_,_,rfl,rfl,(by show(0:Int)<256;decide),_,rfl,_,_,rfl,rfl,⟨Z9,Z9⟩,_,_,rfl,rfl,(by show(0:Int)<64;decide),zl6,λ l1 n1=>⟨_,rfl,_,_,rfl,rfl,⟨Z9,Z9⟩,_,_,rfl,rfl,(by show(0:Int)<6;decide),l1,_,_,_,rfl,rfl,SqL.of ad,(by rw [m6];exact aE hbb),zl2,λ l2 n2=>g _ _ ?_⟩⟩
 clear g;have h2:(upd (upd H9 l1 (.lst [.int 0,.int 1,.int 64,.int 65,.int 200,.int (((q:Nat):Int)/6144%64)])) l2 (.lst [.int (((q:Nat):Int)/24%256),vN bb])) l2=some (.lst ([aa,bb].map vN)):=by rw [ad,eaa];rfl
 generalize upd (upd H9 l1 (.lst [.int 0,.int 1,.int 64,.int 65,.int 200,.int (((q:Nat):Int)/6144%64)])) l2 (.lst [.int (((q:Nat):Int)/24%256),vN bb])=H10 at*;clear n1 n2 H9;have hby2:∀z∈ [aa,bb],z<256:=λ z hz=>by simp at hz;omega
 obtain⟨m,hm8,hm⟩:∃m:Nat,m<256/\([.int 0,.int 0,.int (1*2^(((q:Nat):Int)/11%8).toNat)]:List V)[q/13%3]?=some (vN m):=by
  have:q/13%3<3:=ss _ Z9;generalize q/13%3=j at*
  match j,this with
  |0,_=>exact⟨0,Z9,rfl⟩
  |1,_=>exact⟨0,Z9,rfl⟩
  |2,_=>
   refine⟨2^(q/11%8),uk (by decide) (ss _ Z9)|>λ z=>rj z (by decide),?_⟩;rw [show((q:Nat):Int)/11%8=((q/11%8:Nat):Int) by omega,rD,Int.one_mul];show some (V.int _)=some (V.int _);rw [Int.natCast_pow];rfl
 have m13:((q:Nat):Int)/13%3=((q/13%3:Nat):Int):=by omega
 have c8:chk 8 29 [aa,bb]<256:=dw wp8 hby2;have hc8:chk 8 29 [aa,bb]^^^m<256:=sR (n:=8) c8 hm8;refine seq_g λ _ g=>⟨_,rfl,_,rfl,l2,[aa,bb],8,29,rfl,wp8,h2,hby2,(by show 2≤1000;decide),λ H11 s11=>?_⟩
 refine⟨_,rfl,_,_,rfl,rfl,⟨Z9,Z9⟩,_,_,rfl,rfl,(by show(0:Int)<8;decide),_,_,rfl,rfl,⟨by omega,by omega,Z9⟩,zl3,λ l3 n3=>?_⟩;have s3:=af (o:=.lst [.int 0,.int 0,.int (1*2^(((q:Nat):Int)/11%8).toNat)]) n3;have sx:=s11.trans s3;refine⟨_,rfl,_,_,rfl,rfl,⟨Z9,Z9⟩,_,_,rfl,rfl,(by show(0:Int)<3;decide),l3,_,_,_,rfl,rfl,SqL.of ad,(by rw [m13];exact aE hm),_,_,rfl,rfl,zl1,λ l4 n4=>?_⟩
 try dsimp only
 try dsimp only at n4
 rw [cg];have s4:=af (o:=.lst [vN (chk 8 29 [aa,bb]^^^m)]) n4;have h2':=s4 _ _ (sx _ _ h2);have h4:(upd (upd H11 l3 (.lst [.int 0,.int 0,.int (1*2^(((q:Nat):Int)/11%8).toNat)])) l4 (.lst [vN (chk 8 29 [aa,bb]^^^m)])) l4=some (.lst [vN (chk 8 29 [aa,bb]^^^m)]):=ad;generalize chk 8 29 [aa,bb]^^^m=cc at*;refine⟨l2,l4,_,_,rfl,rfl,h2',h4,(by show 2+1≤sizeLine;decide),λ l5 n5=>g _ _ ?_⟩;clear g;have h5:(upd (upd (upd H11 l3 (.lst [.int 0,.int 0,.int (1*2^(((q:Nat):Int)/11%8).toNat)])) l4 (.lst [vN cc])) l5 (.lst ([aa,bb].map vN++[vN cc]))) l5=some (.lst ([aa,bb,cc].map vN)):=ad;generalize upd (upd (upd H11 l3 (.lst [.int 0,.int 0,.int (1*2^(((q:Nat):Int)/11%8).toNat)])) l4 (.lst [vN cc])) l5 (.lst ([aa,bb].map vN++[vN cc]))=H12 at*;clear h4 h2' s4 sx s3 s11 h2 n3 n4 n5 m13 hm hm8 m m6 hbb ee64 he64 e64 eaa;have hby:∀z∈ [aa,bb,cc],z<256:=λ z hz=>by simp at hz;omega
 refine seq_g λ _ g=>⟨_,rfl,l5,_,_,_,rfl,rfl,SqL.of h5,aE (j:=0) rfl,_,_,rfl,rfl,⟨Z9,Z9⟩,_,rfl,l5,_,_,_,rfl,rfl,SqL.of h5,aE (j:=0) rfl,_,_,rfl,rfl,(by show(0:Int)<64;decide),_,_,rfl,rfl,_,rfl,l5,_,_,_,rfl,rfl,SqL.of h5,aE (j:=1) rfl,zl3,λ t nt=>⟨zl1,λ ld nld=>g _ _ ?_⟩⟩
 clear g;have et: [V.int (((aa:Nat):Int)/64),V.int (((aa:Nat):Int)%64+1),vN bb]=[vN (aa/64),vN (aa%64+1),vN bb]:=by
  rw [show((aa:Nat):Int)/64=((aa/64:Nat):Int) by omega,show((aa:Nat):Int)%64+1=((aa%64+1:Nat):Int) by omega]
 have ht:(upd (upd H12 t (.tup [V.int (((aa:Nat):Int)/64),V.int (((aa:Nat):Int)%64+1),vN bb])) ld (.lst [.ref t])) t=some (.tup [vN (aa/64),vN (aa%64+1),vN bb]):=af nld _ _ (by rw [<-et];exact ad);have hld:(upd (upd H12 t (.tup [V.int (((aa:Nat):Int)/64),V.int (((aa:Nat):Int)%64+1),vN bb])) ld (.lst [.ref t])) ld=some (.lst [.ref t]):=ad;have h5:=af (o:=.lst [.ref t]) nld _ _ (af nt _ _ h5);generalize upd (upd H12 t (.tup [V.int (((aa:Nat):Int)/64),V.int (((aa:Nat):Int)%64+1),vN bb])) ld (.lst [.ref t])=H13 at*;clear nt nld et;refine seq_g λ R g=>?_
 refine(λ(J:∀(o:Option (Nat×Nat×Nat) ⊕ Unit) (d:vR) (H14:Hp),Same H13 H14->HdK aa bb cc o->qR H14 d o->R [some (.ref a),some (vN n),some (.ref lt),some x,some (.ref d),some wn,some (.bl b),some (vN q),some v,some (.ref l5),none] H14)=>?_) (λ o d H14 s14 ho hd=>g _ _ ?_)
 ·clear g;refine⟨_,rfl,l5,_,_,_,rfl,rfl,SqL.of h5,aE (j:=2) rfl,_,rfl,_,rfl,l5,_,rfl,SqL.of h5,λ l6 n6=>⟨l6,[aa,bb],8,29,rfl,wp8,ad,hby2,(by show 2≤1000;decide),λ H14 s14=>⟨rfl,_,rfl,?_⟩⟩⟩;have s14:=(af n6).trans s14;have h5:=s14 _ _ h5;have ht:=s14 _ _ ht;have hld:=s14 _ _ hld;clear n6;have hd:∀H15,Same H13 H15->HdK aa bb cc (.inr ())->1≤sizeLine/\∀d,H15 d=none->R [some (.ref a),some (vN n),some (.ref lt),some x,some (.ref d),some wn,some (.bl b),some (vN q),some v,some (.ref l5),none] (upd H15 d (.tup [.str (Str.ofString "head")])):=λ H15 s15 hk=>⟨zl1,λ d nd=>J _ d _ (s15.trans (af nd)) hk ad⟩
  refine aT (λ hne=>bh (hd _ s14 (.bad λ e=>by rw [e] at hne;simp at hne))) (λ hne=>?_);have hc:cc=chk 8 29 [aa,bb]:=uq λ z=>hne (by
   show(!decide (vN cc=vN (chk 8 29 [aa,bb])))=true;have z':¬(vN cc=vN (chk 8 29 [aa,bb])):=λ e=>z (Int.ofNat.inj (V.int.inj e))
   rw [sf z'];rfl)
  refine⟨_,rfl,l5,_,_,_,rfl,rfl,SqL.of h5,aE (j:=1) rfl,_,_,rfl,rfl,_,rfl,aT (λ h64=>bh (hd _ s14 ?_)) (λ h64=>?_)⟩
  ·have:=rE h64;exact .far hc (by omega) (.inr (by omega))
  have h64:bb≤64:=by
   refine uq λ z=>h64 (rn ?_)
   omega
  refine⟨_,rfl,l5,_,_,_,rfl,rfl,SqL.of h5,aE (j:=1) rfl,rfl,_,rfl,aT (λ h0=>⟨_,rfl,l5,_,_,_,rfl,rfl,SqL.of h5,aE (j:=0) rfl,_,_,rfl,rfl,_,rfl,aT (λ h1=>hd _ s14 ?_) (λ h1=>?_)⟩) (λ h0=>aW ?_)⟩
  ·have h0:bb=0:=Int.ofNat.inj (V.int.inj (rE h0));have:=rE h1;exact .far hc (by omega) (.inl h0)
  ·have h0:bb=0:=Int.ofNat.inj (V.int.inj (rE h0));have h1:aa=0:=by
    refine uq λ z=>h1 (rn ?_)
    omega
   refine⟨_,rfl,_,rfl,l5,_,rfl,SqL.of h5,λ l7 n7=>⟨zl2,λ l8 n8=>⟨l7,l8,[((aa:Nat):Int),((bb:Nat):Int)],[0,0],rfl,rfl,SqL.of (af n8 _ _ ad),SqL.of ad,_,rfl,aT (λ _=>⟨zl1,λ d nd=>J (.inl none) d _ (((s14.trans (af n7)).trans (af n8)).trans (af nd)) (.tail hc h1 h0) ad⟩) (λ h=>absurd (rn ?_) h)⟩⟩⟩;rw [h0,h1];rfl
  ·have h0:1≤bb:=Nat.pos_of_ne_zero λ z=>h0 (by rw [z];rfl)
   refine⟨_,rfl,_,rfl,l5,_,rfl,SqL.of h5,λ l7 n7=>⟨zl2,λ l8 n8=>⟨l7,l8,[((aa:Nat):Int),((bb:Nat):Int)],[0,0],rfl,rfl,SqL.of (af n8 _ _ ad),SqL.of ad,_,rfl,aT (λ h=>?_) (λ _=>J (.inl (some (aa/64,aa%64+1,bb))) ld _ ((s14.trans (af n7)).trans (af n8)) (.ok hc h0 h64) ⟨t,af n8 _ _ (af n7 _ _ hld),af n8 _ _ (af n7 _ _ ht)⟩)⟩⟩⟩;have:=rE h;simp at this;omega
 clear g;have h5:=s14 _ _ h5;clear s14 ht hld;refine seq_g λ _ g=>⟨_,rfl,_,rfl,l5,_,rfl,SqL.of h5,λ m1 q1=>?_⟩
 have t1:=af (o:=.lst ([aa,bb].map vN)) q1;have e1:(upd H14 m1 (.lst ([aa,bb].map vN))) m1=some (.lst ([aa,bb].map vN)):=ad;have u:=t1;generalize hE1:upd H14 m1 (.lst ([aa,bb].map vN))=G1 at*;refine⟨_,rfl,zl1,λ m2 q2=>?_⟩;rw [show upd H14 m1 (.lst (cutV ([aa,bb,cc].map vN) none (some 2)))=G1 from hE1] at q2 ⊢;have t2:=af (o:=.lst [.int 0]) q2;have e2:(upd G1 m2 (.lst [.int 0])) m2=some (.lst [.int 0]):=ad;have u:=u.trans t2;generalize upd G1 m2 (.lst [.int 0])=G2 at*;refine⟨l5,m2,_,_,rfl,rfl,u _ _ h5,e2,(by show 3+1≤sizeLine;decide),λ m3 q3=>?_⟩;have t3:=af (o:=.lst ([aa,bb,cc,0].map vN)) q3;have e3:(upd G2 m3 (.lst ([aa,bb,cc,0].map vN))) m3=some (.lst ([aa,bb,cc,0].map vN)):=ad;have u:=u.trans t3;have e1:=t3 _ _ (t2 _ _ e1);generalize hE3:upd G2 m3 (.lst ([aa,bb,cc,0].map vN))=G3 at*;refine⟨_,rfl,l5,[aa,bb,cc].map vN,rfl,.inl ⟨?_,λ m4 q4=>?_⟩⟩
 ·rw [show upd G2 m3 (.lst ([aa,bb,cc].map vN++[V.int 0]))=G3 from hE3];exact SqL.of (u _ _ h5)
 rw [show upd G2 m3 (.lst ([aa,bb,cc].map vN++[V.int 0]))=G3 from hE3] at q4 ⊢;have t4:=af (o:=.tup ([aa,bb,cc].map vN)) q4;have e4:(upd G3 m4 (.tup ([aa,bb,cc].map vN))) m4=some (.tup ([aa,bb,cc].map vN)):=ad;generalize upd G3 m4 (.tup ([aa,bb,cc].map vN))=G4 at*;refine⟨zl3,λ m5 q5=>⟨sy _,λ m6 q6=>⟨zl3,λ m7 q7=>⟨(by show 7≤sizeLine;decide),λ lo no=>?_⟩⟩⟩⟩;have t5:=af (o:=.lst [.int 256,.int 1,.int 1]) q5;have e5:(upd G4 m5 (.lst [.int 256,.int 1,.int 1])) m5=some (.lst [.int 256,.int 1,.int 1]):=ad;generalize upd G4 m5 (.lst [.int 256,.int 1,.int 1])=G5 at*;have t6:=af (o:=.lst []) q6;have e6:(upd G5 m6 (.lst [])) m6=some (.lst []):=ad;generalize upd G5 m6 (.lst [])=G6 at*;have t7:=af (o:=.lst [.bl true,.int 1,.int 1]) q7;have e7:(upd G6 m7 (.lst [.bl true,.int 1,.int 1])) m7=some (.lst [.bl true,.int 1,.int 1]):=ad;generalize upd G6 m7 (.lst [.bl true,.int 1,.int 1])=G7 at*;have t8:=af (o:=.lst [.ref m1,.ref m3,.non,.ref m4,.ref m5,.ref m6,.ref m7]) no;have e8:(upd G7 lo (.lst [.ref m1,.ref m3,.non,.ref m4,.ref m5,.ref m6,.ref m7])) lo=some (.lst [.ref m1,.ref m3,.non,.ref m4,.ref m5,.ref m6,.ref m7]):=ad;have u8:=(((t4.trans t5).trans t6).trans t7).trans t8;have e1:=u8 _ _ e1;have e3:=u8 _ _ e3;have e4:=t8 _ _ (t7 _ _ (t6 _ _ (t5 _ _ e4)));have e5:=t8 _ _ (t7 _ _ (t6 _ _ e5));have e6:=t8 _ _ (t7 _ _ e6);have e7:=t8 _ _ e7;have u:=u.trans u8;generalize upd G7 lo (.lst [.ref m1,.ref m3,.non,.ref m4,.ref m5,.ref m6,.ref m7])=H15 at*;clear t1 t2 t3 t4 t5 t6 t7 t8 u8 e2 q1 q2 q3 q4 q5 q6 q7 no hE1 hE3;have fl:∀R:List Nat,(R.map vN).all flatV=true:=λ R=>tS.mpr λ z hz=>by
  obtain⟨r,_,rfl⟩:=List.mem_map.mp hz;rfl
 obtain⟨ov,hov,hk⟩:∃v,([.ref m1,.ref m3,.non,.ref m4,.ref m5,.ref m6,.ref m7]:List V)[q/17%7]?=some v/\∀H',Same H15 H'->Kp H' v/\(Rf.NoRow K H' v\/∃T,Rf.IsR H' v T/\T.length≠3):=by
  have:q/17%7<7:=ss _ Z9;generalize q/17%7=j at*
  match j,this with
  |0,_=>exact⟨_,rfl,λ H' s=>⟨.inr (.inr ⟨m1,_,rfl,s _ _ e1,fl _⟩),.inr ⟨[aa,bb],⟨m1,rfl,s _ _ e1,hby2⟩,(by show 2≠3;decide)⟩⟩⟩
  |1,_=>exact⟨_,rfl,λ H' s=>⟨.inr (.inr ⟨m3,_,rfl,s _ _ e3,fl _⟩),.inr ⟨[aa,bb,cc,0],⟨m3,rfl,s _ _ e3,λ z hz=>by simp at hz;omega⟩,(by show 4≠3;decide)⟩⟩⟩
  |2,_=>exact⟨_,rfl,λ H' s=>⟨.inl rfl,.inl (bN .non Z9)⟩⟩
  |3,_=>exact⟨_,rfl,λ H' s=>⟨.inr (.inl ⟨m4,_,rfl,s _ _ e4,fl _⟩),.inl (bN (.tup (s _ _ e4)) Z9)⟩⟩
  |4,_=>exact⟨_,rfl,λ H' s=>⟨.inr (.inr ⟨m5,_,rfl,s _ _ e5,rfl⟩),.inl (eG (s _ _ e5) rfl (.inl ⟨256,rfl,rfl⟩))⟩⟩
  |5,_=>exact⟨_,rfl,λ H' s=>⟨.inr (.inr ⟨m6,_,rfl,s _ _ e6,rfl⟩),.inr ⟨[],⟨m6,rfl,s _ _ e6,λ _ z=>nomatch z⟩,(by show 0≠3;decide)⟩⟩⟩
  |6,_=>exact⟨_,rfl,λ H' s=>⟨.inr (.inr ⟨m7,_,rfl,s _ _ e7,rfl⟩),.inl (eG (s _ _ e7) rfl (.inr ⟨.bl true,rfl⟩))⟩⟩
 have m17:((q:Nat):Int)/17%7=((q/17%7:Nat):Int):=by omega
 refine⟨_,rfl,_,_,rfl,rfl,⟨Z9,Z9⟩,_,_,rfl,rfl,(by show(0:Int)<7;decide),lo,_,_,ov,rfl,rfl,SqL.of e8,(by rw [m17];exact aE hov),g _ _ ?_⟩;clear g;have h5:=u _ _ h5;have row1:decide ([Str.ofString "row"]=[Str.ofString "row"])=true:=rn rfl;refine⟨_,rfl,.ref l5,_,rfl,.inr (.inr ⟨l5,_,rfl,h5,fl _⟩),.inr ⟨aa,bb,cc,o,⟨l5,rfl,h5,hby⟩,ho,rfl⟩,?_⟩
 match o,hd with
 | .inr (),hd=>
  refine λ t H16 s16 ht=>⟨_,rfl,.inl ⟨t,d,[Str.ofString "head"],[Str.ofString "head"],rfl,rfl,SqT.of ht,SqT.of (s16 _ _ (u _ _ hd)),_,rfl,aT (λ _=>?_) (λ h=>absurd (rn rfl) h)⟩⟩
  refine⟨_,rfl,ov,.inr (Str.ofString "row"),rfl,(hk _ s16).1,.inl ⟨(hk _ s16).2,rfl⟩,λ t H17 s17 ht=>⟨zl1,λ d2 nd=>⟨t,d2,[Str.ofString "row"],[Str.ofString "row"],rfl,rfl,SqT.of (af nd _ _ ht),SqT.of ad,?_⟩⟩⟩;rw [row1];exact k _
 | .inl none,hd=>
  refine λ t H16 s16 ht=>⟨_,rfl,.inr ⟨t,d,rfl,rfl,iY ht (s16 _ _ (u _ _ hd)) rfl,_,rfl,bh ?_⟩⟩
  refine⟨_,rfl,ov,.inr (Str.ofString "row"),rfl,(hk _ s16).1,.inl ⟨(hk _ s16).2,rfl⟩,λ t H17 s17 ht=>⟨zl1,λ d2 nd=>⟨t,d2,[Str.ofString "row"],[Str.ofString "row"],rfl,rfl,SqT.of (af nd _ _ ht),SqT.of ad,?_⟩⟩⟩;rw [row1];exact k _
 | .inl (some (u1,u2,u3)),hd=>
  obtain⟨t0,hd1,hd2⟩:=hd;refine λ lo t H16 s16 hlo ht=>⟨_,rfl,.inr ⟨lo,d,rfl,rfl,⟨[.ref t],[.ref t0],SqL.of hlo,SqL.of (s16 _ _ (u _ _ hd1)),rfl,λ i x y e1 e2=>?_⟩,_,rfl,bh ?_⟩⟩
  ·cases i with
   |zero=>
    cases e1;cases e2;exact .inr ⟨t,t0,_,rfl,rfl,SqT.of ht,SqT.of (s16 _ _ (u _ _ hd2)),rfl⟩
   |succ i=>cases e1
  refine⟨_,rfl,ov,.inr (Str.ofString "row"),rfl,(hk _ s16).1,.inl ⟨(hk _ s16).2,rfl⟩,λ t H17 s17 ht=>⟨zl1,λ d2 nd=>⟨t,d2,[Str.ofString "row"],[Str.ofString "row"],rfl,rfl,SqT.of (af nd _ _ ht),SqT.of ad,?_⟩⟩⟩;rw [row1];exact k _
end
end K23.Ck
set_option maxHeartbeats 8000000
namespace K23.Ck
open PySem L2 QQ
variable {fd:vW}{cd ct dV dc oc pm:vS}{Tb c f:vR}{p q qu x:Str}{sl:Array (Option vS)}{st:v7}{an od:Option vR}{us:List vS}{t:Tok}{P:List vS->Prop}
section
variable {K:Frag}{mg:Str -> Option vS}{h:vY}
theorem FunD.i {kV:vS}(l:K.lookup f=some ⟨oc,od,.func (fnOf x qu (aP st) (aL st) (aj st) dV kV dc pm an cd ct),sl⟩)(c:codeIn K cd qu=true)(k:keepIn K (.ref f)=true):FunD K x qu st dV f (fnOf x qu (aP st) (aL st) (aj st) dV kV dc pm an cd ct):=⟨⟨oc,od,kV,dc,pm,an,cd,ct,sl,rfl,l,c⟩,k⟩
theorem FunC.i {cd:vR}{kV:vS}(l:K.lookup f=some ⟨oc,od,.func (fnOf x qu (aP st) (aL st) (aj st) dV kV dc pm an (.ref cd) ct),sl⟩)(c:codeIn K (.ref cd) qu=true)(k:keepIn K (.ref f)=true):FunC K x qu st dV cd f (fnOf x qu (aP st) (aL st) (aj st) dV kV dc pm an (.ref cd) ct):=⟨⟨oc,od,kV,dc,pm,an,ct,sl,rfl,l,c⟩,k⟩
theorem nI {n:Int}(X:K.In h)(G:h.Ns mainGlobals mg)(a:nsIn K mainGlobals x=some (some (.int n t))):∃t,mg x=some (.int n t):=⟨t,uA X G a⟩
theorem tabI {d:vR}{p q:Int}{t1 t2 t3 t4:Tok}{ep:Nat}(X:K.In h)(G:h.Ns mainGlobals mg)(a:nsIn K mainGlobals x=some (some (.ref d)))(l:K.lookup d=some ⟨.type "dict",none,.dict #[⟨8,.int 8 t1,.int p t2⟩,⟨16,.int 16 t3,.int q t4⟩] ep,#[]⟩)(s:(d==sysModules)=false):∃d,mg x=some (.ref d)/\TabK K d p q:=⟨d,uA X G a,s,t1,t2,t3,t4,ep,l⟩
section
variable {x qu:Str}{st:v7}{ps:List Str}{f C:vR}{oc dV:vS}{od an:Option vR}{sl:Array (Option vS)}{kV dc pm cd ct:vS}(l9:K.lookup f = some ⟨oc, od, .func (fnOf x qu (aP st) (aL st) (aj st) dV kV dc pm an cd ct), sl⟩)(c9:codeIn K cd qu = true)(k9:keepIn K (.ref f) = true)
include l9 c9 k9
theorem inI (e:dV=.none)(b:Binds K (fnOf x qu (aP st) (aL st) (aj st) dV kV dc pm an cd ct) ps [])(m:makesIn K C=true)(a:findIn K (.ref C) "__init__"=some (some (.ref f)))(i:isFn K (.ref f)=true)(q:keepIn K (.ref C)=true):∃f fd,Fun K x qu st f fd/\Binds K fd ps []/\Mk K C f:=by
 subst e;exact⟨_,_,fun_mk l9 c9 k9,b,⟨m,a,i,q⟩⟩
theorem ciI (b:Binds K (fnOf x qu (aP st) (aL st) (aj st) dV kV dc pm an cd ct) ps [])(m:makesIn K C=true)(a:findIn K (.ref C) "__init__"=some (some (.ref f)))(i:isFn K (.ref f)=true)(q:keepIn K (.ref C)=true):∃f fd dV,FunD K x qu st dV f fd/\Binds K fd ps []/\Mk K C f:=⟨_,_,_,FunD.i l9 c9 k9,b,⟨m,a,i,q⟩⟩
end
section
variable {x:Str}{st:v7}{ps:List Str}{f:vR}{oc dV:vS}{od an:Option vR}{sl:Array (Option vS)}{kV dc pm cd ct:vS}(X:K.In h)(G:h.Ns mainGlobals mg)(a:nsIn K mainGlobals x = some (some (.ref f)))(l9:K.lookup f = some ⟨oc, od, .func (fnOf x x (aP st) (aL st) (aj st) dV kV dc pm an cd ct), sl⟩)(c9:codeIn K cd x = true)(k9:keepIn K (.ref f) = true)(b:Binds K (fnOf x x (aP st) (aL st) (aj st) dV kV dc pm an cd ct) ps [])
include X G a l9 c9 k9 b
theorem fdI:∃f fd,FnD K mg x st ps f fd:=⟨_,_,⟨_,FunD.i l9 c9 k9⟩,uA X G a,b⟩
theorem fkI (d:Binds K (fnOf x x (aP st) (aL st) (aj st) dV kV dc pm an cd ct) ps [.int 16 t]):∃f fd,FnK K mg x st ps f fd:=⟨_,_,⟨_,FunD.i l9 c9 k9⟩,uA X G a,b,_,d⟩
end
theorem fcI {ps:List Str}{cd:vR}{kV:vS}(X:K.In h)(G:h.Ns mainGlobals mg)(a:nsIn K mainGlobals x=some (some (.ref f)))(l:K.lookup f=some ⟨oc,od,.func (fnOf x x (aP st) (aL st) (aj st) dV kV dc pm an (.ref cd) ct),sl⟩)(c:codeIn K (.ref cd) x=true)(k:keepIn K (.ref f)=true)(b:Binds K (fnOf x x (aP st) (aL st) (aj st) dV kV dc pm an (.ref cd) ct) ps []):∃f fd dV,FunC K x x st dV cd f fd/\mg x=some (.ref f)/\Binds K fd ps []:=⟨_,_,_,FunC.i l c k,uA X G a,b⟩
theorem m0 (h:P []):∀us:List vS,us.length=0->P us:=λ us hl=>by
 cases us with
 |nil=>exact h
 |cons a us=>cases hl
theorem mS {n:Nat}(h:∀a (us:List vS),us.length=n->P (a::us)):∀us:List vS,us.length=n+1->P us:=λ us hl=>by
 cases us with
 |nil=>cases hl
 |cons a us=>exact h a us (Nat.succ.inj hl)
theorem e1 (h:us.length=1):∃a,us=[a]:=mS (P:=λ us=>∃a,us=[a]) (λ a=>m0 ⟨a,rfl⟩) us h
theorem e2 (h:us.length=2):∃a b,us=[a,b]:=mS (P:=λ us=>∃a b,us=[a,b]) (λ a=>mS λ b=>m0 ⟨a,b,rfl⟩) us h
theorem b2 (h:∀(s:vT) (a b:vS),K.In s.heap->BindsTo s fd ⟨[a,b],[]⟩ [(p,a),(q,b)]):Binds K fd [p,q] []:=λ s us hX hl=>by
 obtain⟨a,b,rfl⟩:=e2 (show us.length=2 by simpa using hl);exact h s a b hX
theorem b1 {v:vS}(h:∀(s:vT) (a:vS),K.In s.heap->BindsTo s fd ⟨[a],[]⟩ [(p,a),(q,v)]):Binds K fd [p,q] [v]:=λ s us hX hl=>by
 obtain⟨a,rfl⟩:=e1 (show us.length=1 by simpa using hl);exact h s a hX
theorem jE {α β:Type}{F:α->β->Prop}{xs:List α}{ys:List β}(h:Paired F xs ys):∀(i:Nat) (x:α) (y:β),xs[i]?=some x->ys[i]?=some y->F x y:=by
 induction h with
 |nil=>intro i x y h1;cases h1
 |cons r _ ih=>
  intro i x y h1 h2;cases i with
  |zero=>cases h1;cases h2;exact r
  |succ i=>exact ih i x y h1 h2
theorem mQ {f:vR->Option Bool}{cs:List vR}{n k:Nat}(h:cs.map f=(List.range n).map λ j=>some (decide (j=k))):∀(i:Nat) (c:vR),cs[i]?=some c->f c=some (decide (i=k)):=λ i c e=>by
 have z:=sv (λ l:List (Option Bool)=>l[i]?) h;simp only [si,e,Option.map_some] at z;have hi:i<n:=by
  rcases uP i n with q|q
  ·exact q
  ·rw [ub (by rw [List.length_range];exact q)] at z;cases z
 rw [List.getElem?_range hi] at z;exact rH z
theorem ers {p e0 e1 e2 e3 e4 e5 e6 e7 e8 e9 e10 e11 e12 e13 e14 e15 e16 e17:vR}(q0:mg "BadRow"=some (.ref e0))(q1:mg "BadBits"=some (.ref e1))(q2:mg "NoBits"=some (.ref e2))(q3:mg "BadShares"=some (.ref e3))(q4:mg "BadLengths"=some (.ref e4))(q5:mg "BadCode"=some (.ref e5))(q6:mg "BadTable"=some (.ref e6))(q7:mg "Cut"=some (.ref e7))(q8:mg "BadPieces"=some (.ref e8))(q9:mg "BadBody"=some (.ref e9))(q10:mg "BadHead"=some (.ref e10))(q11:mg "BadCheck"=some (.ref e11))(q12:mg "BadMark"=some (.ref e12))(q13:mg "BadTail"=some (.ref e13))(q14:mg "Behind"=some (.ref e14))(q15:mg "Over"=some (.ref e15))(q16:mg "NoRange"=some (.ref e16))(q17:mg "BadLetters"=some (.ref e17))(m:mg "PressError"=some (.ref p))(x:ExC K p)(u:mg "tuple"=none)(v:mg "ValueError"=none)(a0:Exc1 K mg p e0)(c0:ExI K e0)(f0:kitOne K (.ref e0) (.type "ValueError")=some true)(i0:([e0,e1,e2,e3,e4,e5,e6,e7,e8,e9,e10,e11,e12,e13,e14,e15,e16,e17].map λ c=>kitOne K (.ref e0) (.ref c))=(List.range 18).map λ j=>some (decide (j=0)))(a9:Exc1 K mg p e9)(c9:ExI K e9)(f9:kitOne K (.ref e9) (.type "ValueError")=some true)(i9:([e0,e1,e2,e3,e4,e5,e6,e7,e8,e9,e10,e11,e12,e13,e14,e15,e16,e17].map λ c=>kitOne K (.ref e9) (.ref c))=(List.range 18).map λ j=>some (decide (j=9)))(a10:Exc1 K mg p e10)(c10:ExI K e10)(f10:kitOne K (.ref e10) (.type "ValueError")=some true)(i10:([e0,e1,e2,e3,e4,e5,e6,e7,e8,e9,e10,e11,e12,e13,e14,e15,e16,e17].map λ c=>kitOne K (.ref e10) (.ref c))=(List.range 18).map λ j=>some (decide (j=10)))(a11:Exc1 K mg p e11)(c11:ExI K e11)(f11:kitOne K (.ref e11) (.type "ValueError")=some true)(i11:([e0,e1,e2,e3,e4,e5,e6,e7,e8,e9,e10,e11,e12,e13,e14,e15,e16,e17].map λ c=>kitOne K (.ref e11) (.ref c))=(List.range 18).map λ j=>some (decide (j=11))):Ers K mg p [e0,e1,e2,e3,e4,e5,e6,e7,e8,e9,e10,e11,e12,e13,e14,e15,e16,e17]:=by
 have pm:Paired (λ(x:Str) (c:vR)=>mg x=some (.ref c)) names [e0,e1,e2,e3,e4,e5,e6,e7,e8,e9,e10,e11,e12,e13,e14,e15,e16,e17]:=(.cons q0 (.cons q1 (.cons q2 (.cons q3 (.cons q4 (.cons q5 (.cons q6 (.cons q7 (.cons q8 (.cons q9 (.cons q10 (.cons q11 (.cons q12 (.cons q13 (.cons q14 (.cons q15 (.cons q16 (.cons q17 .nil))))))))))))))))));refine⟨u,v,m,x,⟨_,_,_,_,_,_,_,_,_,_,_,_,_,_,_,_,_,_,rfl⟩,λ i x c h1 h2=>jE pm i x c h1 h2,λ i z c hw hc=>?_⟩;rcases hw with⟨rfl,_⟩|⟨rfl,_⟩|⟨rfl,_⟩|⟨rfl,_⟩<;>cases hc
 ·exact⟨a0,c0,f0,mQ i0⟩
 ·exact⟨a9,c9,f9,mQ i9⟩
 ·exact⟨a10,c10,f10,mQ i10⟩
 ·exact⟨a11,c11,f11,mQ i11⟩
end
theorem hd {l:PySem.W.OpenLaw}{w:vV}{K:Frag}{h:vY}{mg:Str->Option vS}{fa CK CHd CR cR cH cK cB cN C0 C1 C2 C3 B cP:vR}{cs:List vR}{kV:vS}(hKT:K.lookup Tb=none)(X:K.In h)(G:h.Ns mainGlobals mg)(hfa:mg "law"=some (.ref fa))
  (a:nsIn K mainGlobals "law"=some (some (.ref f))) (lk:K.lookup f=some ⟨oc,od,.func (fnOf "law" "law" (aP gj) (aL gj) (aj gj) .none kV dc pm an cd ct),sl⟩) (cc:codeIn K cd "law"=true) (kk:keepIn K (.ref f)=true) (R0':K23.Txt K mg) (R1':K23.Txt K mg->K23.Rows K mg) (R2':K23.Rows K mg->K23.Ck.Txt K mg) (R3':K23.Ck.CC K mg CK) (R4':K23.Ck.Txt K mg->K23.Ck.CC K mg CK->K23.Ck.Chk K mg CK) (R5':K23.Ck.Chk K mg CK->K23.Ck.Cks K mg CK) (R6':K23.Ck.CH K mg CHd) (R7':K23.Rows K mg->K23.Rf.Nr K mg cR) (R8':K23.Ck.Cks K mg CK->K23.Ck.CH K mg CHd->K23.Rf.Nr K mg cR->K23.Ck.Hds K mg CK CHd cR cH) (R9':K23.CRd K mg CR) (R10':K23.Rows K mg->K23.CRd K mg CR->K23.Ck.Rdr K mg CR cN) (R11':K23.Ck.Wal K mg C0 C1 C2 C3) (R12':K23.Ck.Hds K mg CK CHd cR cH->K23.Ck.Rdr K mg CR cN->K23.Ck.Wal K mg C0 C1 C2 C3->K23.Ck.Tbk K mg CK CHd CR cR cH cK cB cN C0 C1 C2 C3) (R13':K23.CB K mg B) (R14':K23.Rf.Nr K mg cR->K23.Ck.Wal K mg C0 C1 C2 C3->K23.CB K mg B->K23.Ck.Put K mg B cR C0 C1 C2 C3) (R15':K23.Ck.EC cs cR cH cK cB) (R16':K23.Ck.Tbk K mg CK CHd CR cR cH cK cB cN C0 C1 C2 C3->K23.Ck.Put K mg B cR C0 C1 C2 C3->K23.Ck.EC cs cR cH cK cB->K23.Ck.All K mg CK CHd CR cR cH cK cB cN C0 C1 C2 C3 B c cP cs):
  ∃fd:vW,(∀(s:vT) (v:vS),BindsTo s fd ⟨[v],[]⟩ [("_law_script",v)])/\∀base:vY,K.In base->base.Ns mainGlobals mg->CodeHd base c Tb->BmAt mg base->FnOk l.prog w K mg base CX0 42 fa fd ["_law_script"] (ja K Tb):=by
 have e:=hfa.symm.trans (uA X G a);cases e;have R0:=R0';have R1:=R1' R0;have R2:=R2' R1;have R3:=R3';have R4:=R4' R2 R3;have R5:=R5' R4;have R6:=R6';have R7:=R7' R1;have R8:=R8' R5 R6 R7;have R9:=R9';have R10:=R10' R1 R9;have R11:=R11';have R12:=R12' R8 R10 R11;have R13:=R13';have R14:=R14' R7 R11 R13;have R15:=R15';have R16:=R16' R12 R14 R15;exact⟨fnOf "law" "law" (aP gj) (aL gj) (aj gj) .none kV dc pm an cd ct,λ s v=>.of_eq rfl,λ base _ _ hC hB=>oE (fun_mk (st:=gj) lk cc kk) R16 hC hB hKT⟩
theorem walk {l:PySem.W.OpenLaw}{q:vU}{loose:List Str}{XP:(Str->Option vS)->vY->Prop}{YP:vV->vY->Prop}{d:DefRec}{K:Params->Frag}(hn:l.most=some 63)(hdf:d.params.defaults=[])
  (hY:∀(w:vV) (h:vY),YP w h->(K w.params).In h/\h.get? Tb=some (PySem.W.tabObj #[])) (hKT:∀w:vV,(K w.params).lookup Tb=none)
  (F:∀(w:vV) (mg:Str->Option vS) (fa:vR) (h:vY),(K w.params).In h->h.Ns mainGlobals mg->mg d.name=some (.ref fa)->
   ∃fd:vW,(∀(s:vT) (u:vS),BindsTo s fd ⟨[u],[]⟩ [("_law_script",u)])/\∀base:vY,(K w.params).In base->base.Ns mainGlobals mg->CodeHd base c Tb->BmAt mg base->FnOk l.prog w (K w.params) mg base CX0 42 fa fd ["_law_script"] (ja (K w.params) Tb))
  (hC:∀w:vV,PySem.W.codeHdIn (K w.params) c Tb=true):
  PySem.W.WalkO q loose XP YP l.row.toRowW d [] (λ f vs=>PySem.call f vs):=
 L2.walk_ofT (n:=63) (k:=42) (x:="_law_script") (sp:=λ w=>ja (K w.params) Tb) hn (by decide) hdf ⟨λ _=>rfl,by decide,by decide,rfl⟩ hY hC hKT F λ _ H a ns hl hS hT na=>⟨a,ns,rfl,hS,hT,na,λ _=>rfl⟩
end K23.Ck
open PySem PySem.W PyProof.Rows
structure PySem.W.Fast:Prop where(tw6590320252504780252 tw6090301396576873874 tw1819530988501105935 tw13133229930743251605 tw3421169259887422391 tw12085056997554298198 tw2309914599330318905 tw4657911723028764937 tw503116083302813936 tw1590418172153640853 tw2087317761160076682 tw3303556146068079025 tw3894535219579104406 tw9958431562457951271 tw2944407780013830651 tw1223531966233273278 tw865716412850571131 tw1929477870928248387 tw871850310652832839 tw13441053312737403178 tw16488579665218550809 tw15244772886851428077 tw10217542400329930321 tw18443325456088654362 tw13915239615068557843 tw5882471153003030571 tw11527969652489965479 tw15768957191543132573 tw10887227751602690003 tw4536266897757620949 tw14646052070332450166 tw3821431070498377685 tw8250418013562643816 tw4849619937866883429 tw1664996702291325671 tw11531235009747841377 tw1556257695341742219 tw10164725366536118202 tw9865915451648088444 tw11541140385495552150 tw18102295782391891567 tw13557466567584858758 tw8397302895229628018 tw6222494873813045163 tw9214370721195381598 tw11641083649291175946 tw7994206812310797542 tw13086987294524597200 tw14181935515130018608 tw2322869106666123047 tw16312554722808707296 tw6339545543066369787 tw17423789011008304741 tw12832467306064035655 tw8779878245675895953 tw7518497970995793611 tw5019631699307500569 tw15842110968222187435 tw3270679673722691674 tw13010171572599521864 tw5167395563503370511 tw4051770199174805576 tw1282475998412606930 tw573724498925595078 tw9366836387221626331 tw18090545100012404306 tw6387690168460143863 tw3152932494967135413 tw2565182910014646784 tw18217470294455370962 tw9670238977366305513 tw7596644096214648287 tw1363170532089006470 tw4407416121337126514 tw15277760133680907580 tw11278959245833419774 tw2211934448023446111 tw12917442537718095063 tw14279354659910425187 tw9336144299731153969 tw13930866352052958293 tw10587947457547622787 tw810678249602296246 tw1902766011977713881 tw17025192190207040134 tw9489786486426003874 tw13247848338892357885 tw16076631388509575806 tw2063912977946619292 tw12846801156166967024 tw16068861316005156169 tw13322510951226778017 tw196847192882435891 tw4238712525387709768 tw5017383474674754948 tw14489935910549552362 tw938822567386308762 tw2593114770016520047 tw10438697826712353677 tw532760666712660823 tw8000173997866594776 tw6586053276325286376 tw6885015926331200552 tw14858055780833608706 tw965998704164331452 tw12799692147219738627 tw5284580010041485810 tw12632444600665574114 tw11991369726373299872 tw1224740878740014698 tw12672933673730438000 tw7053012020839903171 tw13591143107318585925 tw11645444352661550091 tw12895829542754387864 tw10660887727772492929 tw969701356387489297 tw4693131283221084994 tw6901518083169823469 tw14462240573339910726 tw18365178596795529837 tw9872154153433157483 tw9454085286229413331 tw5290211948035423092 tw16628415987391726855 tw15801441598437084621 tw2530961946426234436 tw7892186644939238815 tw18115906559130418076 tw12874796997168066261 tw4204360191839043187 tw9729797185066698906 tw9118115444896879930 tw5944503360874082706 tw782223334743177815 tw2950707420374109494 tw6662906291946582064 tw4776592696669487630 tw14787039647817128849 tw8002603974678530718 tw9915182581704799411 tw1011901947322597945 tw3150891391037392623 tw5725093917441131093 tw11330841476477660397 tw3989223811633250925 tw7559380472718266869 tw7796574881103427878 tw14877204248230176300 tw9715464077612482778 tw4511751260608298502 tw13623558799451197289 tw6748181468439436149 tw12637186442765521806 tw565977712827214271 tw11288925793175899761 tw2295602732044057962 tw5316732272140891045 tw15257531014210527502 tw5638258673824528109 tw6061346643605161846 tw2337194884418138250 tw12712614859094782711 tw769633895941795798 tw7948287599706134512 tw11851665832721703657 tw10921635571766914313 tw12634185991378006262 tw1936663664245334303 tw7935174958966240834 tw6112188706509055394 tw9036437687025177019 tw1019935728436177397 tw18078192357253770047 tw16209956098177320391 tw1971076068524632420 tw2579929403405452055 tw3784637674358716452 tw17650283376115107574 tw13192891223256166319 tw4200949524275791851 tw14178641142091986830 tw853522655542550729 tw6562288925007415751 tw4899508999653620128 tw8116932912481998514 tw3195581886411058420 tw1860446465038160592:True)
set_option maxRecDepth 100000 in
set_option maxHeartbeats 0 in
theorem PySem.Challenge.cw_balepress_k23_blocks_refused_holds : PySem.Challenge.rw_balepress_k23_blocks_refused.Holds := by
 w_on;o_law;k_head;(case hw=>w_witness2)
 k_fill
 refine' K23.Ck.walk (l:=PySem.Challenge.rw_balepress_k23_blocks_refused) rfl rfl (λ w h Y=>⟨PySem.W.km_in_of Y,PySem.W.km_tabs_of Y _ List.mem_cons_self⟩) ?hKT ?F ?hC
 case hKT=>intro w;kernel_rfl
 case F=>
  intro w mg fa h KX G hmg
  refine' K23.Ck.hd (by kernel_rfl) KX G hmg ?a ?l ?c ?k ⟨?_,?_,?_,?_,?_,?_,?_,?_,?_,?_,?_,?_,?_,?_,?_,?_,?_,?_,?_,?_,?_,?_,?_,?_,?_,?_,?_,?_⟩ (λ R0=>⟨R0,?_,?_,?_⟩) (λ R1=>⟨R1,?_,?_⟩) ⟨?_,?_,?_,?_⟩ (λ R2 R3=>⟨R2,R3,?_,?_,?_,?_,?_,?_,?_⟩) (λ R4=>⟨R4,?_,?_,?_,?_⟩) ⟨?_,?_,?_,?_,?_,?_,?_⟩ (λ R1=>⟨R1,?_,?_,?_⟩) (λ R5 R6 R7=>⟨R5,R6,R7,?_,?_,?_,?_,?_,?_⟩) ⟨?_,?_,?_⟩ (λ R1 R9=>⟨R1,R9,?_,?_,?_,?_,?_,?_,?_,?_,?_,?_,?_⟩) ⟨?_,?_,?_,?_,?_,?_,?_,?_,?_,?_,?_,?_,?_,?_⟩ (λ R8 R10 R11=>⟨R8,R10,R11,?_,?_,?_,?_,?_,?_,?_,?_,?_,?_,?_,?_⟩) ⟨?_,?_,?_,?_⟩ (λ R7 R11 R13=>⟨R7,R11,?_,?_,?_,?_,?_,R13,?_,?_⟩) ⟨?_,?_,?_,?_⟩ (λ R12 R14 R15=>⟨R12,R14,?_,R15,?_,?_,?_,?_,?_,?_,?_,?_,?_,?_,?_,?_,?_,?_⟩)
  (case a=>k_is);(case l=>k_is);(case c=>k_is);(case k=>k_is)
  all_goals try (refine' K23.Ck.ers ?_ ?_ ?_ ?_ ?_ ?_ ?_ ?_ ?_ ?_ ?_ ?_ ?_ ?_ ?_ ?_ ?_ ?_ ?_ ?_ ?_ ?_ ?_ ?_ ?_ ?_ ?_ ?_ ?_ ?_ ?_ ?_ ?_ ?_ ?_ ?_ ?_ ?_)
  all_goals try (refine' mg_of KX G ?_;k_is)
  all_goals try (refine' PySem.W.mg_none_of KX G ?_;k_is)
  all_goals try (refine' K23.Ck.nI KX G ?a;case a=>k_is)
  all_goals try ((first|(refine' ⟨_,_,L2.fun_mk ?l ?c ?k,mg_of KX G ?a,.all ?b⟩;case a=>k_is)|(refine' ⟨_,_,L2.fun_mk ?l ?c ?k,⟨?a,?i,?k⟩,.all ?b⟩;(case a=>k_is);case i=>k_is));(case l=>k_is);(case c=>k_is);(case k=>k_is);(case b=>first|exact K23.Ck.m0 rfl|exact K23.Ck.mS λ _=>K23.Ck.m0 rfl|exact K23.Ck.mS λ _=>K23.Ck.mS λ _=>K23.Ck.m0 rfl|exact K23.Ck.mS λ _=>K23.Ck.mS λ _=>K23.Ck.mS λ _=>K23.Ck.m0 rfl|exact K23.Ck.mS λ _=>K23.Ck.mS λ _=>K23.Ck.mS λ _=>K23.Ck.mS λ _=>K23.Ck.m0 rfl))
  all_goals try (refine' K23.Ck.inI ?l1 ?c1 ?k1 ?e1 (.all ?b1) ?m1 ?a1 ?i1 ?q1;(case a1=>k_is);(case l1=>k_is);(case c1=>k_is);(case k1=>k_is);(case m1=>k_is);(case i1=>k_is);(case q1=>k_is);(case e1=>rfl);(case b1=>first|exact K23.Ck.m0 rfl|exact K23.Ck.mS λ _=>K23.Ck.m0 rfl|exact K23.Ck.mS λ _=>K23.Ck.mS λ _=>K23.Ck.m0 rfl|exact K23.Ck.mS λ _=>K23.Ck.mS λ _=>K23.Ck.mS λ _=>K23.Ck.m0 rfl|exact K23.Ck.mS λ _=>K23.Ck.mS λ _=>K23.Ck.mS λ _=>K23.Ck.mS λ _=>K23.Ck.m0 rfl))
  all_goals try ((first|refine' K23.Ck.fdI KX G ?a ?l ?c ?k ?b|refine' K23.Ck.fcI KX G ?a ?l ?c ?k ?b);(case a=>k_is);(case l=>k_is);(case c=>k_is);(case k=>k_is);(case b=>refine' K23.Ck.b2 λ s _ _ hX=>binds_K hX ?x ?t ?y ?z ?w;(case x=>rfl);(case t=>k_is);(case y=>rfl);(case z=>rfl);case w=>rfl))
  all_goals try (refine' K23.Ck.fkI KX G ?a ?l ?c ?k ?b ?d;(case a=>k_is);(case l=>k_is);(case c=>k_is);(case k=>k_is);(case b=>refine' K23.Ck.b2 λ s _ _ hX=>binds_K hX ?x ?t ?y ?z ?w;(case x=>rfl);(case t=>k_is);(case y=>rfl);(case z=>rfl);case w=>rfl);(case d=>refine' K23.Ck.b1 λ s _ hX=>binds_K hX ?x ?t ?y ?z ?w;(case x=>rfl);(case t=>k_is);(case y=>rfl);(case z=>rfl);case w=>rfl))
  all_goals try (refine' K23.Ck.ciI ?l2 ?c2 ?k2 ?d2 ?m2 ?a2 ?i2 ?q2;(case a2=>k_is);(case l2=>k_is);(case c2=>k_is);(case k2=>k_is);(case m2=>k_is);(case i2=>k_is);(case q2=>k_is);(case d2=>refine' K23.Ck.b2 λ s _ _ hX=>binds_K hX ?x ?t ?y ?z ?w;(case x=>rfl);(case t=>k_is);(case y=>rfl);(case z=>rfl);case w=>rfl))
  all_goals try k_is
  all_goals try (refine' K23.Ck.tabI KX G ?a ?l ?s;(case a=>k_is);(case l=>k_is);case s=>rfl)
  all_goals try (first|refine' K23.Ck.Exc1.mk ?_ ?_ ?_|refine' L2.Cls.mk ?_ ?_ ?_ ?_|refine' L2.MkB.mk ?_ ?_ ?_|refine' L2.ExI.mk ?_ ?_ ?_ ?_ ?_ ?_ ?_ ?_|unfold L2.NoAttr)
  all_goals try k_is
  all_goals try ((first|refine' K23.Ck.b2 λ s _ _ hX=>binds_K hX ?x ?t ?y ?z ?w|refine' K23.Ck.b1 λ s _ hX=>binds_K hX ?x ?t ?y ?z ?w);(case x=>rfl);(case t=>k_is);(case y=>rfl);(case z=>rfl);case w=>rfl)
  all_goals try (first|exact K23.Ck.m0 rfl|exact K23.Ck.mS λ _=>K23.Ck.m0 rfl|exact K23.Ck.mS λ _=>K23.Ck.mS λ _=>K23.Ck.m0 rfl|exact K23.Ck.mS λ _=>K23.Ck.mS λ _=>K23.Ck.mS λ _=>K23.Ck.m0 rfl|exact K23.Ck.mS λ _=>K23.Ck.mS λ _=>K23.Ck.mS λ _=>K23.Ck.mS λ _=>K23.Ck.m0 rfl)
  all_goals try unfold L2.ExC
  all_goals try kernel_rfl
  all_goals decide
 case hC=>intro w;kernel_rfl

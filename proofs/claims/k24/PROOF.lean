import PyProof.Rows.All
import Wide.All
import OpenK.AllK
import Wide.FinOn
import PyProof.EqAt
import PyProof.EqKinds
import PyProof.TupleCall
import PyProof.Seq
import PyProof.RangeIter
import PyProof.TupleIter
import PyProof.Rows.TupIter
import PyProof.StationsW
import PyProof.ExcClass2
import PyProof.NeKinds
import PyProof.Rows.TupMore
import PyProof.AutoSeq1
import PyProof.ZipIter
import PyProof.StrWalks
import PyProof.StrBlock2
import PyProof.StrBlockI
import PyProof.StrLaws
import PyProof.SliceStr2
import PyProof.Rows.Range3
import PyProof.Rows.StrRev
import PyProof.ConsumeWalk
import PyProof.Rows.SortShellK
import PyProof.Rows.SortRev
import PyProof.SeqI3
import PyProof.Rows.SeqGen
import PyProof.Rows.SortRunsK
import KE.KEqDict
import KE.KLam
import KE.KMinKey
import KE.KNestM
import Lean
import PySem.Challenge.RW_balepress_k24_pressers
noncomputable section
set_option bootstrap.genMatcherCode false
open PySem renaming Addr → HZ, Value → Ib, Shared → Ic, Program → Ie, World → Ig, FuncData → Ih, Around → Ii, Heap → Ij, Expr → Ik, Obj → Il, Stmt → Im
open PySem.W (mg_of Frag instObj methodObj lookIn InstAt plainGet hasDictIn findIn handedIn isFn plainOver takerIn makesIn typeIn InitBack emptyDict make_core Looks keepIn specialIn takesIn mroIn kitOne kitx_list kitx_dict fnOf codeIn codeRec_of excIn clsIn findObj KitX oi_run kitMeta CodeHd nsIn binds_K)
variable {P:Ie}{w:Ig}{K:Frag}{mg:PySem.Str->Option Ib}{base:Ij}
theorem Z9 {p:Prop}(h:p:=by decide):p:=h
theorem Z8 {p:Prop}(h:p:=by decide+kernel):p:=h
theorem Z7 {p:Prop}(h:p:=by rfl):p:=h
theorem Z6 {p:Prop}(h:p:=by simp):p:=h
theorem Z5 {p:Prop}(h:p:=by lia):p:=h
theorem Z4 {p:Prop}(h:p:=by omega):p:=h
theorem Z3 {p:Prop}(h:p:=by intro _;rfl):p:=h
theorem Z2 {p:Prop}(h:p:=by first|exact .inl rfl|exact .inr rfl|assumption):p:=h
theorem Z1 {p:Prop}(h:p:=by intro _ _ _ _ h;(repeat obtain⟨_,h⟩:=h)<;>subst_vars<;>rfl):p:=h
theorem ZU {p:Prop}(h:p:=by first|exact .inl rfl|exact .inr (.inl rfl)|exact .inr (.inr rfl)):p:=h
def ZT:=ZU._auto_1
def Z0:=Z7._auto_1
def ZZ:=Z9._auto_1
def ZY:=Z8._auto_1
def ZX:=Z3._auto_1
def ZW:=Z2._auto_1
def ZV:=Z1._auto_1
set_option Elab.async false
set_option linter.all false
set_option maxRecDepth 100000
abbrev A9:=@List.length_map
abbrev Ba:=@Nat.le_trans
abbrev Bb:=@List.length_append
abbrev Bc:=@PySem.wpAny_bind
abbrev Be:=@List.append_assoc
abbrev Bf:=@Nat.lt_of_lt_of_le
abbrev Bg:=@List.getElem?_eq_getElem
abbrev Bh:=@Nat.le_refl
abbrev Bi:=@PySem.Heap.get?_push_of_some
abbrev Bj:=@decide_eq_true
abbrev Bm:=@List.map_append
abbrev Bn:=@Nat.lt_of_lt_of_eq
abbrev Bo:=@List.getElem?_eq_some_iff
abbrev Bp:=@of_decide_eq_true
abbrev Bq:=@List.length_cons
abbrev Br:=@List.mem_append
abbrev Bt:=@List.pairwise_append
abbrev Bu:=@if_neg
abbrev Bv:=@List.length_take
abbrev Bw:=@List.mem_cons_of_mem
abbrev Bx:=@List.mem_singleton
abbrev By:=@List.length_drop
abbrev Bz:=@Nat.le_of_eq
abbrev BA:=@List.mem_cons
abbrev BB:=@List.mem_append_right
abbrev BC:=@List.size_toArray
abbrev BD:=@PySem.Heap.lt_size
abbrev BE:=@List.filter_cons_of_pos
abbrev BF:=@List.mem_cons_self
abbrev BG:=@PyProof.Rows.wpS_pure
abbrev BH:=@PySem.wpAny_pure
abbrev BI:=@Nat.le_antisymm
abbrev BJ:=@List.getElem?_append_right
abbrev BK:=@List.filter_append
abbrev BL:=@Bool.false_ne_true
abbrev BM:=@if_pos
abbrev BN:=@List.filter_cons_of_neg
abbrev BO:=@Int.toNat_natCast
abbrev BQ:=@List.take_of_length_le
abbrev BS:=@List.getElem?_eq_none
abbrev BU:=@Option.some.inj
abbrev BV:=@PySem.boot_len
abbrev BW:=@PySem.PassesOwn.never
abbrev BX:=@Nat.zero_le
abbrev BY:=@PySem.Heap.get?_push_size
abbrev BZ:=@Int.natCast_nonneg
abbrev B0:=@Nat.lt_of_le_of_lt
abbrev B1:=@Nat.le_add_right
abbrev B4:=@List.getElem?_map
abbrev B5:=@Array.toList_append
abbrev B7:=@Nat.le_of_lt
abbrev B8:=@List.take_append_drop
abbrev B9:=@beq_iff_eq
abbrev Ca:=@List.getD_eq_getElem?_getD
abbrev Cb:=@List.mem_iff_getElem
abbrev Cc:=@List.take_length
abbrev Cf:=@Nat.add_sub_of_le
abbrev Cg:=@List.getElem?_append_left
abbrev Ci:=@Nat.ne_of_lt
abbrev Cj:=@PySem.F.plainAttrs_list
abbrev Cm:=@List.mem_of_getElem?
abbrev Cn:=@Nat.lt_of_le_of_ne
abbrev Cq:=@List.mem_of_mem_take
abbrev Cs:=@List.mem_of_mem_drop
abbrev Ct:=@List.append_nil
abbrev Cu:=@PyProof.Rows.boot_isinstance
abbrev Cv:=@Nat.le_of_not_lt
abbrev Cw:=@List.pairwise_iff_getElem
abbrev Cy:=@Nat.sub_succ_lt_self
abbrev Cz:=@Nat.lt_of_succ_lt
abbrev CA:=@Nat.min_eq_left
abbrev CD:=@PySem.F.slot_list_append
abbrev CF:=@List.replicate_succ
abbrev CG:=@List.flatten_cons
abbrev CI:=@Nat.add_assoc
abbrev CJ:=@List.nil_append
abbrev CM:=@Nat.le_of_lt_succ
abbrev CN:=@Nat.mul_assoc
abbrev CQ:=@List.take_add_one
abbrev CS:=@PySem.F.type_list_append
abbrev CU:=@Nat.lt_of_succ_le
abbrev CV:=@Nat.le_add_right_of_le
abbrev CY:=@Array.length_toList
abbrev CZ:=@Nat.add_le_add_right
abbrev C4:=@List.mem_append_left
abbrev C5:=@Nat.zero_add
abbrev C6:=@List.length_replicate
abbrev C7:=@PyProof.Rows.boot_list
abbrev C8:=@Nat.sub_lt_of_lt
abbrev Da:=@Nat.min_le_left
abbrev Db:=@List.length_eq_zero_iff
abbrev Dc:=@Nat.add_lt_of_lt_sub'
abbrev Dd:=@PySem.mem_of_lookup
abbrev De:=@le_of_eq_of_le
abbrev Df:=@Nat.pow_succ
abbrev Dg:=@PySem.Heap.get?_update_other
abbrev Dh:=@PySem.wpAny_holding
abbrev Di:=@Nat.min_le_right
abbrev Dj:=@PySem.wpAny_mono
abbrev Dk:=@Bool.false_eq_true
abbrev Dl:=@List.pairwise_cons
abbrev Dm:=@Nat.lt_or_ge
abbrev Dn:=@List.getElem_mem
abbrev Do:=@List.take_append_of_le_length
abbrev Dp:=@Nat.le_of_succ_le
abbrev Dq:=@List.ext_getElem?
abbrev Dr:=@List.drop_eq_getElem_cons
abbrev Dt:=@Nat.mul_comm
abbrev Du:=@Nat.pow_le_pow_right
abbrev Dv:=@List.map_map
abbrev Dw:=@List.filter_eq_nil_iff
abbrev Dy:=@List.getElem?_set_self
abbrev Dz:=@Nat.mul_le_mul_left
abbrev DA:=@PySem.W.kia_one
abbrev DB:=@PySem.wpAny_field
abbrev DC:=@PyProof.Rows.wpS_forRange
abbrev DD:=@Nat.min_eq_right
abbrev DE:=@List.map_cons
abbrev DF:=@List.getElem_take
abbrev DG:=@Nat.pow_pos
abbrev DH:=@List.reverse_reverse
abbrev DI:=@List.mem_map
abbrev DJ:=@PySem.wpAny_Call_Name_kw
abbrev DK:=@Nat.mod_lt
abbrev DL:=@PySem.F.plain_min_loop
abbrev DM:=@Nat.xor_assoc
abbrev DN:=@List.drop_append_of_le_length
abbrev DO:=@List.flatten_append
abbrev DP:=@PySem.Heap.get?_update_ne
abbrev DQ:=@Nat.add_sub_self_left
abbrev DR:=@Eq.symm
abbrev DS:=@Nat.add_le_add_iff_left
abbrev DT:=@decide_eq_false
abbrev DU:=@List.mem_filter
abbrev DV:=@PyProof.Rows.callWith_type1
abbrev DW:=@Nat.succ_pred_eq_of_ne_zero
abbrev DX:=@Nat.sub_one_lt_of_lt
abbrev DY:=@Nat.sub_le_sub_right
abbrev DZ:=@Nat.le_sub_one_of_lt
abbrev D1:=@Array.toList_reverse
abbrev D2:=@PyProof.Rows.wpS_mono
abbrev D3:=@List.drop_eq_nil_of_le
abbrev D4:=@Nat.lt_succ_of_le
abbrev D5:=@Nat.lt_irrefl
abbrev D7:=@List.drop_zero
abbrev D8:=@List.getElem_append_right
abbrev D9:=@PySem.Heap.get?_update_self
abbrev Ea:=@PySem.W.methodCall_KW
abbrev Ec:=@Int.neg_ofNat_le_natCast
abbrev Ed:=@Nat.eq_zero_or_pos
abbrev Ee:=@Nat.pow_add
abbrev Ef:=@List.count_eq_zero_of_not_mem
abbrev Eg:=@List.getElem?_set_ne
abbrev Eh:=@Int.ofNat_sub
abbrev Ei:=@PySem.wpAny_callSpecial?_slot
abbrev Ej:=@List.length_range
abbrev Ek:=@Nat.sub_le
abbrev El:=@List.getElem_drop
abbrev Em:=@Nat.add_lt_add_left
abbrev Eo:=@List.sum_append
abbrev Ep:=@Nat.add_le_add_left
abbrev Es:=@Nat.le_succ
abbrev Et:=@PySem.W.callWith_K0
abbrev Eu:=@List.reverse_append
abbrev Ev:=@Array.getElem?_eq_some_iff
abbrev Ew:=@Nat.succ_le_succ
abbrev Ex:=@List.length_singleton
abbrev Ey:=@Nat.add_zero
abbrev Ez:=@Nat.sub_eq_iff_eq_add
abbrev EA:=@PyProof.Rows.boot_int
abbrev EB:=@List.getElem?_take
abbrev EC:=@Int.ofNat_lt
abbrev ED:=@List.getElem?_drop
abbrev EE:=@List.map_drop
abbrev EF:=@PySem.Obj.data_mapFields
abbrev EG:=@Nat.eq_sub_of_add_eq'
abbrev EH:=@List.take_zero
abbrev EI:=@List.drop_drop
abbrev EJ:=@PySem.sizeLine_eq
abbrev EK:=@PySem.wpAny_setField
abbrev EL:=@Nat.testBit_eq_decide_div_mod_eq
abbrev EM:=@Nat.mul_lt_mul_right
abbrev EN:=@Nat.sub_pos_of_lt
abbrev EO:=@PySem.wpAny_truthy_bool
abbrev EQ:=@PySem.wpAny_passesOwn
abbrev ER:=@List.getElem_append_left
abbrev ES:=@Nat.sub_zero
abbrev ET:=@Nat.and_two_pow_sub_one_eq_mod
abbrev EU:=@Nat.sub_self
abbrev EV:=@List.getElem?_replicate
abbrev EW:=@Nat.mul_add
abbrev EX:=@Nat.lt_add_of_pos_right
abbrev EY:=@List.getElem?_range
abbrev EZ:=@mg_of
abbrev E1:=@List.map_take
abbrev E2:=@PySem.wpAny_attempt
abbrev E3:=@Nat.add_sub_cancel_left
abbrev E4:=@List.length_reverse
abbrev E5:=@Nat.shiftLeft_eq
abbrev E6:=@List.not_mem_nil
abbrev E7:=@List.perm_middle
abbrev E8:=@List.mem_reverse
abbrev E9:=@Nat.add_le_add
abbrev Fa:=@PySem.wpAny_rule
abbrev Fb:=@Ne.symm
abbrev Fc:=@Nat.eq_zero_of_not_pos
abbrev Ff:=@of_decide_eq_false
abbrev Fg:=@PySem.W.callWith_K
abbrev Fh:=@Nat.add_comm
abbrev Fj:=@PyProof.Rows.boot_min
abbrev Fk:=@List.length_filter_le
abbrev Fl:=@Nat.lt_trans
abbrev Fm:=@PySem.Obj.isFreed_of_fields
abbrev Fp:=@List.singleton_append
abbrev Fq:=@List.take_sublist
abbrev Fs:=@List.count_append
abbrev Ft:=@List.sum_cons
abbrev Fu:=@PySem.W.looks_findIn
abbrev Fv:=@List.perm_cons_erase
abbrev Fw:=@Nat.eq_sub_of_add_eq
abbrev Fx:=@List.mem_range
abbrev Fy:=@PySem.Heap.size_push
abbrev Fz:=@PySem.wpAny_seqItems
abbrev FA:=@PySem.wpAny_tryCatch
abbrev FD:=@List.extract_eq_take_drop
abbrev FE:=@if_false
abbrev FG:=@Nat.mod_eq_of_lt
abbrev FJ:=@Nat.lt_of_not_le
abbrev FK:=@Nat.lt_succ_self
abbrev FL:=@Int.lt_of_not_ge
abbrev FM:=@PySem.wpAny_call_entry
abbrev FN:=@Int.ofNat_add_ofNat
abbrev FO:=@Nat.ToInt.mod_congr
abbrev FQ:=@List.map_congr_left
abbrev FR:=@beq_eq_false_iff_ne
abbrev FS:=@PySem.Heap.SameBut.update
abbrev FT:=@Nat.xor_comm
abbrev FU:=@Array.size_setIfInBounds
abbrev FV:=@Nat.div_add_mod
abbrev FW:=@List.count_cons
abbrev FX:=@Nat.pow_succ'
abbrev FY:=@List.count_pos_iff
abbrev FZ:=@PySem.Paired.length
abbrev F1:=@List.take_add
abbrev F2:=@Nat.pos_of_ne_zero
abbrev F3:=@List.of_mem_zip
abbrev F5:=@List.cons.inj
abbrev F6:=@PyProof.Rows.listUpdate_at
abbrev F7:=@PyProof.Rows.get?_update_seq
abbrev F8:=@PySem.wpAny_execs_nil
abbrev F9:=@List.nodup_cons
abbrev Ga:=@PySem.codeAny_builtin
abbrev Gb:=@PySem.slot_listiter_next
abbrev Gd:=@Nat.testBit_lt_two_pow
abbrev Ge:=@PyProof.Rows.bitAnd_pp
abbrev Gf:=@PyProof.noPylong_small
abbrev Gg:=@Nat.le_of_add_right_le
abbrev Gh:=@PySem.F.slot_list_extend
abbrev Gi:=@Nat.mod_eq_sub_mul_div
abbrev Gj:=@PySem.W.cellsFrom_some
abbrev Gk:=@PySem.F.entry_min_loop
abbrev Gm:=@Nat.add_mul
abbrev Gn:=@List.pairwise_map
abbrev Gp:=@PySem.wpAny_call
abbrev Gq:=@Nat.add_sub_assoc
abbrev Gr:=@Nat.lt_add_one
abbrev Gs:=@le_of_le_of_eq
abbrev Gu:=@PySem.codeAny_mono
abbrev Gv:=@Nat.le_add_left_of_le
abbrev Gw:=@Int.ofNat_add_one_out
abbrev Gx:=@Nat.ne_of_gt
abbrev Gy:=@Nat.lt_of_sub_eq_succ
abbrev Gz:=@List.mem_of_mem_erase
abbrev GA:=@Nat.add_le_of_le_sub'
abbrev GB:=@Nat.sub_eq_zero_of_le
abbrev GD:=@Array.getElem?_toList
abbrev GE:=@List.exists_mem_of_length_pos
abbrev GG:=@List.map_snd_zip
abbrev GJ:=@PySem.W.any_some
abbrev GK:=@Nat.le_of_not_ge
abbrev GQ:=@PySem.wpAny_isInstance
abbrev GU:=@Nat.div_lt_of_lt_mul
abbrev GV:=@PySem.Around.under_plainId
abbrev GZ:=@Array.toList_extract
abbrev G0:=@Int.ofNat_inj
abbrev G1:=@Nat.not_lt_zero
abbrev G4:=@List.filter_map
abbrev G5:=@List.length_set
abbrev G6:=@Int.natCast_pos
abbrev G7:=@Option.map_some
abbrev G8:=@List.length_zip
abbrev G9:=@List.mem_map_of_mem
abbrev Ha:=@PySem.wpAny_letGo
abbrev Hb:=@List.filterMap_cons
abbrev Hc:=@Bool.eq_iff_iff
abbrev Hd:=@PySem.W.plainGet_of
abbrev He:=@PySem.F.slot_enumerate_next
abbrev Hf:=@Nat.sub_le_sub_left
abbrev Hg:=@Nat.mod_two_eq_zero_or_one
abbrev Hh:=@Int.fdiv_eq_ediv_of_nonneg
abbrev Hi:=@Array.toList_setIfInBounds
abbrev Hj:=@Nat.xor_lt_two_pow
abbrev Hk:=@Int.ofNat_le
abbrev Hl:=@Int.natAbs_natCast
abbrev Hm:=@Nat.sub_add_cancel
abbrev Hn:=@Nat.sub_right_comm
abbrev Ho:=@Nat.shiftLeft_xor_distrib
abbrev Hs:=@Bool.false_and
abbrev Hu:=@List.foldl_append
abbrev Hv:=@Nat.lt_succ_of_lt
abbrev Hx:=@Nat.not_lt
abbrev Hy:=@Nat.zero_lt_of_lt
abbrev HA:=@Bool.not_eq_true'
abbrev HB:=@Nat.mul_left_comm
abbrev HC:=@Array.toList_push
abbrev HD:=@List.drop_sublist
abbrev HE:=@List.perm_nil
abbrev HF:=@Nat.div_eq_of_lt
abbrev HG:=@List.filter_cons
abbrev HH:=@Nat.not_le_of_lt
abbrev HI:=@List.drop_length
abbrev HJ:=@List.mem_flatMap
abbrev HK:=@PySem.W.makes_of
abbrev HL:=@Nat.sub_add_comm
abbrev HM:=@Nat.lt_add_right
abbrev HN:=@Nat.max_eq_right
abbrev HP:=@List.map_nil
abbrev HQ:=@Nat.testBit_xor
abbrev HR:=@Nat.ToInt.of_le
abbrev HS:=@List.map_const'
abbrev HU:=@List.range_succ
abbrev HV:=@Nat.le_total
abbrev HW:=@Int.le_of_lt
abbrev HX:=@List.drop_left
abbrev HY:=@Nat.mul_div_le
namespace QQ
open PySem PyProof.Rows
variable {env:Env}{L e it t:HZ}{base h h':Ij}{Q:Unit->Ic->Prop}{items vs:Array Ib}{c cls:Ib}{outer:List Env}{fp:List HZ}
def Cx2 (h:Ij)(a:HZ)(vs:Array Ib):Prop:=vs[2]?=some Value.none\/∃b ob us,vs[2]?=some (.ref b)/\b≠a/\h.get? b=some ob/\ob.data=.fields us/\6≤us.size/\us[2]?=some Value.none
def Hq (A:Ii)(h:Ij):Prop:=A.handled=none\/∃a o vs,A.handled=some (.ref a)/\h.get? a=some o/\o.data=.fields vs/\6≤vs.size/\Cx2 h a vs
theorem Hq.keep {A:Ii}(q:Hq A h)(k:∀a o vs,h.get? a=some o->o.data=.fields vs->6≤vs.size->h'.get? a=some o):Hq A h':=by
 rcases q with q|⟨a,o,vs,e,g,d,z,c⟩
 ·exact .inl q
 ·refine .inr ⟨a,o,vs,e,k a o vs g d z,d,z,?_⟩;rcases c with c|⟨b,ob,us,e1,n,e2,e3,e4,e5⟩
  ·exact .inl c
  ·exact .inr ⟨b,ob,us,e1,n,k b ob us e2 e3 e4,e3,e4,e5⟩
theorem iH:entryFor table "proto.unchain"=some Builtin.«proto.unchain»:=entryFor_of_fast (by kernel_rfl)
section
variable {prog:Ie}{w:Ig}{A:Ii}{E:Ib -> Ic -> Prop}{s:Ic}
theorem lW {α:Type}{oe:Il}{h0:Ij}{Q:α->Ic->Prop}(hq:Hq A h0)(hk:∀b o,h0.get? b=some o->s.heap.get? b=some o/\b≠e)(he:s.heap.get? e=some oe)(hd:oe.data=.fields vs)(hz:2<vs.size)
  (h:∀h' o',h'.get? e=some o'->o'.cls=oe.cls->Heap.SameBut e s.heap h'->E (.ref e) {s with heap:=h'}):wpAny (model prog w) A (raiseNew (.ref e):Sem α) Q E s:=by
 unfold raiseNew;refine Bc (wpAny_handled ?_);rcases hq with q|⟨a,o,us,ea,ga,da,zz,za⟩
 ·rw [q];exact Bc (BH (wpAny_throw (h s.heap oe he rfl (Heap.SameBut.refl ..))))
 ·rw [ea];obtain⟨ga,nae⟩:=hk a o ga;have ne:(Value.ref a !=Value.ref e)=true:=by simp [bne,nae]
  show wpAny _ _ (if(Value.ref a !=Value.ref e)=true then _ else _) _ _ _;rw [BM ne];have fin:wpAny (model prog w) A (updateField e 2 (.ref a)>>= λ _=>throw (.ref e)) Q E s:=by
   refine Bc (EK he hd hz ?_:wpAny _ _ (setField (.ref e) 2 (.ref a)) _ _ s);exact wpAny_throw (h _ _ (D9 _ he (Fm (EF hd _))) (Obj.cls_mapFields _ _) (FS ..))
  refine Bc (Dh (wpAny_runValue (Ga iH ?_)));show wpAny _ _ (field (.ref a) 2>>= _) _ _ s;rcases za with za|⟨b,ob,vb,eb,nb,gb,db,sz,zb⟩
  ·refine Bc (DB ga da za ?_);show wpAny _ _ (if(Value.none==Value.none)=true then _ else _) _ _ s;rw [BM Z7];refine Bc (BH (BH ?_));exact fin
  ·obtain⟨gb,nbe⟩:=hk b ob gb;refine Bc (DB ga da eb ?_);have n1:(Value.ref b==Value.none)=false:=rfl;have n2:(Value.ref b==Value.ref e)=false:=by simp [nbe]
   have n3:(Value.ref b==Value.ref a)=false:=by simp [nb]
   simp only [n1,n2,n3,Dk,FE];refine Bc (BH (BH ⟨Code.quiet_builtin _ Z8,Ga iH ?_⟩));show wpAny _ _ (field (.ref b) 2>>= _) _ _ s;refine Bc (DB gb db zb ?_);show wpAny _ _ (if(Value.none==Value.none)=true then _ else _) _ _ s;rw [BM Z7];refine Bc (BH (BH ?_));exact fin
theorem dt {α:Type}{E':Ib->Ic->Prop}{R:α->Ic->Prop}(hq:Hq A s.heap)
  (h:∀h' e,(∀b o,s.heap.get? b=some o->h'.get? b=some o)->(∃o,h'.get? e=some o/\o.cls=.type "StopIteration")->E' (.ref e) {s with heap:=h'}):
  wpAny (model prog w) A (newExc (.type "StopIteration") []>>= λ v=>(raiseNew v:Sem α)) R E' s:=by
 refine Bc ?_;simp only [newExc,newTuple];refine Bc (wpAny_newObj_type ?_ (by size_fits));refine Bc (m:=firstArgMember _ _) (wpAny_of_eq (a:=Value.none) (by first|rfl|(simp only [firstArgMember];rfl)) ?_);refine wpAny_newObj_type ?_ (by size_fits);have k2:∀b o,s.heap.get? b=some o->((s.heap.push {cls:=.type "tuple",data:=.seq ([]:List Ib).toArray}).push {cls:=.type "StopIteration",data:=.fields (#[.ref s.heap.objs.size,.none,.none,.none,.bool false,.none]++ownMembersOf (.type "StopIteration") [])}).get? b=some o:=
  λ b o e=>Bi _ (Bi _ e)
 refine lW hq (λ b o e=>⟨k2 b o e,?_⟩) (BY _ rfl) rfl (by rw [Array.size_append];exact Bf (show 2<6 by decide) (B1 _ _)) λ h' o' ge ce sb=>?_
 ·intro z;have:=BD e;rw [z,Fy] at this;exact absurd this (Hx.mpr (Es _))
 ·refine h h' _ (λ b o e=>sb.extBut b o (λ z=>?_) (k2 b o e)) ⟨o',ge,ce⟩;have:=BD e;rw [z,Fy] at this;exact absurd this (Hx.mpr (Es _))
theorem nK {a:HZ}{o o':Il}{us:Array Ib}(g:h.get? it=some o)(d:o.data=.fields vs)(z:vs.size<6)(g':h.get? a=some o')(d':o'.data=.fields us)(z':6≤us.size):a≠it:=by
 rintro rfl;rw [g] at g';cases g';rw [d] at d';cases d';lia
theorem list_end_q {l:HZ}{i:Nat}{items}{Q:Option Ib->Ic->Prop}(hq:Hq A s.heap)
  (hit:s.heap.IsListIter it l i) (hl:s.heap.IsList l items) (hx:items[i]?=none)
  (hQ:∀h',Heap.ExtBut it s.heap h'->Q none {s with heap:=h'}):wpAny (model prog w) A (pyNext (.ref it)) Q E s:=by
 obtain⟨o,ho,hc,hd⟩:=id hit;obtain⟨ol,hol,_,nl,hdl⟩:=hl;unfold pyNext;refine Bc (E2 (Ei (name:=Str.ofString "__next__") hit.typeIs Gb (FM Gb hit.typeIs entry_listiter_next ?_ (args_listiter_next _))));show wpAny _ _ (field (.ref it) 0>>= _) _ _ s;refine Bc (DB ho hd (x:=.ref l) rfl ?_);show wpAny _ _ (if(Value.ref l==Value.none)=true then _ else _) _ _ s;rw [Bu (show¬((Value.ref l==Value.none)=true) from BL)];show wpAny _ _ (field (.ref it) 1>>= _) _ _ s;refine Bc (DB ho hd (x:=.int i 0) rfl ?_);show wpAny _ _ (seqItems? (.ref l)>>= _) _ _ s;refine Bc (Fz hol hdl ?_);simp only [BO,hx];refine Bc (Fa (Bc (EK ho hd Z6 ?_)));have sb1:=FS (h:=s.heap) it (Obj.mapFields (·.setIfInBounds 0 Value.none));refine dt (A:=A.in1) (hq.keep λ a o' us e d' z'=>sb1.extBut a o' (nK ho hd Z6 e d' z') e) λ h' e k z9=>?_
 obtain⟨o',ge,ce⟩:=z9;refine Bc (GQ (T:="StopIteration") (b:=true) ⟨_,ge,ce⟩ isSubtype_stop ?_);exact BH (hQ _ λ b ob hb e1=>k b ob (sb1.extBut b ob hb e1))
theorem tuple_end_q {i:Nat}{items}{Q:Option Ib->Ic->Prop}(hq:Hq A s.heap)
  (hit:s.heap.IsTupleIter it t i) (ht:s.heap.IsTuple t items) (hx:items[i]?=none)
  (hQ:∀h',Heap.ExtBut it s.heap h'->Q none {s with heap:=h'}):wpAny (model prog w) A (pyNext (.ref it)) Q E s:=by
 obtain⟨o,ho,hc,hd⟩:=id hit;obtain⟨ol,hol,_,nl,hdl⟩:=ht;unfold pyNext;refine Bc (E2 (Ei (name:=Str.ofString "__next__") hit.typeIs F.slot_tuple_iterator_next (FM F.slot_tuple_iterator_next hit.typeIs F.entry_tuple_iterator_next ?_ (F.args_tuple_iterator_next_1 _))));show wpAny _ _ (field (.ref it) 0>>= _) _ _ s;refine Bc (DB ho hd (x:=.ref t) rfl ?_);show wpAny _ _ (if(Value.ref t==Value.none)=true then _ else _) _ _ s;rw [Bu (show¬((Value.ref t==Value.none)=true) from BL)];show wpAny _ _ (field (.ref it) 1>>= _) _ _ s;refine Bc (DB ho hd (x:=.int i 0) rfl ?_);show wpAny _ _ (seqItems? (.ref t)>>= _) _ _ s;refine Bc (Fz hol hdl ?_);simp only [BO,hx];refine Bc (Fa (Bc (EK ho hd Z6 ?_)));have sb1:=FS (h:=s.heap) it (Obj.mapFields (·.setIfInBounds 0 Value.none));refine dt (A:=A.in1) (hq.keep λ a o' us e d' z'=>sb1.extBut a o' (nK ho hd Z6 e d' z') e) λ h' e k z9=>?_
 obtain⟨o',ge,ce⟩:=z9;refine Bc (GQ (T:="StopIteration") (b:=true) ⟨_,ge,ce⟩ isSubtype_stop ?_);exact BH (hQ _ λ b ob hb e1=>k b ob (sb1.extBut b ob hb e1))
theorem range_end_q {x left step:Int}{Q:Option Ib->Ic->Prop}(hq:Hq A s.heap)(hit:IsRangeIter s.heap it x left step)(hleft:left≤0)
  (hQ:∀h',Heap.ExtBut it s.heap h'->Q none {s with heap:=h'}):wpAny (model prog w) A (pyNext (.ref it)) Q E s:=by
 have hT:s.TypeIs (.ref it) "range_iterator":=⟨_,hit,rfl⟩;unfold pyNext;refine Bc (E2 (Ei (name:=Str.ofString "__next__") hT F.slot_range_iterator_next (FM F.slot_range_iterator_next hT F.entry_range_iterator_next ?_ (F.args_range_iterator_next_1 _))));show wpAny _ _ (field (.ref it) 0>>= _) _ _ s;refine Bc (DB hit rfl (x:=rawInt x) rfl ?_);show wpAny _ _ (field (.ref it) 1>>= _) _ _ s;refine Bc (DB hit rfl (x:=rawInt left) rfl ?_);show wpAny _ _ (field (.ref it) 2>>= _) _ _ s;refine Bc (DB hit rfl (x:=rawInt step) rfl ?_);show wpAny _ _ (if left≤0 then _ else _) _ _ s;rw [BM hleft];refine Bc (Fa (Bc ?_));refine dt (A:=A.in1) hq λ h' e k z9=>?_
 obtain⟨o',ge,ce⟩:=z9;refine Bc (GQ (T:="StopIteration") (b:=true) ⟨_,ge,ce⟩ isSubtype_stop ?_);exact BH (hQ _ λ b ob hb e1=>k b ob e1)
theorem iZ {Q:List Ib->Ic->Prop}(hq:Hq A s.heap)(ht:IsTup s.heap t items)
  (hQ:∀h',Heap.ExtBut s.heap.objs.size s.heap h'->Q items.toList {s with heap:=h'}):wpAny (model prog w) A (unpackItems (.ref t) items.size none) Q E s:=by
 have nt:t≠s.heap.objs.size:=by obtain⟨o,ho,_⟩:=ht;exact Ci (BD ho)
 unfold unpackItems;refine Bc ?_;unfold notIterableAtAll;refine Bc (wpAny_specialOf ht.typeIs slot_tuple_iter.lookup (BH ?_));simp only [Dk,FE];refine Bc (Dh (iter_tuple ht (Bc (Dh (draw_tuple nt items.size 0 _ _ ⟨_,BY _ rfl,rfl,rfl⟩ (ht.push _) Z5 λ g1 i1 b1=>?_)))));rw [show List.take items.size (List.drop 0 items.toList)=items.toList by rw [D7];exact BQ Z6,Bu Z6];have k1:∀b o,b≠s.heap.objs.size->s.heap.get? b=some o->g1.get? b=some o:=λ b o hb e=>b1.extBut b o hb (Bi _ e)
 have q1:Hq A g1:=hq.keep λ a o _ e _ _=>k1 a o (Ci (BD e)) e
 have t1:IsTup g1 t items:=(ht.push _).extBut b1.extBut nt;refine Bc (Dh (tuple_end_q (s:={s with heap:=g1}) q1 (show g1.IsTupleIter _ t _ from i1) (show g1.IsTuple t items from t1) Z6 λ g2 x2=>?_));simp only [Option.isSome_none,Dk,FE];exact BH (hQ g2 λ b o hb e=>x2 b o hb (k1 b o hb e))
theorem assign_Tuple_q {elts:List Ik}{x1}{pos:Pos}(hq:Hq A s.heap)(ht:IsTup s.heap t items)
  (hn:(assignEach elts env).length=items.size) (hstar:(assignEach elts env).findIdx? (·.1)=none)
  (h:∀h',Heap.ExtBut s.heap.objs.size s.heap h'->wpAny (model prog w) A (assignInOrder ((assignEach elts env).map (·.2)) items.toList) Q E {s with heap:=h'}):
  wpAny (model prog w) A (assign (.Tuple elts x1 pos) env (.ref t)) Q E s:=by
 rw [assign_Tuple];refine Bc (wpAny_standAt ?_);unfold unpack;rw [hn,hstar];exact Bc (Dh (iZ hq ht h))
end
noncomputable def exO (cls:Ib) (vs:Array Ib):Il:={cls:=cls,data:=.fields vs}
def Fly (h:Ij)(e:HZ)(cls:Ib)(fp:List HZ)(c:Ib):Prop:=
 ∃vs,h.get? e=some (exO cls vs)/\(vs[2]?=some c/\6≤vs.size)/\((vs[1]?=some Value.none/\fp=[e])\/
  ∃T oT ts,vs[1]?=some (.ref T)/\T≠e/\h.get? T=some oT/\oT.data=.fields ts/\ts[3]?=some Value.none/\fp=[e,T])
theorem Fly.here (F:Fly h e cls fp c):e∈fp:=by
 obtain⟨vs,_,_,⟨_,r⟩|⟨T,oT,ts,_,_,_,_,_,r⟩⟩:=F<;>simp [r]
theorem Fly.rec (F:Fly h e cls fp c):∀b∈fp,∃o vs,h.get? b=some o/\o.data=.fields vs:=by
 obtain⟨vs,g,z,⟨a,r⟩|⟨T,oT,ts,a,ne,gT,dT,zT,r⟩⟩:=F
 ·intro b hb;rw [r,Bx] at hb;subst hb;exact⟨_,vs,g,rfl⟩
 ·intro b hb;rw [r] at hb;rcases BA.mp hb with hb|hb
  ·subst hb;exact⟨_,vs,g,rfl⟩
  ·rw [Bx] at hb;subst hb;exact⟨oT,ts,gT,dT⟩
theorem Fly.made {args:List Ib}(m:Heap.MadeExcOf h h' e cls args):Fly h' e cls [e] .none:=by
 obtain⟨t,ht,_⟩:=m.there;exact⟨_,ht,⟨rfl,by show(6:Nat)≤6;decide⟩,.inl ⟨rfl,rfl⟩⟩
section
variable {M:Model}{A:Ii}{E:Ib -> Ic -> Prop}{s:Ic}
theorem jm {head:Ib}{had:Bool}
    (hfr:A.frames=some (env::outer)) (hl:s.heap.FunFrames base (env::outer)) (hf:env.frame=some L)
    (he:s.heap.get? e=some (exO cls vs)) (h1:1<vs.size) (h2:vs[2]?=some c/\6≤vs.size)
    (h:∀h' T,Fly h' e cls [e,T] c->s.heap.objs.size≤T->(∀b o,s.heap.get? b=some o->b≠e->b∉(env::outer).filterMap (·.frame)->h'.get? b=some o)->
      (∀b o,s.heap.get? b=some o->b≠e->∃sl,h'.get? b=some {o with slots:=sl})->Q () {s with heap:=h'}):
    wpAny M A (do let a<-frameOf env;let pl<-entryPlaceOf L had;let b<-EntryCells.newEntry head a .none (rawInt L) .none pl;setField (.ref e) 1 b) (λ _ s'=>wpAny M A (setFlight (.ref e) none) Q E s') E s:=by
  have ne:e∉(env::outer).filterMap (·.frame):=λ hm=>by
    obtain⟨_,o,ho,hnf⟩:=hl.mem hm
    rw [he] at ho;cases ho
    exact hnf vs rfl
  refine Bc (wpAny_frameOf_fun hfr hl hf λ g1 s1=>?_)
  refine Bc (wpAny_entryPlaceOf λ pl hpl=>?_)
  unfold EntryCells.newEntry newFields
  refine Bc (wpAny_newObj_type ?_ (hpl.sizeOk5 _ _ _ _ _))
  have hsz:g1.objs.size=s.heap.objs.size:=s1.1
  have he1:g1.get? e=some (exO cls vs):=(s1.2.1 e ne).trans he
  generalize hO:({cls:=.type "traceback",dict:=none,data:=.fields ([head,.ref L,.none,rawInt L,.none]++(if pl.isEmpty then List.replicate 6 Value.none else pl)).toArray}:Il)=oT
  have e3:∃ts,oT.data=.fields ts/\3<ts.size:=⟨_,by rw [<-hO],by simp only [BC,Bb,Bq,List.length_nil];lia⟩
  have hfreed:oT.isFreed=false:=by rw [<-hO];rfl
  clear hO
  obtain⟨ts,hts,hz3⟩:=e3
  have he2:(g1.push oT).get? e=some (exO cls vs):=Bi _ he1
  have hT2:(g1.push oT).get? g1.objs.size=some oT:=BY g1 hfreed
  have hTe:g1.objs.size≠e:=Gx (BD he1)
  refine EK he2 rfl h1 ?_
  have he3:=D9 (Obj.mapFields (·.setIfInBounds 1 (Value.ref g1.objs.size))) he2 rfl
  have hT3:=(Dg (g1.push oT) (Obj.mapFields (·.setIfInBounds 1 (Value.ref g1.objs.size))) (Fb hTe)).trans hT2
  have he3':((g1.push oT).update e (Obj.mapFields (·.setIfInBounds 1 (Value.ref g1.objs.size)))).get? e=some (exO cls (vs.setIfInBounds 1 (Value.ref g1.objs.size))):=he3
  unfold setFlight
  refine Bc (DB he3' rfl (x:=.ref g1.objs.size) (by simp [h1]) ?_)
  rw [BM (show(Value.ref g1.objs.size !=Value.none)=true from by simp)]
  refine EK hT3 hts hz3 ?_
  have keep:∀b o,b≠e->g1.get? b=some o->(((g1.push oT).update e (Obj.mapFields (·.setIfInBounds 1 (Value.ref g1.objs.size)))).update g1.objs.size (Obj.mapFields (·.setIfInBounds 3 ((none:Option HZ).elim Value.none λ f=>rawInt f)))).get? b=some o:=λ b o hb q=>by
    rw [Dg _ _ (Gx (BD q)),Dg _ _ (Fb hb)]
    exact Bi _ q
  refine h _ g1.objs.size ⟨vs.setIfInBounds 1 (Value.ref g1.objs.size),?_,?_,.inr ⟨g1.objs.size,_,_,?_,hTe,D9 _ hT3 (Fm (EF hts _)),EF hts _,?_,rfl⟩⟩ (Bz hsz.symm) (λ b o q hb hn=>?_) λ b o q hb=>?_
  · rw [Dg _ _ hTe];exact he3'
  · rw [Array.getElem?_setIfInBounds_ne (by decide),FU];exact h2
  · simp [h1]
  · simp [hz3]
  · exact keep b o hb ((s1.2.1 b hn).trans q)
  · obtain⟨sl,e'⟩:=s1.2.2 b o q
    exact⟨sl,keep b _ hb e'⟩
theorem Aq 
  (hfr:A.frames=some (env::outer)) (hl:s.heap.FunFrames base (env::outer)) (hf:env.frame=some L) (F:Fly s.heap e cls fp c)
  (h:∀h' T,Fly h' e cls [e,T] c->s.heap.objs.size≤T->(∀b o,s.heap.get? b=some o->b∉fp->b∉(env::outer).filterMap (·.frame)->h'.get? b=some o)->
   (∀b o,s.heap.get? b=some o->b∉fp->∃sl,h'.get? b=some {o with slots:=sl})->(∀b o,s.heap.get? b=some o->∃o',h'.get? b=some o')->Q () {s with heap:=h'}):
  wpAny M A (noteFrame (.ref e) env) (λ _ s'=>wpAny M A (setFlight (.ref e) none) Q E s') E s:=by
 obtain⟨vs,he,h2,⟨h1,r⟩|⟨T,oT,ts,h1,ne,gT,dT,zT,r⟩⟩:=F
 ·subst r;unfold noteFrame;simp only [hf];refine Bc (DB he rfl h1 ?_);rw [Bu Z9];refine jm hfr hl hf he (Ev.mp h1).1 h2 λ h' T' f1 f2 f3 f4=>h h' T' f1 f2 (λ b o q hb hn=>f3 b o q (λ z=>hb (by simp [z])) hn) (λ b o q hb=>f4 b o q λ z=>hb (by simp [z])) λ b o q=>?_
  by_cases hb:b=e
  ·obtain⟨vs',g',_⟩:=f1;subst hb;exact⟨_,g'⟩
  ·obtain⟨sl,e'⟩:=f4 b o q hb;exact⟨_,e'⟩
 ·subst r;unfold noteFrame;simp only [hf];refine Bc (DB he rfl h1 ?_);rw [BM (show(Value.ref T !=Value.none)=true from by simp)];refine Bc (DB gT dT zT ?_);rw [Bu (show¬((Value.none==rawInt L)=true) from by simp [rawInt])];refine Bc (EK gT dT (Ev.mp zT).1 ?_);have oth:∀b,b≠T->(s.heap.update T (Obj.mapFields (·.setIfInBounds 3 Value.none))).get? b=s.heap.get? b:=λ b hb=>Dg _ _ (Fb hb)
  have gT':=D9 (Obj.mapFields (·.setIfInBounds 3 Value.none)) gT (Fm (EF dT _));have nT:∀b o,s.heap.get? b=some o->(∀us,o.data≠ .fields us)->b≠T:=λ b o q nf z=>by
   rw [z,gT] at q;cases q;exact nf ts dT
  have sz:(s.heap.update T (Obj.mapFields (·.setIfInBounds 3 Value.none))).objs.size=s.heap.objs.size:=Heap.size_after_update ..;refine jm hfr (hl.of_keeps λ b o q nf=>⟨o,(oth b (nT b o q nf)).trans q,rfl⟩) hf ((oth e (Fb ne)).trans he) (Ev.mp h1).1 h2
   λ h' T' f1 f2 f3 f4=>h h' T' f1 (by rw [sz] at f2;exact f2) (λ b o q hb hn=>?_) (λ b o q hb=>?_) λ b o q=>?_
  ·have b1:b≠e:=λ z=>hb (by simp [z])
   have b2:b≠T:=λ z=>hb (by simp [z])
   exact f3 b o ((oth b b2).trans q) b1 hn
  ·have b1:b≠e:=λ z=>hb (by simp [z])
   have b2:b≠T:=λ z=>hb (by simp [z])
   exact f4 b o ((oth b b2).trans q) b1
  ·by_cases hb:b=e
   ·obtain⟨vs',g',_⟩:=f1;subst hb;exact⟨_,g'⟩
   ·by_cases hT:b=T
    ·subst hT;obtain⟨sl,e'⟩:=f4 b _ gT' hb;exact⟨_,e'⟩
    ·obtain⟨sl,e'⟩:=f4 b o ((oth b hT).trans q) hb;exact⟨_,e'⟩
theorem ot {T:HZ}(F:Fly s.heap e cls [e,T] c)
  (h:∀h',Fly h' e cls [e,T] c->(∀b o,s.heap.get? b=some o->b≠T->h'.get? b=some o)->Q () {s with heap:=h'}):wpAny M A (setFlight (.ref e) none) Q E s:=by
 obtain⟨vs,he,h2,⟨h1,r⟩|⟨T',oT,ts,h1,ne,gT,dT,zT,r⟩⟩:=F
 ·cases r
 ·cases r;unfold setFlight;refine Bc (DB he rfl h1 ?_);rw [BM (show(Value.ref T !=Value.none)=true from by simp)];have z3:=(Ev.mp zT).1;refine EK gT dT z3 (h _ ⟨vs,?_,h2,.inr ⟨T,_,_,h1,ne,D9 _ gT (Fm (EF dT _)),EF dT _,by simp [z3],rfl⟩⟩ λ b o q hb=>?_)
  ·rw [Dg _ _ ne];exact he
  ·rw [Dg _ _ (Fb hb)];exact q
end
end QQ
namespace L2
open PySem PySem.Spec PyProof.Rows
variable {s s':Ic}{fd:Ih}{A:Ii}{Q:Unit->Ic->Prop}{K:Frag}{r:R2}{CX:CXT}{j k n t':Nat}{fp:List HZ}{C a b dx f it:HZ}{body:List Im}{v y:V}{o:HO}{base h:Ij}{tc:TT}{qual x:Str}{N ps:List Str}{vs xs ys:List V}{g:TG}{outer:List Env}{ta:TA}{p:Pos}{scope:Scope}{tb:TS}{X:Cx}{c e l tg:Ik}{t te:TE}{kindOf:Str->Option NameKind}{E:Ib->Ic->Prop}{H:Hp}{kw:List (Str×Ib)}{es:List Ik}{Io:List (HZ×Il)}{σ:St}{mA mg:Str->Option Ib}{u:Ib}{us:List Ib}{lo:Int}{w:Ig}{P:Ie}
abbrev Key:=Sum Int Str
def xi:Key->Ib->Bool
 | .inl k,v=>Value.isInt k v
 | .inr x,v=>Value.isStrOf x v
def A5 (w:Ig):Key->Int
 | .inl k=>hashInt k
 | .inr x=>hashStr w x
theorem keyIs_shape:∀{k:Key} {v:Ib},xi k v=true->(∃i t,k=Sum.inl i/\v=Value.int i t)\/(∃x t,k=Sum.inr x/\v=Value.str x t)
 | .inl i,v,h=>by
  obtain⟨t,e⟩:=Value.isInt_shape (k:=i) (v:=v) h;exact .inl ⟨i,t,rfl,e⟩
 | .inr x,v,h=>by
  obtain⟨t,e⟩:=Value.isStrOf_shape (x:=x) (v:=v) h;exact .inr ⟨x,t,rfl,e⟩
theorem yW (a b:Int):decide ((Sum.inl a:Key)=Sum.inl b)=(a==b):=by
 by_cases e:a=b
 ·subst e;simp
 ·have h:¬(Sum.inl a:Key)=Sum.inl b:=λ q=>e (Sum.inl.inj q)
  rw [DT h];exact(FR.mpr e).symm
theorem y0 (a b:Str):decide ((Sum.inr a:Key)=Sum.inr b)=decide (a=b):=by
 by_cases e:a=b
 ·subst e;simp
 ·have h:¬(Sum.inr a:Key)=Sum.inr b:=λ q=>e (Sum.inr.inj q)
  rw [DT h,DT e]
theorem xW (a:Int)(b:Str):decide ((Sum.inl a:Key)=Sum.inr b)=false:=DT (λ q=>nomatch q)
theorem ya (a:Str)(b:Int):decide ((Sum.inr a:Key)=Sum.inl b)=false:=DT (λ q=>nomatch q)
noncomputable def pE (prog:Ie) (w:Ig):PySem.KeyKind prog w Key where
 is:=xi
 hash:=A5 w
 inj:=λ v a b ha hb=>by
  rcases keyIs_shape ha with⟨i,t,rfl,rfl⟩|⟨x,t,rfl,rfl⟩
  ·rcases keyIs_shape hb with⟨j,u,rfl,e⟩|⟨y,u,rfl,e⟩
   ·injection e with e1 _;rw [e1]
   ·exact nomatch e
  ·rcases keyIs_shape hb with⟨j,u,rfl,e⟩|⟨y,u,rfl,e⟩
   ·exact nomatch e
   ·injection e with e1 _;rw [e1]
 byValue:=λ k v h=>by
  rcases keyIs_shape h with⟨i,t,rfl,rfl⟩|⟨x,t,rfl,rfl⟩<;>rfl
 pyHash:=λ hv h=>by
  rcases keyIs_shape hv with⟨i,t,rfl,rfl⟩|⟨x,t,rfl,rfl⟩
  ·exact wpAny_pyHash_int h
  ·exact wpAny_pyHash_str h
 eqBool:=λ hu hv h=>by
  rcases keyIs_shape hu with⟨i,t,rfl,rfl⟩|⟨x,t,rfl,rfl⟩
  ·rcases keyIs_shape hv with⟨j,u,rfl,rfl⟩|⟨y,u,rfl,rfl⟩
   ·rw [yW] at h;exact wpAny_eqBool_int h
   ·rw [xW] at h;exact SeqAt.EqAt.int_str i t y u _ _ _ _ h
  ·rcases keyIs_shape hv with⟨j,u,rfl,rfl⟩|⟨y,u,rfl,rfl⟩
   ·rw [ya] at h;exact SeqAt.EqAt.str_int x t j u _ _ _ _ h
   ·rw [y0] at h;exact wpAny_eqBool_str h
 «strs»:=λ k x t v h=>by
  rcases keyIs_shape h with⟨i,u,rfl,e⟩|⟨y,u,rfl,e⟩
  ·exact nomatch e
  ·injection e with e1 _
   subst e1;cases v<;>rfl
inductive V where
 |non|bl (b:Bool)|int (i:Int)|str (x:Str)|byt (b:Array UInt8)|flt (b:UInt64)|ref (a:HZ)|ty (n:String)
 deriving DecidableEq
def RelV:V->Ib->Prop
 | .non,u=>u=Value.none
 | .bl b,u=>u=Value.bool b
 | .int i,u=>∃t,u=Value.int i t
 | .str x,u=>∃t,u=Value.str x t
 | .byt b,u=>∃t,u=Value.bytes b t
 | .flt b,u=>∃t,u=Value.float b t
 | .ref a,u=>u=Value.ref a
 | .ty n,u=>u=Value.type n
abbrev Vals:List V->List Ib->Prop:=Paired RelV
theorem Vals.length (r:Vals xs us):xs.length=us.length:=FZ r
theorem Vals.get:∀{xs:List V} {us:List Ib} {i:Nat} {x:V},Vals xs us->xs[i]?=some x->∃u,us[i]?=some u/\RelV x u
 |_,_,_,_,.nil,e=>by simp at e
 |_,_,0,_,.cons r _,e=>by simp at e;subst e;exact⟨_,rfl,r⟩
 |_,_,i+1,x,.cons _ t,e=>by
  obtain⟨u,h1,h2⟩:=Vals.get (i:=i) (x:=x) t (by simpa using e);exact⟨u,by simpa using h1,h2⟩
theorem Vals.set {x:V}(r:RelV x u):∀{xs:List V} {us:List Ib} (i:Nat),Vals xs us->Vals (xs.set i x) (us.set i u)
 |_,_,_,.nil=>.nil
 |_,_,0,.cons _ t=>.cons r t
 |_,_,i+1,.cons q t=>.cons q (Vals.set r i t)
theorem Vals.append {ws:List Ib}(h:Vals xs us)(s:Vals ys ws):Vals (xs++ys) (us++ws):=by
 induction h with
 |nil=>exact s
 |cons r _ ih=>exact .cons r ih
theorem Vals.take (n:Nat)(h:Vals xs us):Vals (xs.take n) (us.take n):=by
 induction h generalizing n with
 |nil=>cases n<;>exact .nil
 |cons r _ ih=>cases n with
  |zero=>exact .nil
  |succ n=>exact .cons r (ih n)
theorem Vals.drop:∀{xs:List V} {us:List Ib} (n:Nat),Vals xs us->Vals (xs.drop n) (us.drop n)
 |_,_,0,r=>r
 |_,_,_+1,.nil=>.nil
 |_,_,n+1,.cons _ t=>Vals.drop n t
def RelO:Option V->Option Ib->Prop
 |some v,some u=>RelV v u
 |none,none=>True
 |_,_=>False
def KV {κ:Type}:List (κ×V)->List (κ×Ib)->Prop:=Paired λ(p:κ×V) (q:κ×Ib)=>p.1=q.1/\RelV p.2 q.2
def kV:Key->V
 | .inl i=>.int i
 | .inr x=>.str x
inductive HO where
 |lst (xs:List V)
 |tup (xs:List V)
 |dK (kvs:List (Key×V))|dT (kvs:List (List Key×V))
 |set (S:Int->Bool) (n:Nat)
 |ins (C dx:HZ) (fs:List (Str×V))
 |own (x:HZ)
 |xd (fs:List (Str×V))
 |met (f x:HZ)
 |rng (lo hi:Int)
 |frz (o:Il) (u:HO)
 |tbl (ps:Array Ib)
 |ext (φ:Ij->Prop)
abbrev Hp:=HZ->Option HO
noncomputable def upd (H:Hp) (a:HZ) (o:HO):Hp:=λ b=>if b=a then some o else H b
theorem ac:upd H a o a=some o:=by unfold upd;rw [BM rfl]
theorem upd_ne (h:b≠a):upd H a o b=H b:=by unfold upd;rw [Bu h]
theorem oY {u:HO}:upd (upd H a o) a u=upd H a u:=by
 funext b;unfold upd;split<;>rfl
theorem ne_of {u:HO}(h:H a=some o)(h':H b=some u)(d:o≠u):a≠b:=by
 intro e;subst e;rw [h] at h';exact d (BU h')
theorem ai (h:H a=some o)(h':H b=none):a≠b:=by
 intro e;subst e;rw [h] at h';cases h'
section
variable (P:Ie)(w:Ig)
def ObjOk (H:Hp)(h:Ij)(a:HZ):HO->Prop
 | .lst xs=>xs.length≤sizeLine/\∃(its:List Ib) (n:Nat),Vals xs its/\h.get? a=some {cls:=.type "list",data:=.seq its.toArray n}
 | .tup xs=>xs.length≤sizeLine/\∃its:List Ib,Vals xs its/\IsTup h a its.toArray
 | .dK kvs=>kvs.length≤sizeLine/\(a==sysModules)=false/\∃vs,KV kvs vs/\h.DictOf (pE P w) a vs
 | .dT kvs=>kvs.length≤sizeLine/\(a==sysModules)=false/\∃xs:List (List Key×HZ×Ib),
   Paired (λ(p:List Key×V) (q:List Key×HZ×Ib)=>p.1=q.1/\H q.2.1=some (.tup (p.1.map kV))/\RelV p.2 q.2.2) kvs xs/\
   ∃o es ep,h.get? a=some o/\o.ExactDict/\o.data=.dict es ep/\es.toList=xs.map (entryOfKey (tupleKind (pE P w)))/\(xs.map (·.1)).Nodup
 | .set S n=>h.SetOf (intKind P w) a S n
 | .ins C dx fs=>H dx=some (.own a)/\fs.length≤1000/\dx≠a/\h.get? a=some (instObj C dx)/\
   ∃mA,h.Ns1 dx mA/\(∀f,RelO (fs.lookup f) (mA f))/\PySem.Within mA (fs.map (·.1))
 | .own _=>∃o,h.get? a=some o
 | .xd fs=>∃mA,h.Ns1 a mA/\∀f,RelO (fs.lookup f) (mA f)
 | .rng lo hi=>∃t u v,h.get? a=some {cls:=.type "range",data:=.fields #[.int lo t,.int hi u,.int 1 v]}
 | .frz o u=>h.get? a=some o/\ObjOk H h a u
 | .tbl ps=>h.get? a=some {cls:=.none,data:=.fields ps}
 | .met f x=>h.get? a=some (methodObj (.ref f) (.ref x))
 | .ext φ=>φ h/\(∃o,h.get? a=some o)/\∀h1 h2:Ij,φ h1->(∀o,h1.get? a=some o->h2.get? a=some o)->φ h2
def HOk (H:Hp)(h:Ij):Prop:=∀a o,H a=some o->ObjOk P w H h a o
end
section
variable {P:Ie}{w:Ig}{H H':Hp}{h h':Ij}{a:HZ}{o:HO}
theorem ObjOk.lt (x:ObjOk P w H h a o):a<h.objs.size:=by
 cases o with
 |lst xs=>obtain⟨_,_,_,_,e⟩:=x;exact BD e
 |tup xs=>obtain⟨_,_,_,p⟩:=x;exact p.lt
 |dK kvs=>obtain⟨_,_,_,_,o,_,_,e,_⟩:=x;exact BD e
 |dT kvs=>obtain⟨_,_,_,_,o,_,_,e,_⟩:=x;exact BD e
 |set S n=>obtain⟨o,_,_,_,e,_⟩:=x;exact BD e
 |ins C dx fs=>obtain⟨_,_,_,e,_⟩:=x;exact BD e
 |own y=>obtain⟨_,e⟩:=x;exact BD e
 |xd fs=>obtain⟨_,⟨_,_,_,e,_⟩,_⟩:=x;exact BD e
 |rng lo hi=>obtain⟨_,_,_,e⟩:=x;exact BD e
 |frz ob u=>obtain⟨e,_⟩:=x;exact BD e
 |tbl ps=>exact BD (show h.get? a=some _ from x)
 |met f y=>exact BD (show h.get? a=some _ from x)
 |ext φ=>obtain⟨_,⟨_,e⟩,_⟩:=x;exact BD e
theorem Paired.mapP {α β:Type}{F G:α->β->Prop}{l₁:List α}{l₂:List β}(h:Paired F l₁ l₂)(f:∀a b,F a b->G a b):Paired G l₁ l₂:=by
 induction h with
 |nil=>exact .nil
 |cons r _ ih=>exact .cons (f _ _ r) ih
theorem ObjOk.stay (x:ObjOk P w H h a o)(k:∀b u,(b=a\/H b=some (.own a))->h.get? b=some u->h'.get? b=some u)
  (ho:∀b,H b=some (.own a)->H' b=some (.own a)) (ht:∀b xs,H b=some (.tup xs)->H' b=some (.tup xs)):ObjOk P w H' h' a o:=by
 induction o with
 |lst xs=>obtain⟨z,its,n,r,e⟩:=x;exact⟨z,its,n,r,k _ _ (.inl rfl) e⟩
 |tup xs=>obtain⟨z,its,r,ob,e,c⟩:=x;exact⟨z,its,r,ob,k _ _ (.inl rfl) e,c⟩
 |dK kvs=>obtain⟨z,y,vs,r,ob,es,ep,e,c⟩:=x;exact⟨z,y,vs,r,ob,es,ep,k _ _ (.inl rfl) e,c⟩
 |dT kvs=>
  obtain⟨z,y,xs,r,ob,es,ep,e,c⟩:=x;exact⟨z,y,xs,Paired.mapP r λ p q z=>⟨z.1,ht _ _ z.2.1,z.2.2⟩,ob,es,ep,k _ _ (.inl rfl) e,c⟩
 |set S n=>obtain⟨ob,es,ep,t,e,c⟩:=x;exact⟨ob,es,ep,t,k _ _ (.inl rfl) e,c⟩
 |ins C dx fs=>
  obtain⟨d,z,ne,e,mA,⟨od,es,ep,e2,c⟩,r⟩:=x;exact⟨ho _ d,z,ne,k _ _ (.inl rfl) e,mA,⟨od,es,ep,k _ _ (.inr d) e2,c⟩,r⟩
 |own y=>obtain⟨ob,e⟩:=x;exact⟨ob,k _ _ (.inl rfl) e⟩
 |xd fs=>obtain⟨mA,⟨od,es,ep,e,c⟩,r⟩:=x;exact⟨mA,⟨od,es,ep,k _ _ (.inl rfl) e,c⟩,r⟩
 |rng lo hi=>obtain⟨t,u,v,e⟩:=x;exact⟨t,u,v,k _ _ (.inl rfl) e⟩
 |frz ob u ih=>obtain⟨e,q⟩:=x;exact⟨k _ _ (.inl rfl) e,ih q⟩
 |tbl ps=>
  have e:h.get? a=some {cls:=.none,data:=.fields ps}:=x;show h'.get? a=some {cls:=.none,data:=.fields ps};exact k a _ (.inl rfl) e
 |met f y=>
  have e:h.get? a=some (methodObj (.ref f) (.ref y)):=x;show h'.get? a=some (methodObj (.ref f) (.ref y));exact k a _ (.inl rfl) e
 |ext φ=>obtain⟨p,⟨o,e⟩,st⟩:=x;exact⟨st _ _ p λ o q=>k _ _ (.inl rfl) q,⟨o,k _ _ (.inl rfl) e⟩,st⟩
theorem HOk.lt (x:HOk P w H h)(e:H a=some o):a<h.objs.size:=(x a o e).lt
theorem HOk.fresh (x:HOk P w H h)(e:h.objs.size≤a):H a=none:=by
 cases q:H a with
 |none=>rfl
 |some u=>exact absurd (Bf (x.lt q) e) (D5 _)
theorem HOk.kept (x:HOk P w H h)(k:∀b u,h.get? b=some u->h'.get? b=some u):HOk P w H h':=λ a o e=>
 (x a o e).stay (λ b u _ q=>k b u q) (λ _ q=>q) λ _ _ q=>q
theorem HOk.laid (x:HOk P w H h)(k:∀b u,h.get? b=some u->h'.get? b=some u)(hp:h.objs.size≤a)(new:ObjOk P w (upd H a o) h' a o):HOk P w (upd H a o) h':=λ b u e=>by
 have hn:=x.fresh hp;by_cases hb:b=a
 ·subst hb;rw [ac] at e;cases e;exact new
 ·rw [upd_ne hb] at e;exact(x b u e).stay (λ c v _ q=>k c v q) (λ c q=>by rw [upd_ne (ai q hn)];exact q) λ c xs q=>by rw [upd_ne (ai q hn)];exact q
end
def Rd (H:Hp)(a:HZ)(u:HO):Prop:=H a=some u\/∃o,H a=some (.frz o u)
theorem Rd.ok {u:HO}(r:Rd H a u)(x:HOk P w H h):ObjOk P w H h a u:=by
 rcases r with r|⟨o,r⟩
 ·exact x a u r
 ·obtain⟨_,q⟩:=x a _ r;exact q
def Mut:Option HO->Prop
 |some (.lst _)=>True
 |some (.dK _)=>True
 |some (.dT _)=>True
 |some (.set _ _)=>True
 |some (.ins _ _ _)=>True
 |some (.ext _)=>True
 |_=>False
section
variable {P:Ie}{w:Ig}{H:Hp}{h h':Ij}{x e:HZ}{o':HO}
theorem HOk.write (ok:HOk P w H h)(mu:Mut (H x))(he:e=x\/H e=some (.own x))(k:∀b u,b≠e->h.get? b=some u->h'.get? b=some u)(heo:∃u,h'.get? e=some u)
  (new:ObjOk P w (upd H x o') h' x o'):HOk P w (upd H x o') h':=λ b u q=>by
 have nown:∀c y,H c=some (.own y)->c≠x:=λ c y r z=>by subst z;rw [r] at mu;exact mu
 have ntup:∀c xs,H c=some (.tup xs)->c≠x:=λ c xs r z=>by subst z;rw [r] at mu;exact mu
 by_cases hb:b=x
 ·subst hb;rw [ac] at q;cases q;exact new
 ·rw [upd_ne hb] at q;by_cases hbe:b=e
  ·have q':H b=some (.own x):=by
    rcases he with z|z
    ·exact absurd (hbe.trans z) hb
    ·rw [hbe];exact z
   rw [q] at q';cases q';obtain⟨v,hv⟩:=heo;exact⟨v,by rw [hbe];exact hv⟩
  ·refine(ok b u q).stay (λ c v hc r=>k c v ?_ r) (λ c r=>by rw [upd_ne (nown c b r)];exact r) λ c xs r=>by rw [upd_ne (ntup c xs r)];exact r
   rcases hc with rfl|hc
   ·exact hbe
   ·rintro rfl;rcases he with z|z
    ·exact nown c b hc z
    ·rw [hc] at z;cases z;exact hb rfl
end
structure Un (fs ex:List HZ)(H H':Hp)(h h':Ij):Prop where
 keep:∀b o,h.get? b=some o->H b=none->b∉fs->b∉ex->h'.get? b=some o
 slot:∀b o,h.get? b=some o->H b=none->b∈fs->b∉ex->∃sl,h'.get? b=some {o with slots:=sl}
 free:∀b o,h.get? b=some o->H b=none->b∉ex->H' b=none
 there:∀b o,h.get? b=some o->b∉ex->∃o',h'.get? b=some o'
 tups:∀b xs,H b=some (.tup xs)->H' b=some (.tup xs)
 frzs:∀b o u,H b=some (.frz o u)->H' b=some (.frz o u)
 tbls:∀b ps,H b=some (.tbl ps)->∃more,H' b=some (.tbl (ps++more))
section
variable {fs fs' ex ex':List HZ}{H H1 H2:Hp}{h h1 h2 h':Ij}{a x e:HZ}{o:HO}
theorem Un.any (u:Un fs ex H H1 h h1){ob:Il}(q:h.get? b=some ob)(n:H b=none)(hx:b∉ex):∃sl,h1.get? b=some {ob with slots:=sl}:=by
 by_cases hb:b∈fs
 ·exact u.slot b ob q n hb hx
 ·exact⟨ob.slots,u.keep b ob q n hb hx⟩
theorem Un.kept (k:∀b u,h.get? b=some u->h'.get? b=some u):Un fs ex H H h h':=
 ⟨λ b ob q _ _ _=>k b ob q,λ b ob q _ _ _=>⟨ob.slots,k b ob q⟩,λ _ _ _ n _=>n,λ b ob q _=>⟨ob,k b ob q⟩,λ _ _ q=>q,λ _ _ _ q=>q,λ _ ps q=>⟨#[],by rw [q];simp⟩⟩
theorem Un.refl:Un fs ex H H h h:=Un.kept λ _ _ q=>q
theorem Un.laid (k:∀b u,h.get? b=some u->h'.get? b=some u)(hp:h.objs.size≤a)(hn:H a=none):Un fs ex H (upd H a o) h h' where
 keep:=λ b u q _ _ _=>k b u q
 slot:=λ b u q _ _ _=>⟨u.slots,k b u q⟩
 free:=λ b u q n _=>by rw [upd_ne (Ci (Bf (BD q) hp))];exact n
 there:=λ b u q _=>⟨u,k b u q⟩
 tups:=λ b xs q=>by rw [upd_ne (ai q hn)];exact q
 frzs:=λ b u xs q=>by rw [upd_ne (ai q hn)];exact q
 tbls:=λ b ps q=>⟨#[],by rw [upd_ne (ai q hn),q];simp⟩
theorem Un.write (mu:Mut (H x))(he:e=x\/H e=some (.own x))(k:∀b u,b≠e->h.get? b=some u->h'.get? b=some u)(heo:∃u,h'.get? e=some u):Un fs ex H (upd H x o) h h':=by
 have hx:∀b,H b=none->b≠x:=λ b n z=>by subst z;rw [n] at mu;exact mu
 have hb:∀b,H b=none->b≠e:=λ b n z=>by
  subst z;rcases he with r|r
  ·exact hx b n r
  ·rw [n] at r;cases r
 have hm:∀b u,H b=some u->¬Mut (some u)->b≠x:=λ b u q nm z=>by subst z;rw [q] at mu;exact nm mu
 refine⟨λ b u q n _ _=>k b u (hb b n) q,λ b u q n _ _=>⟨u.slots,k b u (hb b n) q⟩,λ b u q n _=>by rw [upd_ne (hx b n)];exact n,λ b u q _=>?_,
  λ b xs q=>by rw [upd_ne (hm b _ q λ z=>z)];exact q,λ b u xs q=>by rw [upd_ne (hm b _ q λ z=>z)];exact q,λ b ps q=>⟨#[],by rw [upd_ne (hm b _ q λ z=>z),q];simp⟩⟩
 by_cases hbe:b=e
 ·subst hbe;exact heo
 ·exact⟨u,k b u hbe q⟩
end
noncomputable def trk (h:Ij) (H:Hp):List HZ:=(List.range h.objs.size).filter λ a=>(H a).isSome
def hidT (h:Ij)(H:Hp):Ij:=PySem.W.hideAll h (trk h H)
theorem qh (h:Ij)(H:Hp):(hidT h H).objs.size=h.objs.size:=PySem.W.hideAll_size _ _
theorem tK {o:Il}(e:h.get? b=some o)(n:H b=none):(hidT h H).get? b=some o:=
 PySem.W.hideAll_get _ e λ hm=>by
  have q:(H b).isSome=true:=(DU.mp hm).2;rw [n] at q;simp at q
theorem wT {o:Il}(e:(hidT h H).get? b=some o):h.get? b=some o/\H b=none:=by
 have e':h.get? b=some o:=PySem.W.of_hideAll (trk h H) e;refine⟨e',?_⟩;cases q:H b with
 |none=>rfl
 |some x=>
  have hm:b∈trk h H:=DU.mpr ⟨Fx.mpr (BD e'),by simp [q]⟩;have z:(hidT h H).get? b=none:=PySem.W.hideAll_none (trk h H) hm;rw [z] at e;cases e
structure Mod (K:Frag)(mg:Str->Option Ib)(base:Ij):Prop where
 kin:K.In base
 glob:base.Ns mainGlobals mg
 blt:∃mb,base.Ns builtinsNs mb/\∀x:Str,x≠ "__name__"->mb x=bootBuiltins x
 nolimit:base.NoLimit
structure Cx where
 prog:Ie
 w:Ig
 K:Frag
 mg:Str->Option Ib
 base:Ij
 A:Ii
 N:List Str
 s₀:Ic
 H₀:Hp
 env:Env
 outer:List Env
 stack:List Env
 ex:List HZ
 fn:Str->Bool
 calm:Bool
 pn:List (HZ×Il)
 xe:Ib->Ic->Prop
def BkH (H:Hp)(a:HZ)(c:Ib):Prop:=c=.none\/∃b ob us,c=.ref b/\b≠a/\H b=some (.frz ob (.own b))/\ob.data=.fields us/\6≤us.size/\us[2]?=some Value.none
def Qt (A:Ii)(H:Hp):Prop:=A.handled=none\/∃a o vs c,A.handled=some (.ref a)/\H a=some (.frz o (.own a))/\o.data=.fields vs/\(vs[2]?=some c/\6≤vs.size)/\BkH H a c
def frs (l:List Env):List HZ:=l.filterMap (·.frame)
abbrev Cx.fs (X:Cx):List HZ:=frs X.outer
def Vis (sc:Scope)(x:Str):Prop:=sc.names.lookup x=some .local\/sc.names.lookup x=some .cell\/sc.names.lookup x=some .free
def Loc (sc:Scope)(x:Str):Prop:=sc.names.lookup x=some .local\/sc.names.lookup x=some .cell
def AL (env:Env)(h:Ij)(m:Str->Option Ib)(x:Str)(u:Ib):Prop:=
 (env.kindOf x=some .local/\m x=some u)\/((env.kindOf x=some .cell\/env.kindOf x=some .free)/\∃c,env.cells.lookup x=some c/\h.IsCell c (some u))
structure Cx.Ok (X:Cx):Prop where
 mod:Mod X.K X.mg X.base
 kind:X.env.scope.kind=.function
 glob:X.env.globals=mainGlobals
 blt:X.env.builtins=builtinsNs
 above:X.s₀.heap.objs.size≤X.env.locals
 inj:∀x y c,X.env.cells.lookup x=some c->X.env.cells.lookup y=some c->x=y
 has:∀x,(X.env.kindOf x=some .cell\/X.env.kindOf x=some .free)->∃c,X.env.cells.lookup x=some c
 cab:∀x c,X.fn x=true->X.env.cells.lookup x=some c->X.s₀.heap.objs.size≤c
 hd:Qt X.A X.H₀
 frames:X.A.frames=some X.stack
 stk:X.stack=X.outer\/(X.stack=X.env::X.outer/\X.env.frame=some X.env.locals)
 exf:∀b∈X.ex,b≠X.env.locals/\∀x c,X.env.cells.lookup x=some c->c≠b
 bs:∀b o,X.base.get? b=some o->X.s₀.heap.get? b=some o/\X.H₀ b=none
 bsz:X.base.objs.size≤X.s₀.heap.objs.size
 noex:∀b o,X.base.get? b=some o->b∉X.ex
 exfs:∀b∈X.ex,b∉X.fs
 funs:X.s₀.heap.FunFrames X.base X.outer
 frf:∀b∈X.fs,X.H₀ b=none
structure Inv (X:Cx)(Io:List (HZ×Il))(σ:List (Option V))(H:Hp)(s:Ic):Prop where
 ok:X.Ok
 os:s.os=X.s₀.os
 bare:AllBare s.gens
 base:Un X.fs X.ex X.H₀ H X.s₀.heap s.heap
 loc:∃m,s.heap.Ns X.env.locals m/\∀(i:Nat) (x:Str) (v:V),X.N[i]?=some x->σ[i]?=some (some v)->Vis X.env.scope x->∃u,RelV v u/\AL X.env s.heap m x u
 cell:∀x c,X.env.cells.lookup x=some c->∃v,s.heap.IsCell c v
 free:H X.env.locals=none
 freeC:∀x c,X.env.cells.lookup x=some c->H c=none
 pin:∀p∈X.pn++Io,s.heap.get? p.1=some p.2/\H p.1=none/\p.1≠X.env.locals/\p.1∉X.fs/\∀v,p.2.data≠ .cell v
 hok:HOk X.prog X.w H s.heap
 len:σ.length=X.N.length
section
variable {X:Cx}{Io:List (HZ × Il)}{σ:List (Option V)}{H H':Hp}{s:Ic}{h':Ij}
theorem Cx.Ok.nofr (ok:X.Ok){o:Il}(e:X.base.get? b=some o):b∉X.fs:=λ hb=>by
 have:=(ok.funs.mem hb).1;rw [e] at this;cases this
theorem Inv.bs (I:Inv X Io σ H s):∀b o,X.base.get? b=some o->s.heap.get? b=some o/\H b=none:=λ b o e=>
 ⟨I.base.keep b o (I.ok.bs b o e).1 (I.ok.bs b o e).2 (I.ok.nofr e) (I.ok.noex b o e),I.base.free b o (I.ok.bs b o e).1 (I.ok.bs b o e).2 (I.ok.noex b o e)⟩
theorem Inv.bk (I:Inv X Io σ H s):∀b o,X.base.get? b=some o->s.heap.get? b=some o:=λ b o e=>(I.bs b o e).1
theorem Inv.mod (I:Inv X Io σ H s):Mod X.K X.mg X.base:=I.ok.mod
theorem BkH.keep {c:Ib}(h:BkH H a c)(k:∀b o u,H b=some (.frz o u)->H' b=some (.frz o u)):BkH H' a c:=by
 rcases h with h|⟨b,ob,us,e,n,g,r⟩
 ·exact .inl h
 ·exact .inr ⟨b,ob,us,e,n,k _ _ _ g,r⟩
theorem Inv.qt (I:Inv X Io σ H s):Qt X.A H:=by
 rcases I.ok.hd with q|⟨a,o,vs,c,e,f,d,z,b⟩
 ·exact .inl q
 ·exact .inr ⟨a,o,vs,c,e,I.base.frzs _ _ _ f,d,z,b.keep I.base.frzs⟩
theorem Inv.hq (I:Inv X Io σ H s):QQ.Hq X.A s.heap:=by
 rcases I.qt with q|⟨a,o,vs,c,e,f,d,z,b⟩
 ·exact .inl q
 ·obtain⟨g,_⟩:=I.hok a _ f;refine .inr ⟨a,o,vs,e,g,d,z.2,?_⟩;rcases b with b|⟨b,ob,us,e1,n,f1,r⟩
  ·exact .inl (z.1.trans (congrArg some b))
  ·obtain⟨g1,_⟩:=I.hok b _ f1;exact .inr ⟨b,ob,us,z.1.trans (congrArg some e1),n,g1,r⟩
theorem Inv.kIn (I:Inv X Io σ H s):X.K.In s.heap:=I.ok.mod.kin.keeps I.bk
theorem Inv.lt (I:Inv X Io σ H s):X.env.locals<s.heap.objs.size:=let⟨_,hn,_⟩:=I.loc;hn.lt
theorem Inv.sz (I:Inv X Io σ H s):X.s₀.heap.objs.size≤s.heap.objs.size:=Ba I.ok.above (B7 I.lt)
theorem Inv.nofs (I:Inv X Io σ H s)(h:s.heap.objs.size≤a):a∉X.fs:=λ hb=>by
 obtain⟨_,o,ho,_⟩:=I.ok.funs.mem hb;exact absurd (Bf (BD ho) (Ba I.sz h)) (D5 _)
theorem Inv.cne (I:Inv X Io σ H s):∀x c,X.env.cells.lookup x=some c->c≠X.env.locals:=λ x c e z=>by
 obtain⟨v,o,ho,hd⟩:=I.cell x c e;obtain⟨m,⟨o',es,ep,ho',hd',_⟩,_⟩:=I.loc;rw [z,ho'] at ho;cases ho;rw [hd'] at hd;cases hd
theorem Inv.funs (I:Inv X Io σ H s):s.heap.FunFrames X.base X.outer:=by
 have all:∀(l:List Env),(∀b∈frs l,b∈X.fs)->X.s₀.heap.FunFrames X.base l->s.heap.FunFrames X.base l:=by
  intro l
  induction l with
  |nil=>intro _ _;trivial
  |cons env r ih=>
   intro hs hl;obtain⟨hk,⟨L,o,hf,hn,ho,hd⟩,hr⟩:=hl;have hL:L∈X.fs:=hs L (by unfold frs;rw [Hb,hf];exact BF);obtain⟨sl,e⟩:=I.base.slot L o ho (I.ok.frf L hL) hL λ z=>I.ok.exfs L z hL
   exact⟨hk,⟨L,_,hf,hn,e,hd⟩,ih (λ b hb=>hs b (by unfold frs;rw [Hb,hf];exact Bw _ hb)) hr⟩
 exact all X.outer (λ _ hb=>hb) I.ok.funs
theorem Inv.stack (I:Inv X Io σ H s):s.heap.FunFrames X.base X.stack:=by
 rcases I.ok.stk with e|⟨e,hf⟩
 ·rw [e];exact I.funs
 ·rw [e];obtain⟨m,hn,_⟩:=I.loc;refine .cons (by rw [I.ok.kind];decide) hf hn ?_ I.funs;exact Heap.get?_none_of_le (Ba I.ok.bsz I.ok.above)
theorem Inv.stkSub (I:Inv X Io σ H s):∀b∈frs X.stack,b∈X.env.locals::X.fs:=λ b hb=>by
 rcases I.ok.stk with e|⟨e,hf⟩
 ·rw [e] at hb;exact Bw _ hb
 ·rw [e] at hb;unfold frs at hb;rw [Hb,hf] at hb;exact hb
theorem Inv.stkFree (I:Inv X Io σ H s):∀b∈frs X.stack,H b=none:=λ b hb=>by
 rcases BA.mp (I.stkSub b hb) with e|hb
 ·rw [e];exact I.free
 ·obtain⟨_,o,ho,_⟩:=I.ok.funs.mem hb;exact I.base.free b o ho (I.ok.frf b hb) λ z=>I.ok.exfs b z hb
theorem Inv.step {g':Array GenState}{d':Drawn}{ch:List HZ}(I:Inv X Io σ H s)
  (hch:∀b∈ch,(b∈X.ex\/X.s₀.heap.objs.size≤b)/\b≠X.env.locals/\(∀x c,X.env.cells.lookup x=some c->c≠b)/\∀p∈X.pn++Io,p.1≠b)
  (keep:∀b o,b≠X.env.locals->b∉X.fs->b∉ch->s.heap.get? b=some o->H b=none->h'.get? b=some o)
  (slot:∀b o,b≠X.env.locals->b∈X.fs->b∉ch->s.heap.get? b=some o->H b=none->∃sl,h'.get? b=some {o with slots:=sl}) (free:∀b o,b∉ch->s.heap.get? b=some o->H b=none->H' b=none)
  (there:∀b o,b∉ch->s.heap.get? b=some o->∃o',h'.get? b=some o')
  (tups:∀b xs,H b=some (.tup xs)->H' b=some (.tup xs)) (frzs:∀b o u,H b=some (.frz o u)->H' b=some (.frz o u)) (tbls:∀b ps,H b=some (.tbl ps)->∃more,H' b=some (.tbl (ps++more)))
  (ns:∀m,s.heap.Ns X.env.locals m->h'.Ns X.env.locals m) (hok:HOk X.prog X.w H' h') (hg:AllBare g'):
  Inv X Io σ H' {s with heap:=h',gens:=g',drawn:=d',toks:=t'}:=by
 have neL:∀b o,X.s₀.heap.get? b=some o->b≠X.env.locals:=λ b o e=>Ci (Bf (BD e) I.ok.above)
 have neC:∀b o,X.s₀.heap.get? b=some o->b∉X.ex->b∉ch:=λ b o e hx hb=>by
  rcases(hch b hb).1 with z|z
  ·exact hx z
  ·exact absurd (Bf (BD e) z) (D5 _)
 have cellK:∀x c,X.env.cells.lookup x=some c->∀v,s.heap.IsCell c v->h'.IsCell c v:=λ x c e v ⟨o,ho,hd⟩=>by
  have nch:c∉ch:=λ z=>(hch c z).2.2.1 x c e rfl
  by_cases hc:c∈X.fs
  ·obtain⟨sl,q⟩:=slot c o (I.cne x c e) hc nch ho (I.freeC x c e);exact⟨_,q,hd⟩
  ·exact⟨o,keep c o (I.cne x c e) hc nch ho (I.freeC x c e),hd⟩
 refine⟨I.ok,I.os,hg,⟨λ b o e n hb hx=>?_,λ b o e n hb hx=>?_,λ b o e n hx=>?_,λ b o e hx=>?_,λ b xs e=>tups b xs (I.base.tups b xs e),λ b o xs e=>frzs b o xs (I.base.frzs b o xs e),λ b ps e=>?_⟩,?_,λ x c e=>?_,?_,λ x c e=>?_,λ p hp=>?_,hok,I.len⟩
 ·exact keep b o (neL b o e) hb (neC b o e hx) (I.base.keep b o e n hb hx) (I.base.free b o e n hx)
 ·obtain⟨sl,e1⟩:=I.base.slot b o e n hb hx;obtain⟨sl',e2⟩:=slot b _ (neL b o e) hb (neC b o e hx) e1 (I.base.free b o e n hx);exact⟨sl',e2⟩
 ·obtain⟨o',e1⟩:=I.base.there b o e hx;exact free b o' (neC b o e hx) e1 (I.base.free b o e n hx)
 ·obtain⟨o',e1⟩:=I.base.there b o e hx;exact there b o' (neC b o e hx) e1
 ·obtain⟨m1,e1⟩:=I.base.tbls b ps e;obtain⟨m2,e2⟩:=tbls b _ e1;exact⟨m1++m2,by rw [e2,Array.append_assoc]⟩
 ·obtain⟨m,hn,hl⟩:=I.loc;refine⟨m,ns m hn,λ i x v e1 e2 e3=>?_⟩;obtain⟨u,r,l⟩:=hl i x v e1 e2 e3;refine⟨u,r,?_⟩;rcases l with l|⟨k,c,e,z⟩
  ·exact .inl l
  ·exact .inr ⟨k,c,e,cellK x c e _ z⟩
 ·obtain⟨v,z⟩:=I.cell x c e;exact⟨v,cellK x c e v z⟩
 ·obtain⟨m,⟨o,_,_,ho,_⟩,_⟩:=I.loc;exact free _ o (λ z=>(hch _ z).2.1 rfl) ho I.free
 ·obtain⟨v,o,ho,hd⟩:=I.cell x c e;exact free c o (λ z=>(hch c z).2.2.1 x c e rfl) ho (I.freeC x c e)
 ·obtain⟨e,n,ne,nf,d⟩:=I.pin p hp;have nch:p.1∉ch:=λ z=>(hch p.1 z).2.2.2 p hp rfl
  exact⟨keep p.1 p.2 ne nf nch e n,free p.1 p.2 nch e n,ne,nf,d⟩
theorem Inv.step0 {g':Array GenState}{d':Drawn}{ch:List HZ}(I:Inv X Io σ H s)
  (hch:∀b∈ch,(b∈X.ex\/X.s₀.heap.get? b=none)/\b≠X.env.locals/\(∀x c,X.env.cells.lookup x=some c->c≠b)/\∀p∈X.pn++Io,p.1≠b)
  (keep:∀b o,b≠X.env.locals->b∉X.fs->b∉ch->s.heap.get? b=some o->H b=none->h'.get? b=some o)
  (slot:∀b o,b≠X.env.locals->b∈X.fs->b∉ch->s.heap.get? b=some o->H b=none->∃sl,h'.get? b=some {o with slots:=sl}) (free:∀b o,b∉ch->s.heap.get? b=some o->H b=none->H' b=none)
  (there:∀b o,b∉ch->s.heap.get? b=some o->∃o',h'.get? b=some o')
  (tups:∀b xs,H b=some (.tup xs)->H' b=some (.tup xs)) (frzs:∀b o u,H b=some (.frz o u)->H' b=some (.frz o u)) (tbls:∀b ps,H b=some (.tbl ps)->∃more,H' b=some (.tbl (ps++more)))
  (ns:∀m,s.heap.Ns X.env.locals m->h'.Ns X.env.locals m) (hok:HOk X.prog X.w H' h') (hg:AllBare g'):
  Inv X Io σ H' {s with heap:=h',gens:=g',drawn:=d',toks:=t'}:=by
 have neL:∀b o,X.s₀.heap.get? b=some o->b≠X.env.locals:=λ b o e=>Ci (Bf (BD e) I.ok.above)
 have neC:∀b o,X.s₀.heap.get? b=some o->b∉X.ex->b∉ch:=λ b o e hx hb=>by
  rcases(hch b hb).1 with z|z
  ·exact hx z
  ·rw [e] at z;cases z
 have cellK:∀x c,X.env.cells.lookup x=some c->∀v,s.heap.IsCell c v->h'.IsCell c v:=λ x c e v ⟨o,ho,hd⟩=>by
  have nch:c∉ch:=λ z=>(hch c z).2.2.1 x c e rfl
  by_cases hc:c∈X.fs
  ·obtain⟨sl,q⟩:=slot c o (I.cne x c e) hc nch ho (I.freeC x c e);exact⟨_,q,hd⟩
  ·exact⟨o,keep c o (I.cne x c e) hc nch ho (I.freeC x c e),hd⟩
 refine⟨I.ok,I.os,hg,⟨λ b o e n hb hx=>?_,λ b o e n hb hx=>?_,λ b o e n hx=>?_,λ b o e hx=>?_,λ b xs e=>tups b xs (I.base.tups b xs e),λ b o xs e=>frzs b o xs (I.base.frzs b o xs e),λ b ps e=>?_⟩,?_,λ x c e=>?_,?_,λ x c e=>?_,λ p hp=>?_,hok,I.len⟩
 ·exact keep b o (neL b o e) hb (neC b o e hx) (I.base.keep b o e n hb hx) (I.base.free b o e n hx)
 ·obtain⟨sl,e1⟩:=I.base.slot b o e n hb hx;obtain⟨sl',e2⟩:=slot b _ (neL b o e) hb (neC b o e hx) e1 (I.base.free b o e n hx);exact⟨sl',e2⟩
 ·obtain⟨o',e1⟩:=I.base.there b o e hx;exact free b o' (neC b o e hx) e1 (I.base.free b o e n hx)
 ·obtain⟨o',e1⟩:=I.base.there b o e hx;exact there b o' (neC b o e hx) e1
 ·obtain⟨m1,e1⟩:=I.base.tbls b ps e;obtain⟨m2,e2⟩:=tbls b _ e1;exact⟨m1++m2,by rw [e2,Array.append_assoc]⟩
 ·obtain⟨m,hn,hl⟩:=I.loc;refine⟨m,ns m hn,λ i x v e1 e2 e3=>?_⟩;obtain⟨u,r,l⟩:=hl i x v e1 e2 e3;refine⟨u,r,?_⟩;rcases l with l|⟨k,c,e,z⟩
  ·exact .inl l
  ·exact .inr ⟨k,c,e,cellK x c e _ z⟩
 ·obtain⟨v,z⟩:=I.cell x c e;exact⟨v,cellK x c e v z⟩
 ·obtain⟨m,⟨o,_,_,ho,_⟩,_⟩:=I.loc;exact free _ o (λ z=>(hch _ z).2.1 rfl) ho I.free
 ·obtain⟨v,o,ho,hd⟩:=I.cell x c e;exact free c o (λ z=>(hch c z).2.2.1 x c e rfl) ho (I.freeC x c e)
 ·obtain⟨e,n,ne,nf,d⟩:=I.pin p hp;have nch:p.1∉ch:=λ z=>(hch p.1 z).2.2.2 p hp rfl
  exact⟨keep p.1 p.2 ne nf nch e n,free p.1 p.2 nch e n,ne,nf,d⟩
theorem Inv.un (I:Inv X Io σ H s)(u:Un X.fs [] H H' s.heap h')(hok:HOk X.prog X.w H' h'):Inv X Io σ H' {s with heap:=h',toks:=t'}:=by
 obtain⟨m,⟨o,es,ep,ho,r⟩,_⟩:=id I.loc;obtain⟨sl,hL⟩:=u.any ho I.free Z6;exact I.step (g':=s.gens) (d':=s.drawn) (ch:=[]) (λ _ z=>nomatch z) (λ b o _ hb _ e n=>u.keep b o e n hb Z6) (λ b o _ hb _ e n=>u.slot b o e n hb Z6) (λ b o _ e n=>u.free b o e n Z6) (λ b o _ e=>u.there b o e Z6) u.tups u.frzs u.tbls (λ m' hm=>by
  obtain⟨o',es',ep',ho',r'⟩:=hm;rw [ho] at ho';cases ho';exact⟨_,es',ep',hL,r'⟩) hok I.bare
theorem Inv.call {g':Array GenState}{d':Drawn}{ch:List HZ}(I:Inv X Io σ H s)(u:Un (frs X.stack) ch H H' s.heap h')(hok:HOk X.prog X.w H' h')(hg:AllBare g')
  (hch:∀b∈ch,(b∈X.ex\/X.s₀.heap.objs.size≤b)/\b≠X.env.locals/\(∀x c,X.env.cells.lookup x=some c->c≠b)/\∀p∈X.pn++Io,p.1≠b):
  Inv X Io σ H' {s with heap:=h',gens:=g',drawn:=d',toks:=t'}:=by
 obtain⟨m,⟨o,es,ep,ho,r⟩,_⟩:=id I.loc;obtain⟨sl,hL⟩:=u.any ho I.free λ z=>(hch _ z).2.1 rfl
 exact I.step (ch:=ch) hch (λ b o hL hb hc e n=>u.keep b o e n (λ z=>(BA.mp (I.stkSub b z)).elim hL hb) hc) (λ b o _ _ hc e n=>u.any e n hc) (λ b o hc e n=>u.free b o e n hc) (λ b o hc e=>u.there b o e hc) u.tups u.frzs u.tbls (λ m' hm=>by
  obtain⟨o',es',ep',ho',r'⟩:=hm;rw [ho] at ho';cases ho';exact⟨_,es',ep',hL,r'⟩) hok hg
theorem Inv.turned (I:Inv X Io σ H s)(k:∀b o,b≠it->s.heap.get? b=some o->h'.get? b=some o)(hn:H it=none)(hL:it≠X.env.locals)
  (h1:it∈X.ex\/X.s₀.heap.objs.size≤it) (h2:∀x c,X.env.cells.lookup x=some c->c≠it) (h3:∀p∈X.pn++Io,p.1≠it):Inv X Io σ H {s with heap:=h',toks:=t'}:=by
 have nit:∀b u,H b=some u->b≠it:=λ b u e z=>by rw [z,hn] at e;cases e
 refine I.step (g':=s.gens) (d':=s.drawn) (ch:=[it]) (λ b hb=>?_) (λ b o _ _ hc e _=>k b o (λ z=>hc (by simp [z])) e) (λ b o _ _ hc e _=>⟨o.slots,k b o (λ z=>hc (by simp [z])) e⟩) (λ _ _ _ _ n=>n)
  (λ b o hc e=>⟨o,k b o (λ z=>hc (by simp [z])) e⟩) (λ _ _ e=>e) (λ _ _ _ e=>e) (λ b ps e=>⟨#[],by rw [e];simp⟩) (λ m hm=>?_) (λ b u e=>?_) I.bare
 ·have e:b=it:=by simpa using hb
  subst e;exact⟨h1,hL,h2,h3⟩
 ·obtain⟨o,es,ep,ho,r⟩:=hm;exact⟨o,es,ep,k _ o (Fb hL) ho,r⟩
 ·refine(I.hok b u e).stay (λ c v hc q=>k c v ?_ q) (λ _ q=>q) λ _ _ q=>q
  rcases hc with z|z
  ·rw [z];exact nit b u e
  ·exact nit c _ z
theorem Inv.tok (I:Inv X Io σ H s)(t:Nat):Inv X Io σ H {s with toks:=t}:=I.un (h':=s.heap) (t':=t) Un.refl I.hok
theorem Inv.kept (I:Inv X Io σ H s)(k:∀b u,s.heap.get? b=some u->h'.get? b=some u):Inv X Io σ H {s with heap:=h',toks:=t'}:=I.un (Un.kept k) (I.hok.kept k)
theorem Inv.laid (I:Inv X Io σ H s)(k:∀b u,s.heap.get? b=some u->h'.get? b=some u)(hp:s.heap.objs.size≤a)(new:ObjOk X.prog X.w (upd H a o) h' a o):
  Inv X Io σ (upd H a o) {s with heap:=h',toks:=t'}:=I.un (Un.laid k hp (I.hok.fresh hp)) (I.hok.laid k hp new)
theorem Inv.write {x e:HZ}(I:Inv X Io σ H s)(mu:Mut (H x))(he:e=x\/H e=some (.own x))(k:∀b u,b≠e->s.heap.get? b=some u->h'.get? b=some u)(heo:∃u,h'.get? e=some u)
  (new:ObjOk X.prog X.w (upd H x o) h' x o):Inv X Io σ (upd H x o) {s with heap:=h',toks:=t'}:=I.un (Un.write mu he k heo) (I.hok.write mu he k heo new)
theorem Inv.pins_of {pins':List (HZ×Il)}(I:Inv X Io σ H s)(h:∀p∈pins',s.heap.get? p.1=some p.2/\H p.1=none/\p.1≠X.env.locals/\p.1∉X.fs/\∀v,p.2.data≠ .cell v):Inv X pins' σ H s:=
 ⟨I.ok,I.os,I.bare,I.base,I.loc,I.cell,I.free,I.freeC,λ p hp=>(Br.mp hp).elim (λ z=>I.pin p (C4 _ z)) (h p),I.hok,I.len⟩
theorem nodup_ix (hN:N.Nodup){i:Nat}(a:N[i]?=some x)(b:N[j]?=some x):i=j:=by
 obtain⟨h1,e1⟩:=Bo.mp a;obtain⟨h2,e2⟩:=Bo.mp b;exact(List.getElem_inj hN).mp (e1.trans e2.symm)
theorem jt {M:Model}{i:Nat}(I:Inv X Io σ H s)(hN:X.N.Nodup)(hi:X.N[i]?=some x)(hx:Loc X.env.scope x)(r:RelV v u)
  (h:∀s',Inv X Io (σ.set i (some v)) H s'->(∃a,Heap.SameBut a s.heap s'.heap/\(a=X.env.locals\/X.env.cells.lookup x=some a))->Q () s') (hf:autoParam (X.fn x=true\/X.env.scope.names.lookup x=some .local) ZW):wpAny M A (storeName X.env x u) Q E s:=by
 obtain⟨m,hn,hl⟩:=id I.loc;have hcls:(X.env.scope.kind== .class||(X.env.scope.kind== .module&&X.env.locals !=X.env.globals))=false:=by rw [I.ok.kind];rfl
 have hiσ:i<σ.length:=by rw [I.len];exact(Bo.mp hi).1
 have cne:=I.cne;have tracked:∀{a:HZ} {h':Ij},(∃o,s.heap.get? a=some o/\H a=none)->Heap.SameBut a s.heap h'->HOk X.prog X.w H h':=λ {a h'} ha hs b ob e=>by
  obtain⟨_,_,hfree⟩:=ha;refine(I.hok b ob e).stay (λ c w' hc q=>(hs.2 c ?_).trans q) (λ _ q=>q) λ _ _ q=>q
  rintro rfl;rcases hc with rfl|hc
  ·rw [hfree] at e;cases e
  ·rw [hfree] at hc;cases hc
 rcases hx with hk|hk
 ·refine wpAny_storeName_local hk hn (λ h' hn' hs=>?_) hcls;obtain⟨oL,_,_,hoL,_⟩:=id hn;refine h _ ⟨I.ok,I.os,I.bare,⟨λ b o e n hb hx=>?_,λ b o e n hb hx=>?_,I.base.free,λ b o e hx=>?_,I.base.tups,I.base.frzs,I.base.tbls⟩,⟨_,hn',λ j y v' e1 e2 e3=>?_⟩,λ y c e=>?_,I.free,I.freeC,λ p hp=>?_,tracked ⟨oL,hoL,I.free⟩ hs,by simpa using I.len⟩ ⟨_,hs,.inl rfl⟩
  ·exact(hs.2 b (Ci (Bf (BD e) I.ok.above))).trans (I.base.keep b o e n hb hx)
  ·obtain⟨sl,e1⟩:=I.base.slot b o e n hb hx;exact⟨sl,(hs.2 b (Ci (Bf (BD e) I.ok.above))).trans e1⟩
  ·obtain⟨o',e1⟩:=I.base.there b o e hx;exact⟨o',(hs.2 b (Ci (Bf (BD e) I.ok.above))).trans e1⟩
  ·by_cases hj:j=i
   ·subst hj;rw [hi] at e1;cases e1;rw [Dy hiσ] at e2;cases e2;exact⟨u,r,.inl ⟨hk,Z6⟩⟩
   ·rw [Eg (Fb hj)] at e2;obtain⟨u',r',q⟩:=hl j y v' e1 e2 e3;refine⟨u',r',?_⟩;rcases q with⟨k,e⟩|⟨k,c,e,z⟩
    ·refine .inl ⟨k,?_⟩;have:y≠x:=λ e=>hj (nodup_ix hN e1 (e▸hi))
     simp [this,e]
    ·exact .inr ⟨k,c,e,z.sameBut hs (cne y c e)⟩
  ·obtain⟨w',z⟩:=I.cell y c e;exact⟨w',z.sameBut hs (cne y c e)⟩
  ·obtain⟨e,n,ne,nf,d⟩:=I.pin p hp;exact⟨(hs.2 p.1 ne).trans e,n,ne,nf,d⟩
 ·have hfn:X.fn x=true:=by
   rcases hf with z|z
   ·exact z
   ·rw [z] at hk;cases hk
  obtain⟨c,hc⟩:=I.ok.has x (.inl hk);obtain⟨w',z⟩:=I.cell x c hc;refine wpAny_storeName_cell I.ok.kind hk hc z (λ h' hc' hs=>?_);obtain⟨oc,hoc,hocd⟩:=id z;refine h {s with heap:=h'} ⟨I.ok,I.os,I.bare,⟨λ b o e n hb hx=>?_,λ b o e n hb hx=>?_,I.base.free,λ b o e hx=>?_,I.base.tups,I.base.frzs,I.base.tbls⟩,⟨m,hn.sameBut hs (Fb (cne x c hc)),λ j y v' e1 e2 e3=>?_⟩,λ y c' e=>?_,I.free,I.freeC,λ p hp=>?_,tracked ⟨oc,hoc,I.freeC x c hc⟩ hs,by simpa using I.len⟩ ⟨c,hs,.inr hc⟩
  ·exact(hs.2 b (Ci (Bf (BD e) (I.ok.cab x c hfn hc)))).trans (I.base.keep b o e n hb hx)
  ·obtain⟨sl,e1⟩:=I.base.slot b o e n hb hx;exact⟨sl,(hs.2 b (Ci (Bf (BD e) (I.ok.cab x c hfn hc)))).trans e1⟩
  ·obtain⟨o',e1⟩:=I.base.there b o e hx;exact⟨o',(hs.2 b (Ci (Bf (BD e) (I.ok.cab x c hfn hc)))).trans e1⟩
  ·by_cases hj:j=i
   ·subst hj;rw [hi] at e1;cases e1;rw [Dy hiσ] at e2;cases e2;exact⟨u,r,.inr ⟨.inl hk,c,hc,hc'⟩⟩
   ·rw [Eg (Fb hj)] at e2;obtain⟨u',r',q⟩:=hl j y v' e1 e2 e3;refine⟨u',r',?_⟩;rcases q with q|⟨k,c',e,z'⟩
    ·exact .inl q
    ·refine .inr ⟨k,c',e,z'.sameBut hs ?_⟩;rintro rfl;exact hj (nodup_ix hN e1 (I.ok.inj _ _ _ e hc▸hi))
  ·by_cases hcc:c'=c
   ·subst hcc;exact⟨_,hc'⟩
   ·obtain⟨w2,z2⟩:=I.cell y c' e;exact⟨w2,z2.sameBut hs hcc⟩
  ·obtain⟨e,n,ne,nf,d⟩:=I.pin p hp;refine⟨(hs.2 p.1 ?_).trans e,n,ne,nf,d⟩;intro q;rw [q,hoc] at e;have q':oc=p.2:=BU e;exact d w' (by rw [<-q'];exact hocd)
theorem store_ok {M:Model}{i:Nat}(I:Inv X Io σ H s)(hN:X.N.Nodup)(hi:X.N[i]?=some x)(hx:Loc X.env.scope x)(r:RelV v u)
  (h:∀s',Inv X Io (σ.set i (some v)) H s'->Q () s') (hf:autoParam (X.fn x=true\/X.env.scope.names.lookup x=some .local) ZW):wpAny M A (storeName X.env x u) Q E s:=
 jt I hN hi hx r (λ s' I' _=>h s' I') hf
theorem Inv.call' {ch:List HZ}(I:Inv X Io σ H s)(ho:s'.os=s.os)(u:Un (frs X.stack) ch H H' s.heap s'.heap)(hok:HOk X.prog X.w H' s'.heap)(hg:AllBare s'.gens)
  (hch:∀b∈ch,(b∈X.ex\/X.s₀.heap.objs.size≤b)/\b≠X.env.locals/\(∀x c,X.env.cells.lookup x=some c->c≠b)/\∀p∈X.pn++Io,p.1≠b):Inv X Io σ H' s':=by
 obtain⟨h',g',d',t',o'⟩:=s';have e:o'=s.os:=ho;subst e;exact I.call (g':=g') (t':=t') (d':=d') u hok hg hch
end
abbrev XK:=Ib->Option HZ->Hp->Prop
abbrev St:=List (Option V)
abbrev VK:=V->Hp->Prop
abbrev TE:=St->Hp->VK->Prop
abbrev TT:=St->Hp->(Bool->Hp->Prop)->Prop
abbrev TA:=St->Hp->(List V->Hp->Prop)->Prop
structure Ends where
 nx:St->Hp->Prop
 rt:VK
 bk:St->Hp->Prop:=λ _ _=>False
 ct:St->Hp->Prop:=λ _ _=>False
abbrev TS:=Ends->St->Hp->Prop
def EP (X:Cx)(Io:List (HZ×Il))(σ:St)(Q:VK)(u:Ib)(s':Ic):Prop:=∃v H',Inv X Io σ H' s'/\RelV v u/\Q v H'
def TP (X:Cx)(Io:List (HZ×Il))(σ:St)(Q:Bool->Hp->Prop)(b:Bool)(s':Ic):Prop:=∃H',Inv X Io σ H' s'/\Q b H'
def AP (X:Cx)(Io:List (HZ×Il))(σ:St)(Q:List V->Hp->Prop)(us:List Ib)(s':Ic):Prop:=∃vs H',Inv X Io σ H' s'/\Vals vs us/\Q vs H'
def SP (X:Cx)(Io:List (HZ×Il))(D:Ends)(f:Flow)(s':Ic):Prop:=
 match f with
 | .next=>∃σ' H',Inv X Io σ' H' s'/\D.nx σ' H'
 | .brk=>∃σ' H',Inv X Io σ' H' s'/\D.bk σ' H'
 | .cont=>∃σ' H',Inv X Io σ' H' s'/\D.ct σ' H'
 | .ret u=>∃v σ' H',Inv X Io σ' H' s'/\RelV v u/\D.rt v H'
def PE (X:Cx)(e:Ik)(t:TE):Prop:=
 ∀(Io:List (HZ×Il)) (s:Ic) (σ:St) (H:Hp) (Q:VK),Inv X Io σ H s->t σ H Q->wpAny (model X.prog X.w) X.A (eval e X.env) (EP X Io σ Q) X.xe s
def PT (X:Cx)(e:Ik)(t:TT):Prop:=
 ∀(Io:List (HZ×Il)) (s:Ic) (σ:St) (H:Hp) (Q:Bool->Hp->Prop),Inv X Io σ H s->t σ H Q->wpAny (model X.prog X.w) X.A (isTrue e X.env (eval e X.env)) (TP X Io σ Q) X.xe s
def PW (X:Cx)(e:Ik)(t:TT):Prop:=
 ∀(whole:Sem Ib) (Io:List (HZ×Il)) (s:Ic) (σ:St) (H:Hp) (Q:Bool->Hp->Prop),Inv X Io σ H s->t σ H Q->wpAny (model X.prog X.w) X.A (isTrue e X.env whole) (TP X Io σ Q) X.xe s
theorem PW.pt {t:TT}(h:PW X e t):PT X e t:=h _
def PA (X:Cx)(es:List Ik)(t:TA):Prop:=
 ∀(pos:Pos) (Io:List (HZ×Il)) (s:Ic) (σ:St) (H:Hp) (Q:List V->Hp->Prop),Inv X Io σ H s->t σ H Q->wpAny (model X.prog X.w) X.A (spliced (backTo pos (starEach es X.env))) (AP X Io σ Q) X.xe s
def PS (X:Cx)(st:Im)(t:TS):Prop:=
 ∀(Io:List (HZ×Il)) (s:Ic) (σ:St) (H:Hp) (D:Ends),Inv X Io σ H s->t D σ H->wpAny (model X.prog X.w) X.A (exec st X.env) (SP X Io D) X.xe s
def PSs (X:Cx)(st:List Im)(t:TS):Prop:=
 ∀(Io:List (HZ×Il)) (s:Ic) (σ:St) (H:Hp) (D:Ends),Inv X Io σ H s->t D σ H->wpAny (model X.prog X.w) X.A (execs st X.env) (SP X Io D) X.xe s
theorem thn {α:Type}{t:Sem α}{Q Q':α->Ic->Prop}{M:Model}(h:wpAny M A t Q E s)(hQ:∀a s,Q a s->Q' a s):wpAny M A t Q' E s:=Dj h hQ λ _ _ x=>x
section
variable {X:Cx}
def dW (i:Nat):TE:=λ σ H Q=>∃v,σ[i]?=some (some v)/\Q v H
def tC (v:V):TE:=λ _ H Q=>Q v H
theorem sW {i:Nat}{pos:Pos}(hN:X.N[i]?=some x)(hv:Vis X.env.scope x)(hd:autoParam ((x==("__debug__":Str))=false) ZZ)(hcd:autoParam ((x==("__classdict__":Str))=false) ZZ):PE X (.Name x pos) (dW i):=by
 intro Io s σ H Q I h;obtain⟨v,e,h⟩:=h;obtain⟨m,hn,hl⟩:=I.loc;obtain⟨u,r,l⟩:=hl i x v hN e hv;have fin:EP X Io σ Q u s:=⟨v,H,I,r,h⟩;rcases l with⟨hk,hm⟩|⟨hk,c,hc,hcell⟩
 ·exact wpAny_Name (wpAny_loadName_local I.ok.kind hk hn hm fin) hd
 ·rcases hk with hk|hk
  ·exact wpAny_Name (wpAny_loadName_cell I.ok.kind hk hc hcell fin) hd
  ·exact wpAny_Name (wpAny_loadName_free I.ok.kind hk hc hcell fin hcd) hd
theorem af {i j pos}:PE X (.Constant (.int i) j pos) (tC (.int i)):=λ _ _ _ H _ I h=>wpAny_Constant_int ⟨.int i,H,I.tok _,⟨_,rfl⟩,h⟩
theorem bU {b j pos}:PE X (.Constant (.bool b) j pos) (tC (.bl b)):=λ _ _ _ H _ I h=>Constant_bool ⟨.bl b,H,I,rfl,h⟩
theorem eK {j pos}:PE X (.Constant .none j pos) (tC .non):=λ _ _ _ H _ I h=>Constant_none ⟨.non,H,I,rfl,h⟩
theorem cf {x j pos}:PE X (.Constant (.str x) j pos) (tC (.str x)):=λ _ _ _ H _ I h=>Calls.Constant_str ⟨.str x,H,I.tok _,⟨_,rfl⟩,h⟩
def Gl (X:Cx)(x:Str):Prop:=X.env.kindOf x=some .globalImplicit
theorem ld_glob {pos:Pos}{Q:Ib->Ic->Prop}(I:Inv X Io σ H s)(hg:Gl X x)(hm:X.mg x=some u)(h:Q u s)
  (hd:autoParam ((x==("__debug__":Str))=false) ZZ):wpAny (model X.prog X.w) X.A (eval (.Name x pos) X.env) Q E s:=
 Calls.Name_function_global I.ok.kind hg (Calls.loadGlobal_global (by rw [I.ok.glob];exact I.mod.glob.keeps I.bk) hm h) hd
theorem ld_blt {pos:Pos}{Q:Ib->Ic->Prop}(I:Inv X Io σ H s)(hg:Gl X x)(hm:X.mg x=none)(hv:bootBuiltins x=some u)(h:Q u s)
  (hn:autoParam (x≠ "__name__") ZZ) (hd:autoParam ((x==("__debug__":Str))=false) ZZ):wpAny (model X.prog X.w) X.A (eval (.Name x pos) X.env) Q E s:=by
 obtain⟨mb,h1,h2⟩:=I.mod.blt;exact Calls.Name_function_global I.ok.kind hg (Calls.loadGlobal_builtin (by rw [I.ok.glob];exact I.mod.glob.keeps I.bk) hm (by rw [I.ok.blt];exact h1.keeps I.bk) ((h2 x hn).trans hv) h) hd
theorem aH {pos:Pos}(hg:Gl X x)(hm:X.mg x=some u)(r:RelV v u)(hd:autoParam ((x==("__debug__":Str))=false) ZZ):PE X (.Name x pos) (tC v):=
 λ _ _ _ H _ I h=>ld_glob I hg hm ⟨v,H,I,r,h⟩ hd
theorem cJ {pos:Pos}(hg:Gl X x)(hm:X.mg x=none)(hv:bootBuiltins x=some u)(r:RelV v u)(hn:autoParam (x≠ "__name__") ZZ)(hd:autoParam ((x==("__debug__":Str))=false) ZZ):PE X (.Name x pos) (tC v):=
 λ _ _ _ H _ I h=>ld_blt I hg hm hv ⟨v,H,I,r,h⟩ hn hd
variable {a b:Ik}{ta tb:TE}{pos:Pos}
theorem uN (b:Ik){op:CmpOp}(h:op≠ .In)(h2:op≠ .NotIn):behindInMarks op b=false:=by
 have e1:(op==CmpOp.In)=false:=by cases op<;>first|rfl|exact absurd rfl h
 have e2:(op==CmpOp.NotIn)=false:=by cases op<;>first|rfl|exact absurd rfl h2
 cases b
 case Set l k _=>show(k==0&&(op== .In||op== .NotIn)&&l.all (constantsAlone 8))=false;rw [e1,e2,Bool.or_self,Bool.and_false,Hs]
 all_goals rfl
def tB (t:TE):TT:=λ σ H Q=>t σ H λ x H1=>∃c,x=.bl c/\Q c H1
theorem bq (h:PE X e t)(he:autoParam (∀whole,isTrue e X.env whole=(do let v<-whole;standAt e.pos;holding [v] (truthy v))) ZX):PT X e (tB t):=by
  intro Io s σ H Q I hw
  refine isTrue_plain (thn (h Io s σ H _ I hw) λ v s1 z9=>?_) (he _)
  obtain⟨x,H1,I1,r1,q1⟩:=z9
  obtain⟨d,rfl,q⟩:=q1
  cases r1
  exact EO ⟨H1,I1,q⟩
variable {tA tB':TT}{rest:List Ik}
def Aw (t u:TT):TT:=λ σ H Q=>t σ H λ c H1=>if c=true then u σ H1 Q else Q false H1
def tOr (t u:TT):TT:=λ σ H Q=>t σ H λ c H1=>if c=true then Q true H1 else u σ H1 Q
def A1 (t:TT):TT:=λ σ H Q=>t σ H λ c H1=>Q (!c) H1
theorem j6 (ha:PT X a tA):PW X (.BoolOp .And [a] pos) tA:=by
 intro wh Io s σ H Q I h;refine isTrue_and (thn (ha Io s σ H Q I h) λ c s1 e=>?_);cases c with
 |true=>exact isTrue_and_nil e
 |false=>exact e
theorem dP (ha:PT X a tA):PW X (.BoolOp .Or [a] pos) tA:=by
 intro wh Io s σ H Q I h;refine isTrue_or (thn (ha Io s σ H Q I h) λ c s1 e=>?_);cases c with
 |false=>exact isTrue_or_nil e
 |true=>exact e
theorem nJ (ha:PT X a tA)(hb:PW X (.BoolOp .And (b::rest) pos) tB'):PW X (.BoolOp .And (a::b::rest) pos) (Aw tA tB'):=by
 intro wh Io s σ H Q I h;refine isTrue_and (thn (ha Io s σ H _ I h) λ c s1 z9=>?_);obtain⟨H1,I1,q1⟩:=z9;cases c with
 |true=>exact hb wh Io s1 σ H1 Q I1 q1
 |false=>exact⟨H1,I1,q1⟩
theorem fE (ha:PT X a tA)(hb:PW X (.BoolOp .Or (b::rest) pos) tB'):PW X (.BoolOp .Or (a::b::rest) pos) (tOr tA tB'):=by
 intro wh Io s σ H Q I h;refine isTrue_or (thn (ha Io s σ H _ I h) λ c s1 z9=>?_);obtain⟨H1,I1,q1⟩:=z9;cases c with
 |true=>exact⟨H1,I1,q1⟩
 |false=>exact hb wh Io s1 σ H1 Q I1 q1
theorem bM (ha:PT X a tA):PT X (.UnaryOp .Not a pos) (A1 tA):=by
 intro Io s σ H Q I h;exact isTrue_not (ha Io s σ H (λ c H1=>Q (!c) H1) I h)
def zq (ta tb:TE):TE:=λ σ H Q=>ta σ H λ x H1=>∃c,x=.bl c/\if c=true then tb σ H1 Q else Q (.bl false) H1
def zQ (ta:TE):TE:=λ σ H Q=>ta σ H λ x H1=>∃c,x=.bl c/\Q (.bl (!c)) H1
theorem io {op}(h:PE X a t):PE X (.BoolOp op [a] pos) t:=λ Io s σ H Q I hw=>BoolOp_one (h Io s σ H Q I hw)
theorem gP (ha:PE X a ta)(hb:PE X (.BoolOp .And (b::rest) pos) tb):PE X (.BoolOp .And (a::b::rest) pos) (zq ta tb):=by
 intro Io s σ H Q I h;refine BoolOp_and (thn (ha Io s σ H _ I h) λ v s1 z9=>?_);obtain⟨x,H1,I1,r1,q1⟩:=z9;obtain⟨c,rfl,q1⟩:=q1;cases r1;refine EO ?_;cases c with
 |true=>exact hb Io s1 σ H1 Q I1 q1
 |false=>exact⟨.bl false,H1,I1,rfl,q1⟩
theorem ux (ha:PE X a ta):PE X (.UnaryOp .Not a pos) (zQ ta):=by
 intro Io s σ H Q I h;refine UnaryOp_ (thn (ha Io s σ H _ I h) λ v s1 z9=>?_);obtain⟨x,H1,I1,r1,q1⟩:=z9;obtain⟨c,rfl,q1⟩:=q1;cases r1;exact not_of (EO ⟨.bl (!c),H1,I1,rfl,q1⟩)
def tIf (t:TT)(ta tb:TE):TE:=λ σ H Q=>t σ H λ c H1=>if c=true then ta σ H1 Q else tb σ H1 Q
theorem tD (hc:PT X c tA)(ha:PE X a ta)(hb:PE X b tb):PE X (.IfExp c a b pos) (tIf tA ta tb):=by
 intro Io s σ H Q I h;refine wpAny_IfExp (thn (hc Io s σ H _ I h) λ d s1 z9=>?_);obtain⟨H1,I1,q1⟩:=z9;cases d with
 |true=>exact ha Io s1 σ H1 Q I1 q1
 |false=>exact hb Io s1 σ H1 Q I1 q1
end
def SqL (K:Frag)(H:Hp)(a:HZ)(xs:List V):Prop:=
 Rd H a (.lst xs)\/
  ∃(o:Il) (its:Array Ib) (n:Nat),K.lookup a=some o/\o.cls=.type "list"/\o.dict=none/\o.data=.seq its n/\its.size≤sizeLine/\Vals xs its.toList
def SqT (K:Frag)(H:Hp)(a:HZ)(xs:List V):Prop:=
 Rd H a (.tup xs)\/
  ∃(o:Il) (its:Array Ib) (n:Nat),K.lookup a=some o/\o.cls=.type "tuple"/\o.data=.seq its n/\its.size≤sizeLine/\Vals xs its.toList
noncomputable def A7:Ib->Option V
 | .none=>some .non
 | .bool b=>some (.bl b)
 | .int i _=>some (.int i)
 | .str x _=>some (.str x)
 | .bytes b _=>some (.byt b)
 | .float b _=>some (.flt b)
 | .ref a=>some (.ref a)
 | .type n=>some (.ty n)
 |_=>none
theorem RelV.abs {x:V}(r:RelV x u):A7 u=some x:=by
 cases x with
 |non=>cases r;rfl
 |bl _=>cases r;rfl
 |int _=>obtain⟨t,rfl⟩:=r;rfl
 |str _=>obtain⟨t,rfl⟩:=r;rfl
 |byt _=>obtain⟨t,rfl⟩:=r;rfl
 |flt _=>obtain⟨t,rfl⟩:=r;rfl
 |ref _=>cases r;rfl
 |ty _=>cases r;rfl
theorem RelV.inj {x:V}(r:RelV x u)(q:RelV y u):x=y:=BU (r.abs.symm.trans q.abs)
theorem Vals.inj (h:Vals xs us)(g:Vals ys us):xs=ys:=by
 induction h generalizing ys with
 |nil=>cases g;rfl
 |cons r _ ih=>cases g with
  |cons r' t'=>rw [r.inj r',ih t']
section
variable {X:Cx}{Io:List (HZ × Il)}{σ:St}{H:Hp}{s:Ic}{a:HZ}{xs ys:List V}
theorem SqL.of (h:H a=some (.lst xs)):SqL K H a xs:=.inl (.inl h)
theorem SqT.of (h:H a=some (.tup xs)):SqT K H a xs:=.inl (.inl h)
theorem Inv.list (I:Inv X Io σ H s)(h:SqL X.K H a xs):∃its:List Ib,Vals xs its/\PlainL s.heap a its.toArray/\xs.length≤sizeLine:=by
 rcases h with h|⟨o,its,n,hk,hc,hd,hs,hz,r⟩
 ·obtain⟨z,its,n,r,e⟩:=h.ok I.hok;exact⟨its,r,⟨_,n,e,rfl,rfl,rfl⟩,z⟩
 ·refine⟨its.toList,r,⟨o,n,I.kIn a o hk,hc,hd,by simpa using hs⟩,?_⟩;have e:=r.length;simp only [CY] at e;exact De e hz
theorem Inv.tuple (I:Inv X Io σ H s)(h:SqT X.K H a xs):∃its:List Ib,Vals xs its/\IsTup s.heap a its.toArray/\xs.length≤sizeLine:=by
 rcases h with h|⟨o,its,n,hk,hc,hs,hz,r⟩
 ·obtain⟨z,its,r,p⟩:=h.ok I.hok;exact⟨its,r,p,z⟩
 ·refine⟨its.toList,r,⟨o,I.kIn a o hk,hc,n,by simpa using hs⟩,?_⟩;have e:=r.length;simp only [CY] at e;exact De e hz
theorem Inv.list_inj (I:Inv X Io σ H s)(h:SqL X.K H a xs)(h':SqL X.K H a ys):xs=ys:=by
 obtain⟨its,r,⟨o,n,e,_,_,d⟩,_⟩:=I.list h;obtain⟨its',r',⟨o',n',e',_,_,d'⟩,_⟩:=I.list h';rw [e] at e';cases e';rw [d] at d';injection d' with d1 _
 have:its=its':=by simpa using congrArg Array.toList d1
 subst this;exact r.inj r'
theorem Inv.tuple_inj (I:Inv X Io σ H s)(h:SqT X.K H a xs)(h':SqT X.K H a ys):xs=ys:=by
 obtain⟨its,r,⟨o,e,_,n,d⟩,_⟩:=I.tuple h;obtain⟨its',r',⟨o',e',_,n',d'⟩,_⟩:=I.tuple h';rw [e] at e';cases e';rw [d] at d';injection d' with d1 _
 have:its=its':=by simpa using congrArg Array.toList d1
 subst this;exact r.inj r'
end
noncomputable abbrev Cx.wish (X:Cx) (E:Ib->Ic->Prop):Cx:={X with xe:=E}
noncomputable abbrev Cx.nox (X:Cx):Cx:=X.wish λ _ _=>False
theorem Cx.Ok.wish (ok:X.Ok)(E:Ib->Ic->Prop):(X.wish E).Ok:=
 ⟨ok.mod,ok.kind,ok.glob,ok.blt,ok.above,ok.inj,ok.has,ok.cab,ok.hd,ok.frames,ok.stk,ok.exf,ok.bs,ok.bsz,ok.noex,ok.exfs,ok.funs,ok.frf⟩
theorem Cx.Ok.unwish (ok:(X.wish E).Ok):X.Ok:=
 ⟨ok.mod,ok.kind,ok.glob,ok.blt,ok.above,ok.inj,ok.has,ok.cab,ok.hd,ok.frames,ok.stk,ok.exf,ok.bs,ok.bsz,ok.noex,ok.exfs,ok.funs,ok.frf⟩
section
variable {X:Cx}{Io:List (HZ × Il)}{σ:St}{H:Hp}{s:Ic}{E:Ib -> Ic -> Prop}
theorem Inv.wish (I:Inv X Io σ H s)(E:Ib->Ic->Prop):Inv (X.wish E) Io σ H s:=⟨I.ok.wish E,I.os,I.bare,I.base,I.loc,I.cell,I.free,I.freeC,I.pin,I.hok,I.len⟩
theorem Inv.unwish (I:Inv (X.wish E) Io σ H s):Inv X Io σ H s:=⟨I.ok.unwish,I.os,I.bare,I.base,I.loc,I.cell,I.free,I.freeC,I.pin,I.hok,I.len⟩
theorem SP.unwish {D:Ends}{f:Flow}(h:SP (X.wish E) Io D f s'):SP X Io D f s':=by
 cases f with
 |next=>obtain⟨σ',H',I,q⟩:=h;exact⟨σ',H',I.unwish,q⟩
 |brk=>obtain⟨σ',H',I,q⟩:=h;exact⟨σ',H',I.unwish,q⟩
 |cont=>obtain⟨σ',H',I,q⟩:=h;exact⟨σ',H',I.unwish,q⟩
 |ret u=>obtain⟨v,σ',H',I,r,q⟩:=h;exact⟨v,σ',H',I.unwish,r,q⟩
theorem PSs.nox {st:List Im}{t:TS}(h:PSs X.nox st t):PSs X st t:=λ Io s σ H D I hw=>
 Dj (h Io s σ H D (I.wish _) hw) (λ _ _ q=>q.unwish) λ _ _ z=>False.elim z
end
section
variable {X:Cx}{st:Im}{rest:List Im}{t u:TS}{e:Ik}{te:TE}{pos:Pos}
def zG:TS:=λ D σ H=>D.nx σ H
def zt (t u:TS):TS:=λ D σ H=>t {D with nx:=u D} σ H
theorem aD:PSs X [] zG:=λ _ _ σ H _ I h=>F8 ⟨σ,H,I,h⟩
theorem ad (h1:PS X st t)(h2:PSs X rest u):PSs X (st::rest) (zt t u):=by
 intro Io s σ H D I h;refine wpAny_execs_cons (thn (h1 Io s σ H {D with nx:=u D} I h) λ f s1 q=>?_);cases f with
 |next=>
  obtain⟨σ',H',I',q⟩:=q;exact h2 Io s1 σ' H' D I' q
 |ret v=>exact q
 |brk=>exact q
 |cont=>exact q
theorem ag (h1:PS X st t):PSs X [st] t:=by
 intro Io s σ H D I h;refine wpAny_execs_cons (thn (h1 Io s σ H D I h) λ f s1 q=>?_);cases f with
 |next=>exact F8 q
 |ret v=>exact q
 |brk=>exact q
 |cont=>exact q
def y9:TS:=λ D σ H=>D.bk σ H
theorem sM:PS X (.Break pos) y9:=λ _ _ σ H _ I h=>wpAny_Break ⟨σ,H,I,h⟩
theorem Inv.quiet (I:Inv X Io σ H s):interactive X.env=false:=by simp [interactive,I.ok.kind]
def zV (te:TE):TS:=λ D σ H=>te σ H λ _ H1=>D.nx σ H1
theorem aF (he:PE X e te)(hs:autoParam (swapsWith e none pos.line X.env=pure false) Z0):PS X (.Expr e pos) (zV te):=by
 intro Io s σ H D I h;exact wpAny_Expr_any (thn (he Io s σ H _ I h) λ v s1 z9=>by obtain⟨x,H1,I1,r1,q1⟩:=z9;exact⟨σ,H1,I1,q1⟩) I.quiet hs
def AM (te:TE):TS:=λ D σ H=>te σ H D.rt
theorem ax (he:PE X e te):PS X (.Return (some e) pos) (AM te):=by
 intro Io s σ H D I h;exact wpAny_Return_some (thn (he Io s σ H _ I h) λ v s1 z9=>by obtain⟨x,H1,I1,r1,q1⟩:=z9;exact⟨x,σ,H1,I1,r1,q1⟩)
def A4 (c:TT)(t u:TS):TS:=λ D σ H=>c σ H λ b H1=>if b=true then t D σ H1 else u D σ H1
theorem aL {a b:List Im}(hc:PT X c tc)(ha:PSs X a t)(hb:PSs X b u):PS X (.If c a b pos) (A4 tc t u):=by
 intro Io s σ H D I h;refine wpAny_If (thn (hc Io s σ H _ I h) λ d s1 z9=>?_);obtain⟨H1,I1,q1⟩:=z9;cases d with
 |true=>exact ha Io s1 σ H1 D I1 q1
 |false=>exact hb Io s1 σ H1 D I1 q1
def xH:TS:=λ _ _ _=>False
theorem bD:PS X st xH:=λ _ _ _ _ _ _ h=>h.elim
end
abbrev TG:=V->St->Hp->(St->Hp->Prop)->Prop
abbrev TGs:=List V->St->Hp->(St->Hp->Prop)->Prop
def PG (X:Cx)(Iu:Ik)(t:TG):Prop:=
 ∀(Io:List (HZ×Il)) (s:Ic) (σ:St) (H:Hp) (v:V) (u:Ib) (Q:St->Hp->Prop),Inv X Io σ H s->RelV v u->t v σ H Q->
  wpAny (model X.prog X.w) X.A (assign Iu X.env u) (λ _ s'=>∃σ' H',Inv X Io σ' H' s'/\Q σ' H') X.xe s
def PGs (X:Cx)(ts:List Ik)(t:TGs):Prop:=
 ∀(Io:List (HZ×Il)) (s:Ic) (σ:St) (H:Hp) (vs:List V) (us:List Ib) (Q:St->Hp->Prop),Inv X Io σ H s->Vals vs us->t vs σ H Q->
  wpAny (model X.prog X.w) X.A (assignInOrder ((assignEach ts X.env).map (·.2)) us) (λ _ s'=>∃σ' H',Inv X Io σ' H' s'/\Q σ' H') X.xe s
abbrev yA:=V->V->V->Hp->(Hp->Prop)->Prop
def Ae (X:Cx)(t:yA):Prop:=
 ∀(Io:List (HZ×Il)) (s:Ic) (σ:St) (H:Hp) (o i v:V) (ov iv u:Ib) (Q:Hp->Prop),Inv X Io σ H s->RelV o ov->RelV i iv->RelV v u->t o i v H Q->
  wpAny (model X.prog X.w) X.A (setItem ov iv u) (λ _ s'=>∃H',Inv X Io σ H' s'/\Q H') X.xe s
section
variable {X:Cx}{pos:Pos}
def bz (i:Nat):TG:=λ v σ H Q=>Q (σ.set i (some v)) H
theorem aJ {i:Nat}(hN:X.N.Nodup)(hi:autoParam (X.N[i]?=some x) Z0)(hx:autoParam (Loc X.env.scope x) ZW)(hf:autoParam (X.fn x=true\/X.env.scope.names.lookup x=some .local) ZW):PG X (.Name x pos) (bz i):=by
 intro Io s σ H v u Q I r h;exact wpAny_assign_Name (store_ok I hN hi hx r (λ s' I'=>⟨_,H,I',h⟩) hf)
def qB:TGs:=λ vs σ H Q=>vs=[]/\Q σ H
def dR (t:TG)(u:TGs):TGs:=λ vs σ H Q=>∃v r,vs=v::r/\t v σ H λ σ' H'=>u r σ' H' Q
theorem gJ:PGs X [] qB:=by
 intro Io s σ H vs us Q I r h;obtain⟨e,h⟩:=h;subst e;cases r;exact assignInOrder_nil ⟨σ,H,I,h⟩
theorem cE {t:TG}{u:TGs}(h1:PG X e t)(h2:PGs X es u)
  (hs:autoParam ((assignEach (e::es) X.env).map (·.2)=assign e X.env::(assignEach es X.env).map (·.2)) Z0):PGs X (e::es) (dR t u):=by
 intro Io s σ H vs us Q I r h;obtain⟨v,vr,e1,h⟩:=h;subst e1;cases r with
 |cons r rr=>
  rw [hs];refine assignInOrder_cons (thn (h1 Io s σ H _ _ _ I r h) λ _ s1 z9=>?_);obtain⟨σ1,H1,I1,q1⟩:=z9;exact h2 Io s1 σ1 H1 _ _ Q I1 rr q1
def qZ (K:Frag)(n:Nat)(t:TGs):TG:=λ v σ H Q=>∃a xs,v=.ref a/\SqT K H a xs/\xs.length=n/\t xs σ H Q
theorem ke {t:TGs}(hc:X.calm=true)(h:PGs X es t)
  (hn:autoParam ((assignEach es X.env).length=n) Z0) (hst:autoParam ((assignEach es X.env).findIdx? (·.1)=none) Z0):PG X (.Tuple es k pos) (qZ X.K n t):=by
 intro Io s σ H v u Q I r hw;obtain⟨a,xs,e1,hq,hl,hw⟩:=hw;subst e1;cases r;obtain⟨its,rv,ht,hz⟩:=I.tuple hq;refine QQ.assign_Tuple_q I.hq ht (by simp [hn,<-hl,rv.length]) hst λ h' hx=>?_
 have I1:Inv X Io σ H {s with heap:=h'}:=I.kept (t':=s.toks) λ b o e=>hx b o (Ci (BD e)) e
 exact h Io _ σ H xs _ Q I1 (by simpa using rv) hw
def AX (to ti:TE)(t:yA):TG:=λ v σ H Q=>to σ H λ o H1=>ti σ H1 λ i H2=>t o i v H2 λ H3=>Q σ H3
theorem mF {o i:Ik}{to ti:TE}{t:yA}(ho:PE X o to)(hi:PE X i ti)(hs:Ae X t)
    (ha:autoParam (∀v,assign (.Subscript o i pos) X.env v=(do
      let ov<-holding [v] (eval o X.env)
      let iv<-holding [v,ov] (eval i X.env)
      standAt pos
      holding [v,ov,iv] (setItem ov iv v)
      release [v,ov,iv] [])) ZX):PG X (.Subscript o i pos) (AX to ti t):=by
  intro Io s σ H v u Q I r h
  rw [ha]
  refine Bc (Dh (thn (ho Io s σ H _ I h) λ ov s1 z9=>?_))
  obtain⟨x,H1,I1,r1,q1⟩:=z9
  refine Bc (Dh (thn (hi Io s1 σ H1 _ I1 q1) λ iv s2 z9=>?_))
  obtain⟨y,H2,I2,r2,q2⟩:=z9
  refine Bc (wpAny_standAt (Bc (Dh (thn (hs Io s2 σ H2 x y v ov iv u _ I2 r1 r2 r q2) λ _ s3 z9=>?_))))
  obtain⟨H3,I3,q3⟩:=z9
  exact wpAny_release ⟨σ,H3,I3,q3⟩
def vd (te:TE)(g:TG):TS:=λ D σ H=>te σ H λ x H1=>g x σ H1 D.nx
theorem nN (he:PE X e te)(hg:PG X tg g)(hs:autoParam (swapsWithSole [tg] e pos.line X.env=pure false) Z0)(hw:autoParam (swappedStores [tg] e X.env=pure none) Z0)
  (h1:autoParam ((assignEach [tg] X.env).map (·.2)=[assign tg X.env]) Z0):PS X (.Assign [tg] e pos) (vd te g):=by
 intro Io s σ H D I h;refine wpAny_Assign_stores (thn (he Io s σ H _ I h) λ v s1 z9=>?_) hs hw;obtain⟨x,H1,I1,r1,q1⟩:=z9;rw [h1];exact thn (hg Io s1 σ H1 x v _ I1 r1 q1) λ _ s2 q=>q
theorem ar {i:Nat}{pos':Pos}(hN:X.N.Nodup)(he:PE X e te)(hi:autoParam (X.N[i]?=some x) Z0)(hx:autoParam (Loc X.env.scope x) ZW)(hs:autoParam (swapsWith e (some (.Name x pos')) pos.line X.env=pure false) Z0)(hf:autoParam (X.fn x=true\/X.env.scope.names.lookup x=some .local) ZW):
  PS X (.Assign [.Name x pos'] e pos) (vd te (bz i)):=by
 intro Io s σ H D I h;refine wpAny_Assign_Name (thn (he Io s σ H _ I h) λ v s1 z9=>?_) hs;obtain⟨y,H1,I1,r1,q1⟩:=z9;exact store_ok I1 hN hi hx r1 (λ s2 I2=>⟨_,H1,I2,q1⟩) hf
def x8 (c:TT)(tb:TS):TS:=λ D σ H=>∃W:Nat->St->Hp->Prop,(∃m,W m σ H)/\∀m σ H,W m σ H->
 c σ H λ b H1=>if b=true then∃N:St->Hp->Prop,(∀σ' H',N σ' H'->∃m',m'<m/\W m' σ' H')/\tb {D with nx:=N,ct:=N,bk:=D.nx} σ H1 else D.nx σ H1
theorem cX (hp:PassesOwn (model X.prog X.w) X.A X.env X.xe)(hc:PT X c tc)(hb:PSs X body tb):PS X (.While c body [] pos) (x8 tc tb):=by
 intro Io s σ H D I h;obtain⟨W,⟨m0,w0⟩,turn⟩:=h;refine wpAny_While (codeAny_whileLoop (λ n s'=>∃σ' H',Inv X Io σ' H' s'/\W n σ' H') ?_ m0 ⟨σ,H,I,w0⟩);rintro n s1 ⟨σ1,H1,I1,w1⟩;refine EQ hp (thn (hc Io s1 σ1 H1 _ I1 (turn n σ1 H1 w1)) λ b s2 z9=>?_);obtain⟨H2,I2,q2⟩:=z9;cases b with
 |true=>
  obtain⟨N,hN,q2⟩:=q2;rw [BM rfl];refine EQ hp (thn (hb Io s2 σ1 H2 _ I2 q2) λ f s3 q3=>?_);cases f with
  |next=>
   obtain⟨σ3,H3,I3,n3⟩:=q3;obtain⟨m',hm,w3⟩:=hN σ3 H3 n3;exact⟨m',hm,σ3,H3,I3,w3⟩
  |cont=>
   obtain⟨σ3,H3,I3,n3⟩:=q3;obtain⟨m',hm,w3⟩:=hN σ3 H3 n3;exact⟨m',hm,σ3,H3,I3,w3⟩
  |brk=>exact q3
  |ret v=>exact q3
 |false=>
  rw [Bu BL];exact F8 ⟨σ1,H2,I2,q2⟩
end
structure It where
 go:Nat->Hp->Prop
 yld:Nat->Hp->V->Hp->Prop
 stop:Nat->Hp->Prop
def FpOk (X:Cx)(Io:List (HZ×Il))(H:Hp)(b:HZ):Prop:=
 H b=none/\b≠X.env.locals/\b∉X.fs/\(b∈X.ex\/X.s₀.heap.objs.size≤b)/\(∀x c,X.env.cells.lookup x=some c->c≠b)/\∀p∈X.pn++Io,p.1≠b
theorem Inv.fpOk {H':Hp}(I:Inv X Io σ H s)(hb:s.heap.objs.size≤b)(hn:H' b=none):FpOk X Io H' b:=by
 refine⟨hn,Gx (Bf I.lt hb),I.nofs hb,.inr (Ba I.sz hb),λ x c e z=>?_,λ p hp z=>?_⟩
 ·obtain⟨v,q⟩:=I.cell x c e;exact absurd (Bf q.lt (by rw [z];exact hb)) (D5 _)
 ·exact absurd (Bf (BD (I.pin p hp).1) (by rw [z];exact hb)) (D5 _)
structure Turn (P:Ie)(w:Ig)(K:Frag)(tg:Ik)(J:It)(fp:List HZ)(it:HZ)(tn:Nat->Ij->Prop):Prop where
 mem:it∈fp
 obj:∀i h,tn i h->∀b∈fp,∃o,h.get? b=some o/\∀v,o.data≠ .cell v
 keep:∀i h h',tn i h->(∀b∈fp,∀o,h.get? b=some o->h'.get? b=some o)->tn i h'
 item:∀(X:Cx),X.prog=P->X.w=w->X.K=K->X.calm=true->∀(i:Nat) (Io:List (HZ×Il)) (s:Ic) (σ:St) (H:Hp) (E:Ib->Ic->Prop),Inv X Io σ H s->(∀b∈fp,FpOk X Io H b)->tn i s.heap->J.go i H->
  wpAny (model P w) X.A (pyNext (.ref it)) (λ r s1=>∃u,r=some u/\
   wpAny (model P w) X.A (letOwnedTupleGo tg (.ref it) u) (λ _ s2=>∃x H',Inv X Io σ H' s2/\RelV x u/\J.yld i H x H'/\tn (i+1) s2.heap/\∀b∈fp,H' b=none) E s1) E s
 done:∀(X:Cx),X.prog=P->X.w=w->X.K=K->X.calm=true->∀(i:Nat) (Io:List (HZ×Il)) (s:Ic) (σ:St) (H:Hp) (E:Ib->Ic->Prop),Inv X Io σ H s->(∀b∈fp,FpOk X Io H b)->tn i s.heap->J.stop i H->
  wpAny (model P w) X.A (pyNext (.ref it)) (λ r s1=>r=none/\Inv X Io σ H s1) E s
 self:∀(A:Ii) (i:Nat) (s:Ic) (Q:Ib->Ic->Prop) (E:Ib->Ic->Prop),tn i s.heap->Q (.ref it) s->wpAny (model P w) A (pyIter (.ref it)) Q E s
abbrev TI:=St->Hp->(It->Hp->Prop)->Prop
def PIE (X:Cx)(Io:List (HZ×Il))(σ:St)(tg:Ik)(R:It->Hp->Prop)(itv:Ib)(s2:Ic):Prop:=
 ∃(it:HZ) (fp:List HZ) (tn:Nat->Ij->Prop) (J:It) (H':Hp),itv=.ref it/\Inv X Io σ H' s2/\Turn X.prog X.w X.K tg J fp it tn/\tn 0 s2.heap/\(∀b∈fp,FpOk X Io H' b)/\R J H'
def PI (X:Cx)(tg iter:Ik)(wi:TI):Prop:=
 ∀(Io:List (HZ×Il)) (s:Ic) (σ:St) (H:Hp) (R:It->Hp->Prop),Inv X Io σ H s->wi σ H R->
  wpAny (model X.prog X.w) X.A (eval iter X.env) (λ v s1=>wpAny (model X.prog X.w) X.A (pyIter v) (PIE X Io σ tg R) X.xe s1) X.xe s
theorem oK {M:Model}{o:Il}{n:String}{vs:Array Ib}(ho:s.heap.get? it=some o)(hc:o.cls=.type n)(hd:o.data=.fields vs)
  (hn: ["enumerate","zip","dict_itemiterator","dict_reverseitemiterator","odict_iterator","itertools.zip_longest","itertools.pairwise"].contains n=false) (hQ:Q () s):wpAny M A (letOwnedTupleGo tg (.ref it) u) Q E s:=by
 unfold letOwnedTupleGo;cases tg<;>first
  |exact BH hQ
  |(cases u<;>first
    |exact BH hQ
    |(refine Bc (wpAny_load ho ?_)
      rw [hc,hd];show wpAny M A (if(["enumerate","zip","dict_itemiterator","dict_reverseitemiterator","odict_iterator","itertools.zip_longest","itertools.pairwise"].contains n&&vs[0]?==some (rawInt _))=true then _ else _) Q E s;rw [Bu (by intro h;rw [hn,Hs] at h;cases h)];exact BH hQ))
def Itl (K:Frag)(a:HZ):It:=
 ⟨λ i H=>∃xs x,SqL K H a xs/\xs[i]?=some x,λ i H x H'=>H'=H/\∀xs,SqL K H a xs->xs[i]?=some x,λ i H=>∃xs,SqL K H a xs/\xs.length≤i⟩
def Itt (K:Frag)(a:HZ):It:=
 ⟨λ i H=>∃xs x,SqT K H a xs/\xs[i]?=some x,λ i H x H'=>H'=H/\∀xs,SqT K H a xs->xs[i]?=some x,λ i H=>∃xs,SqT K H a xs/\xs.length≤i⟩
def Itr (lo:Int)(n:Nat):It:=⟨λ i _=>i<n,λ i H x H'=>H'=H/\x=.int (lo+i),λ i _=>n≤i⟩
theorem qP (a it:HZ):Turn P w K tg (Itl K a) [it] it (λ i h=>h.IsListIter it a i) where
 mem:=Z6
 obj:=λ i h st b hb=>by
  have e:b=it:=by simpa using hb
  subst e;obtain⟨o,e,c,d⟩:=st;exact⟨o,e,λ v z=>by rw [d] at z;cases z⟩
 keep:=λ i h h' st k=>st.at λ o e=>k it Z6 o e
 item:=by
  intro X hP hw hK hc i Io s σ H E I hf st hg;subst hP hw hK;obtain⟨xs,x,hq,hx⟩:=hg;obtain⟨its,rv,p,hz⟩:=I.list hq;obtain⟨u,hu,ru⟩:=rv.get hx;obtain⟨f0,f1,f2,f3,f4,f5⟩:=hf it Z6;refine wpAny_pyNext_list_item st p.isList (x:=u) (by simpa using hu) λ h' st' sb=>?_
  have I1:Inv X Io σ H {s with heap:=h'}:=I.turned (t':=s.toks) (λ b o hb e=>(sb.2 b hb).trans e) f0 f1 f3 f4 f5;obtain⟨o,e,c,d⟩:=id st';exact⟨u,rfl,oK (s:={s with heap:=h'}) e c d Z9 ⟨x,H,I1,ru,⟨rfl,λ ys hy=>by rw [I.list_inj hy hq];exact hx⟩,st',λ b hb=>(hf b hb).1⟩⟩
 done:=by
  intro X hP hw hK hc i Io s σ H E I hf st hg;subst hP hw hK;obtain⟨xs,hq,hx⟩:=hg;obtain⟨its,rv,p,hz⟩:=I.list hq;obtain⟨f0,f1,f2,f3,f4,f5⟩:=hf it Z6;have hl:=rv.length;exact QQ.list_end_q I.hq st p.isList (by simp;exact De hl.symm hx) λ h' eb=>⟨rfl,I.turned (t':=s.toks) (λ b o hb e=>eb b o hb e) f0 f1 f3 f4 f5⟩
 self:=λ _ _ _ _ _ st h=>wpAny_pyIter_listiter st h
theorem or (a it:HZ):Turn P w K tg (Itt K a) [it] it (λ i h=>h.IsTupleIter it a i) where
 mem:=Z6
 obj:=λ i h st b hb=>by
  have e:b=it:=by simpa using hb
  subst e;obtain⟨o,e,c,d⟩:=st;exact⟨o,e,λ v z=>by rw [d] at z;cases z⟩
 keep:=λ i h h' st k=>st.at λ o e=>k it Z6 o e
 item:=by
  intro X hP hw hK hc i Io s σ H E I hf st hg;subst hP hw hK;obtain⟨xs,x,hq,hx⟩:=hg;obtain⟨its,rv,p,hz⟩:=I.tuple hq;obtain⟨u,hu,ru⟩:=rv.get hx;obtain⟨f0,f1,f2,f3,f4,f5⟩:=hf it Z6;refine wpAny_pyNext_tuple_item st (show s.heap.IsTuple a its.toArray from p) (x:=u) (by simpa using hu) λ h' st' sb=>?_
  have I1:Inv X Io σ H {s with heap:=h'}:=I.turned (t':=s.toks) (λ b o hb e=>(sb.2 b hb).trans e) f0 f1 f3 f4 f5;obtain⟨o,e,c,d⟩:=id st';exact⟨u,rfl,oK (s:={s with heap:=h'}) e c d Z9 ⟨x,H,I1,ru,⟨rfl,λ ys hy=>by rw [I.tuple_inj hy hq];exact hx⟩,st',λ b hb=>(hf b hb).1⟩⟩
 done:=by
  intro X hP hw hK hc i Io s σ H E I hf st hg;subst hP hw hK;obtain⟨xs,hq,hx⟩:=hg;obtain⟨its,rv,p,hz⟩:=I.tuple hq;obtain⟨f0,f1,f2,f3,f4,f5⟩:=hf it Z6;have hl:=rv.length;exact QQ.tuple_end_q I.hq st (show s.heap.IsTuple a its.toArray from p) (by simp;exact De hl.symm hx) λ h' eb=>⟨rfl,I.turned (t':=s.toks) (λ b o hb e=>eb b o hb e) f0 f1 f3 f4 f5⟩
 self:=λ _ _ _ _ _ st h=>wpAny_pyIter_tupleiter st h
theorem nA (it:HZ)(lo:Int)(n:Nat):Turn P w K tg (Itr lo n) [it] it (λ i h=>IsRangeIter h it (lo+(i:Nat)*1) ((n:Int)-(i:Nat)) 1) where
 mem:=Z6
 obj:=λ i h st b hb=>by
  have e:b=it:=by simpa using hb
  subst e;exact⟨_,st,λ v z=>by
   have z':Data.fields _=Data.cell v:=z;cases z'⟩
 keep:=λ i h h' st k=>k it Z6 _ st
 item:=by
  intro X hP hw hK hc i Io s σ H E I hf st hg;subst hP hw hK;obtain⟨f0,f1,f2,f3,f4,f5⟩:=hf it Z6;refine wpAny_pyNext_range_item st (by have:i<n:=hg;lia) λ h' st1 sb=>?_
  have st':IsRangeIter h' it (lo+((i+1:Nat):Int)*1) ((n:Int)-((i+1:Nat):Int)) 1:=by
   have e1:lo+((i+1:Nat):Int)*1=lo+(i:Int)*1+1:=Z5;have e2:(n:Int)-((i+1:Nat):Int)=(n:Int)-(i:Int)-1:=Z5;rw [e1,e2];exact st1
  have I1:Inv X Io σ H {s with heap:=h',toks:=s.toks+1}:=I.turned (λ b o hb e=>sb.extBut b o hb e) f0 f1 f3 f4 f5;refine⟨_,rfl,oK (s:={s with heap:=h',toks:=s.toks+1}) (n:="range_iterator") st' rfl rfl Z9 ⟨.int (lo+i),H,I1,⟨s.toks,?_⟩,⟨rfl,rfl⟩,st',λ b hb=>(hf b hb).1⟩⟩;rw [Int.mul_one]
 done:=by
  intro X hP hw hK hc i Io s σ H E I hf st hg;subst hP hw hK;obtain⟨f0,f1,f2,f3,f4,f5⟩:=hf it Z6;exact QQ.range_end_q I.hq st (by have:n≤i:=hg;lia) λ h' eb=>⟨rfl,I.turned (t':=s.toks) (λ b o hb e=>eb b o hb e) f0 f1 f3 f4 f5⟩
 self:=λ _ _ _ _ _ st h=>wpAny_pyIter_rangeiter st h
section
variable {X:Cx}{tg:Ik}
def zM (K:Frag)(tl:TE):TI:=λ σ H R=>tl σ H λ x H1=>∃a,x=.ref a/\(∃xs,SqL K H1 a xs)/\R (Itl K a) H1
def A6 (K:Frag)(tl:TE):TI:=λ σ H R=>tl σ H λ x H1=>∃a,x=.ref a/\(∃xs,SqT K H1 a xs)/\R (Itt K a) H1
theorem bi {tl:TE}(hl:PE X l tl):PI X tg l (zM X.K tl):=by
 intro Io s σ H R I h;refine thn (hl Io s σ H _ I h) λ v s1 z9=>?_
 obtain⟨x,H1,I1,r1,q1⟩:=z9;obtain⟨a,e,⟨xs,hq⟩,q⟩:=q1;subst e;cases r1;obtain⟨its,rv,p,hz⟩:=I1.list hq;refine wpAny_pyIter_list p.isList ?_;refine⟨s1.heap.objs.size,[s1.heap.objs.size],_,_,H1,rfl,I1.kept (t':=s1.toks) λ b o e=>Bi _ e,qP a _,⟨_,BY _ rfl,rfl,rfl⟩,λ b hb=>?_,q⟩;have e:b=s1.heap.objs.size:=by simpa using hb
 subst e;exact I1.fpOk (Bh _) (I1.hok.fresh (Bh _))
theorem ye {tl:TE}(hl:PE X l tl):PI X tg l (A6 X.K tl):=by
 intro Io s σ H R I h;refine thn (hl Io s σ H _ I h) λ v s1 z9=>?_
 obtain⟨x,H1,I1,r1,q1⟩:=z9;obtain⟨a,e,⟨xs,hq⟩,q⟩:=q1;subst e;cases r1;obtain⟨its,rv,p,hz⟩:=I1.tuple hq;refine wpAny_pyIter_tuple (show s1.heap.IsTuple a its.toArray from p) ?_;refine⟨s1.heap.objs.size,[s1.heap.objs.size],_,_,H1,rfl,I1.kept (t':=s1.toks) λ b o e=>Bi _ e,or a _,⟨_,BY _ rfl,rfl,rfl⟩,λ b hb=>?_,q⟩;have e:b=s1.heap.objs.size:=by simpa using hb
 subst e;exact I1.fpOk (Bh _) (I1.hok.fresh (Bh _))
theorem kH {R:It->Hp->Prop}{hi:Int}{t u v:Tok}{tk:Nat}(I:Inv X Io σ H s)(h1:-(2^62)≤lo)(h2:lo<2^62)(h3:-(2^62)≤hi)(h4:hi<2^62)
  (q:R (Itr lo (hi-lo).toNat) H):wpAny (model X.prog X.w) X.A (pyIter (.ref s.heap.objs.size)) (PIE X Io σ tg R) E {s with heap:=s.heap.push {cls:=.type "range",data:=.fields #[.int lo t,.int hi u,.int 1 v]},toks:=tk}:=by
 refine wpAny_pyIter_range (IsRange.new ..) (small_one h1 h2 h3 h4) ?_;have I1:Inv X Io σ H {s with heap:=s.heap.push {cls:=.type "range",data:=.fields #[.int lo t,.int hi u,.int 1 v]},toks:=tk}:=I.kept λ b o e=>Bi _ e
 refine⟨(s.heap.push {cls:=.type "range",data:=.fields #[.int lo t,.int hi u,.int 1 v]}).objs.size,[(s.heap.push {cls:=.type "range",data:=.fields #[.int lo t,.int hi u,.int 1 v]}).objs.size],_,_,H,rfl,
  I1.kept (t':=tk) λ b o e=>Bi _ e,nA _ lo (hi-lo).toNat,?_,λ b hb=>?_,q⟩
 ·have e1:lo+((0:Nat):Int)*1=lo:=Z6;have e2:(((hi-lo).toNat:Nat):Int)-((0:Nat):Int)=Builtin.Range.rangeSize lo hi 1:=by rw [rangeSize_one];split<;>lia
  show IsRangeIter _ _ (lo+((0:Nat):Int)*1) ((((hi-lo).toNat:Nat):Int)-((0:Nat):Int)) 1;rw [e1,e2];exact BY _ rfl
 ·have e:b=(s.heap.push {cls:=.type "range",data:=.fields #[.int lo t,.int hi u,.int 1 v]}).objs.size:=by simpa using hb
  subst e;exact I1.fpOk (Bh _) (I1.hok.fresh (Bh _))
def zk (ta:TA):TI:=λ σ H R=>ta σ H λ vs H1=>∃j:Int,vs=[.int j]/\-(2^62)≤j/\j<2^62/\R (Itr 0 j.toNat) H1
def zK (ta:TA):TI:=λ σ H R=>ta σ H λ vs H1=>∃i j:Int,vs=[.int i,.int j]/\(-(2^62)≤i/\i<2^62/\-(2^62)≤j/\j<2^62)/\R (Itr i (j-i).toNat) H1
theorem cS {a:Ik}{pos:Pos}(hg:Gl X "range")(hm:X.mg "range"=none)(ha:PA X [a] ta)(hs:autoParam (starEach [a] X.env=[(false,eval a X.env)]) Z0):PI X tg (.Call (.Name "range" p) [a] [] pos) (zk ta):=by
 intro Io s σ H R I h;refine Call_ (ld_blt I hg hm boot_range (DV (thn (ha pos Io s σ H _ I h) λ us s1 z9=>?_) hs rfl));obtain⟨vs,H1,I1,r1,q1⟩:=z9;obtain⟨j,e,q1,q2,q⟩:=q1;subst e;cases r1 with
 |cons r rr=>
  cases rr;obtain⟨t,rfl⟩:=r;exact call_range_1 (kH I1 Z5 Z5 q1 q2 (by simpa using q))
theorem fX {a b:Ik}{pos:Pos}(hg:Gl X "range")(hm:X.mg "range"=none)(ha:PA X [a,b] ta)(hs:autoParam (starEach [a,b] X.env=[(false,eval a X.env),(false,eval b X.env)]) Z0)(hs2:autoParam (starEach [b] X.env=[(false,eval b X.env)]) Z0):
  PI X tg (.Call (.Name "range" p) [a,b] [] pos) (zK ta):=by
 intro Io s σ H R I h;refine Call_ (ld_blt I hg hm boot_range (DV (thn (ha pos Io s σ H _ I h) λ us s1 z9=>?_) (by rw [hs,hs2]) (by rw [hs2];rfl)));obtain⟨vs,H1,I1,r1,q1⟩:=z9;obtain⟨i,j,e,⟨q1,q2,q3,q4⟩,q⟩:=q1;subst e;cases r1 with
 |cons r rr=>
  cases rr with
  |cons r' rr=>
   cases rr;obtain⟨t,rfl⟩:=r;obtain⟨t',rfl⟩:=r';exact call_range_2 (kH I1 q1 q2 q3 q4 q)
def AU (wi:TI)(g:TG)(tb:TS):TS:=λ D σ H=>wi σ H λ J H1=>∃W:Nat->Nat->St->Hp->Prop,(∃m,W 0 m σ H1)/\∀i m σ H,W i m σ H->
 (J.stop i H/\D.nx σ H)\/(J.go i H/\∃N:St->Hp->Prop,(∀σ' H',N σ' H'->∃m',m'<m/\W (i+1) m' σ' H')/\∀x H',J.yld i H x H'->g x σ H' λ σ2 H2=>tb {D with nx:=N,ct:=N,bk:=D.nx} σ2 H2)
noncomputable def kh (fp:List HZ) (h:Ij):List (HZ×Il):=fp.filterMap λ b=>(h.get? b).map λ o=>(b,o)
theorem bp {o:Il}(hb:b∈fp)(e:h.get? b=some o):(b,o)∈kh fp h:=List.mem_filterMap.mpr ⟨b,hb,by rw [e];rfl⟩
theorem qJ {p:HZ×Il}(hp:p∈kh fp h):p.1∈fp/\h.get? p.1=some p.2:=by
 obtain⟨b,hb,e⟩:=List.mem_filterMap.mp hp;cases q:h.get? b with
 |none=>rw [q] at e;cases e
 |some o=>
  rw [q] at e;have e':(b,o)=p:=BU e;subst e';exact⟨hb,q⟩
theorem Inv.pinned (I:Inv X Io σ H s)(hf:∀b∈fp,FpOk X Io H b)(ho:∀b∈fp,∃o,s.heap.get? b=some o/\∀v,o.data≠ .cell v):Inv X (Io++kh fp s.heap) σ H s:=
 I.pins_of λ p hp=>(Br.mp hp).elim (λ z=>I.pin p (BB _ z)) λ z=>by
  obtain⟨hb,e⟩:=qJ z;obtain⟨f0,f1,f2,_⟩:=hf p.1 hb;obtain⟨o,e',d⟩:=ho p.1 hb;rw [e] at e';cases e';exact⟨e,f0,f1,f2,d⟩
theorem Inv.unpinned {pl:List (HZ×Il)}(I:Inv X (Io++pl) σ H s):Inv X Io σ H s:=I.pins_of λ p hp=>I.pin p (BB _ (C4 _ hp))
theorem bf {iter:Ik}{wi:TI}{pos:Pos}(hp:PassesOwn (model X.prog X.w) X.A X.env X.xe)(hc:X.calm=true)(hi:PI X tg iter wi)(hg:PG X tg g)(hb:PSs X body tb)
  (hs:autoParam (∀x,foldedSetIterable iter X.env x=pure x) ZX):PS X (.For tg iter body [] pos) (AU wi g tb):=by
 intro Io s σ H D I h;refine wpAny_For (thn (hi Io s σ H _ I h) λ v s1 h1=>thn h1 λ itv s2 h2=>?_) hs;obtain⟨it,fp,tn,J,H2,e,I2,T,st2,f2,W,⟨m0,w0⟩,turn⟩:=h2;subst e;have stat:∀{H':Hp},(∀b∈fp,H' b=none)->∀b∈fp,FpOk X Io H' b:=λ hn b hb=>⟨hn b hb,(f2 b hb).2⟩
 refine codeAny_forLoop_any (λ n s'=>∃i σ' H',Inv X Io σ' H' s'/\tn i s'.heap/\(∀b∈fp,H' b=none)/\W i n σ' H') ?_ m0 ⟨0,σ,H2,I2,st2,λ b hb=>(f2 b hb).1,w0⟩;rintro n s3 ⟨i,σ3,H3,I3,st3,fr3,w3⟩;rcases turn i n σ3 H3 w3 with⟨stop,qn⟩|⟨go,N,hN,step⟩
 ·refine EQ hp (thn (T.done X rfl rfl rfl hc i Io s3 σ3 H3 X.xe I3 (stat fr3) st3 stop) λ r s4 z9=>?_);obtain⟨hr,I4⟩:=z9;subst hr;exact F8 ⟨σ3,H3,I4,qn⟩
 ·refine EQ hp (thn (T.item X rfl rfl rfl hc i Io s3 σ3 H3 X.xe I3 (stat fr3) st3 go) λ r s4 z9=>?_);obtain⟨u,hr,h4⟩:=z9;subst hr;refine EQ hp (thn h4 λ _ s5 z9=>?_);obtain⟨x,H5,I5,r5,y5,st5,fr5⟩:=z9;have I5':=I5.pinned (stat fr5) (T.obj _ _ st5);refine EQ hp (thn (hg _ s5 σ3 H5 x u _ I5' r5 (step x H5 y5)) λ _ s6 z9=>?_);obtain⟨σ6,H6,I6,q6⟩:=z9;refine EQ hp (thn (hb _ s6 σ6 H6 _ I6 q6) λ f s7 q7=>?_);have again:∀{σ7:St} {H7:Hp},Inv X (Io++kh fp s5.heap) σ7 H7 s7->N σ7 H7->∃m,m<n/\∃i σ' H',Inv X Io σ' H' s7/\tn i s7.heap/\(∀b∈fp,H' b=none)/\W i m σ' H':=λ {σ7 H7} I7 n7=>by
   obtain⟨m',hm,w7⟩:=hN σ7 H7 n7;refine⟨m',hm,i+1,σ7,H7,I7.unpinned,T.keep _ _ _ st5 λ b hb o e=>(I7.pin (b,o) (BB _ (BB _ (bp hb e)))).1,λ b hb=>?_,w7⟩;obtain⟨o,e,d⟩:=T.obj _ _ st5 b hb;exact(I7.pin (b,o) (BB _ (BB _ (bp hb e)))).2.1
  cases f with
  |next=>obtain⟨σ7,H7,I7,n7⟩:=q7;exact again I7 n7
  |cont=>obtain⟨σ7,H7,I7,n7⟩:=q7;exact again I7 n7
  |brk=>obtain⟨σ7,H7,I7,q7⟩:=q7;exact⟨σ7,H7,I7.unpinned,q7⟩
  |ret v=>obtain⟨x7,σ7,H7,I7,r7,q7⟩:=q7;exact⟨x7,σ7,H7,I7.unpinned,r7,q7⟩
end
theorem bx {D:Ends}(Pv:Nat->St->Hp->Prop)(h0:Pv 0 σ H)(hl:∀i σ H,i≤xs.length->Pv i σ H->SqL K H a xs)
  (hs:∀i x σ H,xs[i]?=some x->Pv i σ H->g x σ H λ σ2 H2=>tb {D with nx:=Pv (i+1),ct:=Pv (i+1),bk:=D.nx} σ2 H2) (hd:∀σ H,Pv xs.length σ H->D.nx σ H):
  ∃W:Nat->Nat->St->Hp->Prop,(∃m,W 0 m σ H)/\∀i m σ H,W i m σ H->
   ((Itl K a).stop i H/\D.nx σ H)\/((Itl K a).go i H/\∃N:St->Hp->Prop,(∀σ' H',N σ' H'->∃m',m'<m/\W (i+1) m' σ' H')/\∀x H',(Itl K a).yld i H x H'->g x σ H' λ σ2 H2=>tb {D with nx:=N,ct:=N,bk:=D.nx} σ2 H2):=by
 refine⟨λ i m σ H=>m=xs.length-i/\i≤xs.length/\Pv i σ H,⟨xs.length,Z6,BX _,h0⟩,?_⟩;rintro i m σ H ⟨rfl,hi,p⟩;have q:=hl i σ H hi p;by_cases Ir:i<xs.length
 ·refine .inr ⟨⟨xs,xs[i],q,by simp [Ir]⟩,Pv (i+1),λ σ' H' p'=>⟨xs.length-(i+1),Cy _ _ Ir,rfl,Ir,p'⟩,λ x H' y=>?_⟩;obtain⟨e,y⟩:=y;subst e;exact hs i x σ _ (y xs q) p
 ·have e:i=xs.length:=BI hi (Nat.not_lt.1 Ir);subst e;exact .inl ⟨⟨xs,q,Bh _⟩,hd σ H p⟩
theorem wH {D:Ends}(Pv:Nat->St->Hp->Prop)(h0:Pv 0 σ H)(hl:∀i σ H,i≤xs.length->Pv i σ H->SqT K H a xs)
  (hs:∀i x σ H,xs[i]?=some x->Pv i σ H->g x σ H λ σ2 H2=>tb {D with nx:=Pv (i+1),ct:=Pv (i+1),bk:=D.nx} σ2 H2) (hd:∀σ H,Pv xs.length σ H->D.nx σ H):
  ∃W:Nat->Nat->St->Hp->Prop,(∃m,W 0 m σ H)/\∀i m σ H,W i m σ H->
   ((Itt K a).stop i H/\D.nx σ H)\/((Itt K a).go i H/\∃N:St->Hp->Prop,(∀σ' H',N σ' H'->∃m',m'<m/\W (i+1) m' σ' H')/\∀x H',(Itt K a).yld i H x H'->g x σ H' λ σ2 H2=>tb {D with nx:=N,ct:=N,bk:=D.nx} σ2 H2):=by
 refine⟨λ i m σ H=>m=xs.length-i/\i≤xs.length/\Pv i σ H,⟨xs.length,Z6,BX _,h0⟩,?_⟩;rintro i m σ H ⟨rfl,hi,p⟩;have q:=hl i σ H hi p;by_cases Ir:i<xs.length
 ·refine .inr ⟨⟨xs,xs[i],q,by simp [Ir]⟩,Pv (i+1),λ σ' H' p'=>⟨xs.length-(i+1),Cy _ _ Ir,rfl,Ir,p'⟩,λ x H' y=>?_⟩;obtain⟨e,y⟩:=y;subst e;exact hs i x σ _ (y xs q) p
 ·have e:i=xs.length:=BI hi (Nat.not_lt.1 Ir);subst e;exact .inl ⟨⟨xs,q,Bh _⟩,hd σ H p⟩
theorem b9 {D:Ends}(Pv:Nat->St->Hp->Prop)(h0:Pv 0 σ H)
  (hs:∀i σ H,i<n->Pv i σ H->g (.int (lo+i)) σ H λ σ2 H2=>tb {D with nx:=Pv (i+1),ct:=Pv (i+1),bk:=D.nx} σ2 H2) (hd:∀σ H,Pv n σ H->D.nx σ H):
  ∃W:Nat->Nat->St->Hp->Prop,(∃m,W 0 m σ H)/\∀i m σ H,W i m σ H->
   ((Itr lo n).stop i H/\D.nx σ H)\/((Itr lo n).go i H/\∃N:St->Hp->Prop,(∀σ' H',N σ' H'->∃m',m'<m/\W (i+1) m' σ' H')/\∀x H',(Itr lo n).yld i H x H'->g x σ H' λ σ2 H2=>tb {D with nx:=N,ct:=N,bk:=D.nx} σ2 H2):=by
 refine⟨λ i m σ H=>m=n-i/\i≤n/\Pv i σ H,⟨n,Z6,BX _,h0⟩,?_⟩;rintro i m σ H ⟨rfl,hi,p⟩;by_cases Ir:i<n
 ·refine .inr ⟨Ir,Pv (i+1),λ σ' H' p'=>⟨n-(i+1),Cy _ _ Ir,rfl,Ir,p'⟩,λ x H' y=>?_⟩;obtain⟨e,y⟩:=y;subst e y;exact hs i σ _ Ir p
 ·have e:i=n:=BI hi (Nat.not_lt.1 Ir);subst e;exact .inl ⟨Bh _,hd σ H p⟩
abbrev R2:=V->V->Hp->VK->Prop
def OpR (X:Cx)(f:Ib->Ib->Sem Ib)(r:R2):Prop:=
 ∀(Io:List (HZ×Il)) (s:Ic) (σ:St) (H:Hp) (x y:V) (v u:Ib) (Q:VK),Inv X Io σ H s->RelV x v->RelV y u->r x y H Q->
  wpAny (model X.prog X.w) X.A (f v u) (EP X Io σ Q) X.xe s
def dF (X:Cx)(f:Ib)(r:List V->Hp->VK->Prop):Prop:=
 ∀(Io:List (HZ×Il)) (s:Ic) (σ:St) (H:Hp) (xs:List V) (us:List Ib) (Q:VK),Inv X Io σ H s->Vals xs us->r xs H Q->
  wpAny (model X.prog X.w) X.A (call f us) (EP X Io σ Q) X.xe s
def tOp (r:R2)(ta tb:TE):TE:=λ σ H Q=>ta σ H λ x H1=>tb σ H1 λ y H2=>r x y H2 Q
def rI (C:Int->Int->Prop)(g:Int->Int->V):R2:=λ x y H Q=>∃i j,x=.int i/\y=.int j/\C i j/\Q (g i j) H
def rI0 (g:Int->Int->V):R2:=λ x y H Q=>∃i j,x=.int i/\y=.int j/\Q (g i j) H
section
variable {X:Cx}{a b c:Ik}{ta tb tc:TE}{pos:Pos}
theorem binT (ha:PE X a ta)(hb:PE X b tb){R:V->V->Hp->Prop}(I:Inv X Io σ H s)
  (h:ta σ H λ x H1=>tb σ H1 λ y H2=>R x y H2) {Q:Ib->Ic->Prop} {f:Ib->Ib->Sem Ib}
  (hf:∀v u s2 x y H2,Inv X Io σ H2 s2->RelV x v->RelV y u->R x y H2->wpAny (model X.prog X.w) X.A (f v u) Q X.xe s2):
  wpAny (model X.prog X.w) X.A (eval a X.env) (λ v s₁=>wpAny (model X.prog X.w) X.A (eval b X.env) (λ u s₂=>wpAny (model X.prog X.w) X.A (f v u) Q X.xe s₂) X.xe s₁) X.xe s:=by
 refine thn (ha Io s σ H _ I h) λ v s1 z9=>?_
 obtain⟨x,H1,I1,r1,q1⟩:=z9;refine thn (hb Io s1 σ H1 _ I1 q1) λ u s2 z9=>?_
 obtain⟨y,H2,I2,r2,q2⟩:=z9;exact hf v u s2 x y H2 I2 r1 r2 q2
theorem am {op:Operator}(ho:OpR X (binaryOp op) r)(ha:PE X a ta)(hb:PE X b tb):PE X (.BinOp a op b pos) (tOp r ta tb):=by
 intro Io s σ H Q I h;exact wpAny_BinOp (binT ha hb I h λ v u s2 x y H2 I2 rx ry q=>ho Io s2 σ H2 x y v u Q I2 rx ry q)
theorem opI {f:Ib->Ib->Sem Ib}{C:Int->Int->Prop}{g:Int->Int->Int}
  (rule:∀(i j:Int) (t u:Tok) (s:Ic) (Q:Ib->Ic->Prop) (E:Ib->Ic->Prop),C i j->Q (.int (g i j) s.toks) {s with toks:=s.toks+1}->wpAny (model X.prog X.w) X.A (f (.int i t) (.int j u)) Q E s):
  OpR X f (rI C λ i j=>.int (g i j)):=by
 intro Io s σ H x y v u Q I rx ry h;obtain⟨i,j,rfl,rfl,hc,q⟩:=h;obtain⟨t,rfl⟩:=rx;obtain⟨t',rfl⟩:=ry;exact rule i j t t' s _ _ hc ⟨.int (g i j),H,I.tok _,⟨_,rfl⟩,q⟩
theorem tQ {f:Ib->Ib->Sem Ib}{g:Int->Int->Int}
  (rule:∀(i j:Int) (t u:Tok) (s:Ic) (Q:Ib->Ic->Prop) (E:Ib->Ic->Prop),Q (.int (g i j) s.toks) {s with toks:=s.toks+1}->wpAny (model X.prog X.w) X.A (f (.int i t) (.int j u)) Q E s):
  OpR X f (rI0 λ i j=>.int (g i j)):=by
 intro Io s σ H x y v u Q I rx ry h;obtain⟨i,j,rfl,rfl,q⟩:=h;obtain⟨t,rfl⟩:=rx;obtain⟨t',rfl⟩:=ry;exact rule i j t t' s _ _ ⟨.int (g i j),H,I.tok _,⟨_,rfl⟩,q⟩
theorem wU {f:Ib->Ib->Sem Ib}{g:Int->Int->Bool}
  (rule:∀(i j:Int) (t u:Tok) (s:Ic) (Q:Ib->Ic->Prop) (E:Ib->Ic->Prop),Q (.bool (g i j)) s->wpAny (model X.prog X.w) X.A (f (.int i t) (.int j u)) Q E s):
  OpR X f (rI0 λ i j=>.bl (g i j)):=by
 intro Io s σ H x y v u Q I rx ry h;obtain⟨i,j,rfl,rfl,q⟩:=h;obtain⟨t,rfl⟩:=rx;obtain⟨t',rfl⟩:=ry;exact rule i j t t' s _ _ ⟨.bl (g i j),H,I,rfl,q⟩
def AG (i j:Int):Prop:=0<j/\j<1073741824
def zD (i j:Int):Prop:=0≤j/\j≤1000000/\i.natAbs<2^64
def CMul (i j:Int):Prop:=(-(2^64)<i/\i<2^64)\/(-(2^64)<j/\j<2^64)
theorem CMul.ok {i j:Int}(h:CMul i j):IntMulOk i j:=by
 rcases h with⟨h1,h2⟩|⟨h1,h2⟩
 ·exact .of_left (intBits_le_64 h1 h2)
 ·exact .of_right (intBits_le_64 h1 h2)
theorem mV (k:Nat):(0:Int)≤2^k:=by
 rw [two_pow_cast];exact BZ _
theorem aK:OpR X (binaryOp .Add) (rI0 λ i j=>.int (i+j)):=tQ λ _ _ _ _ _ _ _ q=>add_int q
theorem aY:OpR X (binaryOp .Sub) (rI0 λ i j=>.int (i-j)):=tQ λ _ _ _ _ _ _ _ q=>sub_int q
theorem bZ:OpR X (binaryOp .Mult) (rI CMul λ i j=>.int (i*j)):=opI λ _ _ _ _ _ _ _ hc q=>mul_int q hc.ok
theorem a9:OpR X (binaryOp .FloorDiv) (rI AG λ i j=>.int (i/j)):=opI λ i j _ _ _ _ _ hc q=>by
 have h1:(0:Int)<j:=hc.1;have h2:j<1073741824:=hc.2;exact floordiv_int Z5 (by rw [Hh i (HW h1)];exact q) (.inl (Gf Z4))
theorem a7:OpR X (binaryOp .Mod) (rI (λ _ j=>0<j) λ i j=>.int (i%j)):=opI λ i j _ _ _ _ _ hc q=>by
 have h1:(0:Int)<j:=hc;exact mod_int' (Fb (Int.ne_of_lt hc)) (by rw [Int.fmod_eq_emod_of_nonneg i (HW hc)];exact q)
theorem b8:OpR X (binaryOp .LShift) (rI zD λ i j=>.int (i*2^j.toNat)):=opI λ _ _ _ _ _ _ _ hc q=>lshift_int_small hc.1 hc.2.1 hc.2.2 q
theorem il:OpR X (binaryOp .RShift) (rI (λ _ j=>0≤j) λ i j=>.int (i/2^j.toNat)):=opI λ i j _ _ _ _ _ hc q=>
 rshift_int hc (by rw [Hh i (mV _)];exact q)
theorem hG:OpR X (binaryOp .BitAnd) (rI0 λ i j=>.int (Builtin.bitAnd i j)):=tQ λ _ _ _ _ _ _ _ q=>and_int q
theorem zP:OpR X (binaryOp .BitOr) (rI0 λ i j=>.int (Builtin.bitOr i j)):=tQ λ _ _ _ _ _ _ _ q=>or_int q
theorem kz:OpR X (binaryOp .BitXor) (rI0 λ i j=>.int (Builtin.bitXor i j)):=tQ λ _ _ _ _ _ _ _ q=>xor_int q
end
noncomputable def Aa:V->V->Bool
 | .non,.non=>true| .non,.int _=>true| .int _,.non=>true| .non,.bl _=>true| .bl _,.non=>true| .non,.str _=>true| .str _,.non=>true
 | .int _,.int _=>true| .bl _,.bl _=>true| .str _,.str _=>true| .byt _,.byt _=>true
 | .int _,.str _=>true| .str _,.int _=>true| .bl _,.str _=>true| .str _,.bl _=>true
 |_,_=>false
def rEq:R2:=λ x y H Q=>Aa x y=true/\Q (.bl (decide (x=y))) H
def rNe:R2:=λ x y H Q=>Aa x y=true/\Q (.bl (!decide (x=y))) H
theorem pI {i j:Int}:decide (V.int i=V.int j)=(i==j):=by
 rw [Hc];simp
theorem tx {i j:Bool}:decide (V.bl i=V.bl j)=(i==j):=by
 rw [Hc];simp
theorem o3 {i j:Str}:decide (V.str i=V.str j)=(i==j):=by
 rw [Hc];simp
theorem qd {i j:Array UInt8}:decide (V.byt i=V.byt j)=(i.toList==j.toList):=by
 rw [Hc];cases i;cases j;simp
section
variable {X:Cx}{a b c:Ik}{ta tb tc:TE}{pos:Pos}
theorem aS {Q:VK}{k k':Bool}(I:Inv X Io σ H s)(q:Q (.bl k) H)(e:k=k'):EP X Io σ Q (.bool k') s:=by
 subst e;exact⟨.bl k,H,I,rfl,q⟩
theorem bP:OpR X (compareOp .Eq) rEq:=by
 intro Io s σ H x y v u Q I rx ry h;obtain⟨hs,q⟩:=h;cases x with
 |non=>
  cases rx;cases y with
  |non=>cases ry;exact PySem.EqNone.eq_none_none (aS I q Z6)
  |bl j=>cases ry;exact PySem.EqNone.eq_none_bool (aS I q Z6)
  |int j=>obtain⟨t',rfl⟩:=ry;exact PySem.EqNone.eq_none_int (aS I q Z6)
  |str j=>obtain⟨t',rfl⟩:=ry;exact PySem.EqNone.eq_none_str (aS I q Z6)
  |_=>exact absurd (show false=true from hs) BL
 |bl i=>
  cases rx;cases y with
  |non=>cases ry;exact PySem.EqNone.eq_bool_none (aS I q Z6)
  |bl j=>cases ry;exact eq_bool (aS I q tx)
  |str j=>obtain⟨t',rfl⟩:=ry;exact PySem.EqMixed.eq_bool_str (aS I q Z6)
  |_=>exact absurd (show false=true from hs) BL
 |int i=>
  obtain⟨t,rfl⟩:=rx;cases y with
  |non=>cases ry;exact PySem.EqNone.eq_int_none (aS I q Z6)
  |int j=>obtain⟨t',rfl⟩:=ry;exact eq_int (aS I q pI)
  |str j=>obtain⟨t',rfl⟩:=ry;exact PySem.EqMixed.eq_int_str (aS I q Z6)
  |_=>exact absurd (show false=true from hs) BL
 |str i=>
  obtain⟨t,rfl⟩:=rx;cases y with
  |non=>cases ry;exact PySem.EqNone.eq_str_none (aS I q Z6)
  |bl j=>cases ry;exact PySem.EqMixed.eq_str_bool (aS I q Z6)
  |int j=>obtain⟨t',rfl⟩:=ry;exact PySem.EqMixed.eq_str_int (aS I q Z6)
  |str j=>obtain⟨t',rfl⟩:=ry;exact eq_str (aS I q o3)
  |_=>exact absurd (show false=true from hs) BL
 |byt i=>
  obtain⟨t,rfl⟩:=rx;cases y with
  |byt j=>obtain⟨t',rfl⟩:=ry;exact PySem.W.eq_bytes (aS I q qd)
  |_=>exact absurd (show false=true from hs) BL
 |_=>cases y<;>exact absurd (show false=true from hs) BL
theorem xm:OpR X (compareOp .NotEq) rNe:=by
 intro Io s σ H x y v u Q I rx ry h;obtain⟨hs,q⟩:=h;cases x with
 |non=>
  cases rx;cases y with
  |non=>cases ry;exact PySem.EqNone.ne_none_none (aS I q Z6)
  |bl j=>cases ry;exact PySem.EqNone.ne_none_bool (aS I q Z6)
  |int j=>obtain⟨t',rfl⟩:=ry;exact PySem.EqNone.ne_none_int (aS I q Z6)
  |str j=>obtain⟨t',rfl⟩:=ry;exact PySem.EqNone.ne_none_str (aS I q Z6)
  |_=>exact absurd (show false=true from hs) BL
 |bl i=>
  cases rx;cases y with
  |non=>cases ry;exact PySem.EqNone.ne_bool_none (aS I q Z6)
  |bl j=>cases ry;exact ne_bool (aS I q (congrArg not tx))
  |str j=>obtain⟨t',rfl⟩:=ry;exact PySem.EqMixed.ne_bool_str (aS I q Z6)
  |_=>exact absurd (show false=true from hs) BL
 |int i=>
  obtain⟨t,rfl⟩:=rx;cases y with
  |non=>cases ry;exact PySem.EqNone.ne_int_none (aS I q Z6)
  |int j=>obtain⟨t',rfl⟩:=ry;exact ne_int (aS I q (congrArg not pI))
  |str j=>obtain⟨t',rfl⟩:=ry;exact PySem.EqMixed.ne_int_str (aS I q Z6)
  |_=>exact absurd (show false=true from hs) BL
 |str i=>
  obtain⟨t,rfl⟩:=rx;cases y with
  |non=>cases ry;exact PySem.EqNone.ne_str_none (aS I q Z6)
  |bl j=>cases ry;exact PySem.EqMixed.ne_str_bool (aS I q Z6)
  |int j=>obtain⟨t',rfl⟩:=ry;exact PySem.EqMixed.ne_str_int (aS I q Z6)
  |str j=>obtain⟨t',rfl⟩:=ry;exact ne_str (aS I q (congrArg not o3))
  |_=>exact absurd (show false=true from hs) BL
 |byt i=>
  obtain⟨t,rfl⟩:=rx;cases y with
  |byt j=>obtain⟨t',rfl⟩:=ry;exact PySem.W.ne_bytes (aS I q (congrArg not qd))
  |_=>exact absurd (show false=true from hs) BL
 |_=>cases y<;>exact absurd (show false=true from hs) BL
theorem jw:OpR X (compareOp .Lt) (rI0 λ i j=>.bl (decide (i<j))):=wU λ _ _ _ _ _ _ _ q=>lt_int q
theorem i7:OpR X (compareOp .LtE) (rI0 λ i j=>.bl (decide (i≤j))):=wU λ _ _ _ _ _ _ _ q=>le_int q
theorem dH:OpR X (compareOp .Gt) (rI0 λ i j=>.bl (decide (j<i))):=wU λ _ _ _ _ _ _ _ q=>gt_int q
theorem pG:OpR X (compareOp .GtE) (rI0 λ i j=>.bl (decide (j≤i))):=wU λ _ _ _ _ _ _ _ q=>ge_int q
theorem rF:OpR X (compareOp .Is) (λ x y H Q=>y=.non/\Q (.bl (decide (x=.non))) H):=by
 intro Io s σ H x y v u Q I rx ry h;obtain⟨rfl,q⟩:=h;cases ry;refine is_none_gen (aS I q ?_);cases x<;>first
  |(cases rx;rfl)
  |(obtain⟨t,rfl⟩:=rx;rfl)
theorem aC (b:Ik){op:CmpOp}(h:autoParam (op≠ .In) ZZ)(h2:autoParam (op≠ .NotIn) ZZ):behindInMarks op b=false:=uN b h h2
theorem fF {op:CmpOp}(ho:OpR X (compareOp op) r)(ha:PE X a ta)(hb:PE X b tb)(hm:behindInMarks op b=false):PE X (.Compare a [op] [b] pos) (tOp r ta tb):=by
 intro Io s σ H Q I h;exact wpAny_Compare1 (binT ha hb I h λ v u s2 x y H2 I2 rx ry q=>ho Io s2 σ H2 x y v u Q I2 rx ry q) hm
def lB (t:TE):TT:=λ σ H Q=>t σ H λ x H'=>∃k,x=.bl k/\Q k H'
theorem aA {op:CmpOp}(ho:OpR X (compareOp op) r)(ha:PE X a ta)(hb:PE X b tb)(hm:behindInMarks op b=false):PT X (.Compare a [op] [b] pos) (lB (tOp r ta tb)):=by
 intro Io s σ H Q I h;refine wpAny_isTrue_Compare1 (thn (ha Io s σ H _ I h) λ v s1 ⟨x,H1,I1,r1,q1⟩=>thn (hb Io s1 σ H1 _ I1 q1) λ u s2 ⟨y,H2,I2,r2,q2⟩=>
  thn (ho Io s2 σ H2 x y v u _ I2 r1 r2 q2) λ c s3 ⟨z,H3,I3,r3,k,e,q3⟩=>?_) hm
 subst e;cases r3;exact EO ⟨H3,I3,q3⟩
def xU (r r':R2)(ta tb tc:TE):TE:=λ σ H Q=>ta σ H λ x H1=>tb σ H1 λ y H2=>r x y H2 λ z H3=>∃k,z=.bl k/\
 (if k=true then tc σ H3 λ w' H4=>r' y w' H4 Q else Q (.bl false) H3)
theorem iC {op op':CmpOp}{r':R2}(ho:OpR X (compareOp op) r)(ho':OpR X (compareOp op') r')(ha:PE X a ta)(hb:PE X b tb)(hc:PE X c tc)
  (hm:lastMarks [op,op'] [b,c]=false:=by with_unfolding_all rfl):PE X (.Compare a [op,op'] [b,c] pos) (xU r r' ta tb tc):=by
 intro Io s σ H Q I h;refine Compare_chain (thn (ha Io s σ H _ I h) λ v s1 ⟨x,H1,I1,r1,q1⟩=>chain_link (thn (hb Io s1 σ H1 _ I1 q1) λ u s2 ⟨y,H2,I2,r2,q2⟩=>
  thn (ho Io s2 σ H2 x y v u _ I2 r1 r2 q2) λ d s3 ⟨z,H3,I3,r3,k,e,q3⟩=>?_)) hm
 subst e;cases r3;refine EO ?_;cases k with
 |false=>exact ite_ff ⟨.bl false,H3,I3,rfl,q3⟩
 |true=>exact ite_tt (chain_last (thn (hc Io s3 σ H3 _ I3 q3) λ w' s4 z9=>by obtain⟨z',H4,I4,r4,q4⟩:=z9;exact ho' Io s4 σ H4 y z' u w' Q I4 r2 r4 q4))
theorem jT:(sizeLine:Nat)<2^63:=by rw [EJ];decide
theorem fk {x:V}(r:Vals [x] us):∃u,us=[u]/\RelV x u:=by
 cases r with
 |cons r1 r2=>cases r2;exact⟨_,rfl,r1⟩
theorem oS {x:V}(r:Vals [x,y] us):∃u w',us=[u,w']/\RelV x u/\RelV y w':=by
 cases r with
 |cons r1 r2=>
  cases r2 with
  |cons r3 r4=>cases r4;exact⟨_,_,rfl,r1,r3⟩
theorem qQ (hc:X.A.handled=none):dF X (.builtin "max") (λ xs H Q=>∃i j,xs=[.int i,.int j]/\Q (.int (if j>i then j else i)) H):=by
 intro Io s σ H xs us Q I r h;obtain⟨i,j,rfl,q⟩:=h;obtain⟨u,w',rfl,⟨t,rfl⟩,⟨t',rfl⟩⟩:=oS r;refine max_two_ints hc λ h' tk k=>⟨_,H,I.kept k,?_,q⟩
 by_cases hj:j>i
 ·rw [BM hj,BM hj];exact⟨_,rfl⟩
 ·rw [Bu hj,Bu hj];exact⟨_,rfl⟩
theorem dZ (hc:X.A.handled=none):dF X (.builtin "min") (λ xs H Q=>∃i j,xs=[.int i,.int j]/\Q (.int (if j<i then j else i)) H):=by
 intro Io s σ H xs us Q I r h;obtain⟨i,j,rfl,q⟩:=h;obtain⟨u,w',rfl,⟨t,rfl⟩,⟨t',rfl⟩⟩:=oS r;refine min_two_ints hc λ h' tk k=>⟨_,H,I.kept k,?_,q⟩
 by_cases hj:j<i
 ·rw [BM hj,BM hj];exact⟨_,rfl⟩
 ·rw [Bu hj,Bu hj];exact⟨_,rfl⟩
theorem gh:dF X (.type "int") (λ xs H Q=>(∃i,xs=[.int i]/\Q (.int i) H)\/∃k,xs=[.bl k]/\Q (.int (if k then 1 else 0)) H):=by
 intro Io s σ H xs us Q I r h;rcases h with⟨i,rfl,q⟩|⟨k,rfl,q⟩
 ·obtain⟨u,rfl,t,rfl⟩:=fk r;exact call_int_int ⟨.int i,H,I,⟨_,rfl⟩,q⟩
 ·obtain⟨u,rfl,r1⟩:=fk r;cases r1;exact call_int_bool ⟨.int (if k then 1 else 0),H,I.tok _,⟨_,rfl⟩,q⟩
end
structure ObjM (h:Ij)(x dx C:HZ)(mA:Str->Option Ib):Prop where
 obj:h.get? x=some (instObj C dx)
 ns:h.Ns1 dx mA
 ne:dx≠x
theorem ra (n:h.Ns1 dx mA):∃od,h.get? dx=some od/\∀name,lookIn name od=some (mA name):=by
 obtain⟨o,es,ep,ho,hd,hk,_,hm⟩:=n;refine⟨o,ho,λ name=>?_⟩;have e:=hm name;unfold nsFind findBy at e;rw [<-Array.find?_toList] at e;unfold lookIn;rw [hd];dsimp only
 split
 ·rename_i y q
  rw [q] at e;exact congrArg some e
 ·rename_i q
  rw [q] at e;have a:es.toList.any (·.refKey)=false:=by
   rw [List.any_eq_false];intro y hy;obtain⟨z,t,hkey⟩:=hk y (Array.mem_toList_iff.mp hy);simp [DictEntry.refKey,hkey]
  have a':¬es.toList.any (·.refKey)=true:=by rw [a];exact BL
  rw [Bu a'];exact congrArg some e
theorem ObjM.look {x:HZ}(I:ObjM h x dx C mA):∃od,InstAt h x (instObj C dx) C (some od)/\∀name,lookIn name od=some (mA name):=
 let⟨od,ho,hl⟩:=ra I.ns
 ⟨od,⟨I.obj,rfl,rfl,ho⟩,hl⟩
section
variable {prog:Ie}{w:Ig}{A:Ii}{E:Ib -> Ic -> Prop}{s:Ic}{K:Frag}{x dx C f:HZ}{mA:Str -> Option Ib}{name:Str}{v:Ib}
theorem vc {expr:Bool}{Q:Ib->Ic->Prop}(X:K.In s.heap)(I:ObjM s.heap x dx C mA)(hg:plainGet K C name=true)(hh:hasDictIn K C=true)
  (ha:findIn K (.ref C) name=some none) (hv:mA name=some v) (hv':handedIn v=true) (h:Q v {s with toks:=s.toks+1}):
  wpAny (model prog w) A (getAttr (.ref x) name expr) Q E s:=by
 obtain⟨od,J,hl⟩:=I.look;exact PySem.W.get_value X J (Hd hg).1 (PySem.W.findObj_own hh ha rfl (by rw [hl,hv])) hv' h
theorem sP {pl:Sem Bool}{Q:Ib×List Ib->Ic->Prop}(X:K.In s.heap)(I:ObjM s.heap x dx C mA)(hg:plainGet K C name=true)
  (hf:findIn K (.ref C) name=some (some (.ref f))) (ht:isFn K (.ref f)=true) (hv:mA name=none) (h:Q (.ref f,[.ref x]) s):
  wpAny (model prog w) A (getMethod (.ref x) name pl) Q E s:=by
 obtain⟨od,J,hl⟩:=I.look;exact PySem.W.method_fn X J (Hd hg).1 (Hd hg).2 hf (B9.mp ht) (by show(lookIn name od).map (·.isSome)=some false;rw [hl,hv];rfl) h
theorem vY {ns:List Str}(X:K.In s.heap)(I:ObjM s.heap x dx C mA)
  (hs:findIn K (.ref C) "__setattr__"=some (some (.builtin "object.__setattr__"))) (hp:plainOver K C=true) (ht:takerIn K C name=some none) (hh:hasDictIn K C=true)
  (hw:PySem.Within mA ns) (hsz:ns.length≤sizeLine)
  (h:∀h',ObjM h' x dx C (λ y=>if y=name then some v else mA y)->Heap.SameBut dx s.heap h'->Q () {s with heap:=h',toks:=s.toks+2}):
  wpAny (model prog w) A (setAttr (.ref x) name v) Q E s:=by
 obtain⟨od,J,hl⟩:=I.look;refine PySem.W.set_plain X J hs (PySem.W.osa_open (s:={s with toks:=s.toks+1}) (r:=none) X J hp ht λ b=>?_);obtain⟨cd,hc,hd'⟩:=GJ hh;have hx:s.heap.get? x=some ⟨.ref C,some dx,.plain,#[]⟩:=I.obj;refine Bc (BH (Bc (Bc (wpAny_loadPart hx (Bc (Looks.here (s:={s with toks:=s.toks+1}) (PySem.W.looks_clsIn X hc) ?_))))));rw [hd'];refine BH (a:=some dx) (Bc (BH (Bc ?_)));refine wpAny_nsSet1 (s:={s with toks:=s.toks+1}) I.ns λ h' hn2 hs2=>?_
 obtain⟨oD,esD,epD,hoD,hdD,hcD⟩:=hn2.count (PySem.Within.cons name v hw);refine Bc (wpAny_lookBehind hoD (by rw [hdD];exact pastItsLine_dict (Ba hcD (by rw [Bq];exact CZ hsz 1))) ?_);exact BH (h _ ⟨(hs2.2 _ (Fb I.ne)).trans I.obj,hn2,I.ne⟩ hs2)
theorem uC {R:Result->Ic->Prop}{vs:List Ib}(X:K.In s.heap)(hm:makesIn K C=true)
  (hi:findIn K (.ref C) "__init__"=some (some (.ref f))) (hf:typeIn K (.ref f)=some (.type "function"))
  (h:codeAny (model prog w) (A.under (.builtin "type.__call__" ⟨.ref C::vs,kw⟩)) (.call (.ref f) ⟨.ref (s.heap.objs.size+1)::vs,kw⟩) (InitBack (s.heap.objs.size+1) R)
   {s with heap:=(s.heap.push emptyDict).push (instObj C s.heap.objs.size)}):
  codeAny (model prog w) A (.call (.ref C) ⟨vs,kw⟩) R s:=by
 obtain⟨hh,g,d,t,os⟩:=s;exact make_core (HK X hm) (Fu X hi) (λ self=>PySem.W.bind_fn X self hf) (.inl rfl) h
theorem rj {R:Result->Ic->Prop}(X:K.In s.heap)(hm:makesIn K C=true)
  (hi:findIn K (.ref C) "__init__"=some (some (.builtin "object.__init__")))
  (hb:∀self,Looks (model prog w) s.heap (bindSpecial (.builtin "object.__init__") self) (.builtin "object.__init__",[self]))
  (h:codeAny (model prog w) (A.under (.builtin "type.__call__" ⟨[.ref C],[]⟩)) (.call (.builtin "object.__init__") ⟨[.ref (s.heap.objs.size+1)],[]⟩) (InitBack (s.heap.objs.size+1) R)
   {s with heap:=(s.heap.push emptyDict).push (instObj C s.heap.objs.size)}):
  codeAny (model prog w) A (.call (.ref C) ⟨[],[]⟩) R s:=by
 obtain⟨hh,g,d,t,os⟩:=s;exact make_core (HK X hm) (Fu X hi) hb (.inr ⟨rfl,rfl⟩) h
end
noncomputable def putF (f:Str) (v:V):List (Str×V)->List (Str×V)
 | []=>[(f,v)]
 |(g,x)::r=>if g=f then(g,v)::r else(g,x)::putF f v r
theorem ao (f g:Str)(v:V):∀fs:List (Str×V),(putF f v fs).lookup g=if g=f then some v else fs.lookup g
 | []=>by
  show List.lookup g [(f,v)]=_;by_cases h:g=f
  ·have hb:(g==f)=true:=B9.mpr h;simp only [List.lookup,hb,BM h]
  ·have hb:(g==f)=false:=FR.mpr h;simp only [List.lookup,hb,Bu h]
 |(k,x)::r=>by
  have ih:=ao f g v r;rw [show putF f v ((k,x)::r)=(if k=f then(k,v)::r else(k,x)::putF f v r) from rfl];by_cases hk:k=f
  ·rw [BM hk];by_cases h:g=k
   ·have hb:(g==k)=true:=B9.mpr h;simp only [List.lookup,hb,BM (h.trans hk)]
   ·have hb:(g==k)=false:=FR.mpr h;simp only [List.lookup,hb,Bu (λ e:g=f=>h (e.trans hk.symm))]
  ·rw [Bu hk];by_cases h:g=k
   ·have hb:(g==k)=true:=B9.mpr h;simp only [List.lookup,hb,Bu (λ e:g=f=>hk (h.symm.trans e))]
   ·have hb:(g==k)=false:=FR.mpr h;simp only [List.lookup,hb];exact ih
theorem fU (f:Str)(v:V):∀fs:List (Str×V),f∈(putF f v fs).map (·.1)/\∀g,g∈fs.map (·.1)->g∈(putF f v fs).map (·.1)
 | []=>⟨by simp [putF],λ g h=>by simp at h⟩
 |(k,x)::r=>by
  obtain⟨i1,i2⟩:=fU f v r;rw [show putF f v ((k,x)::r)=(if k=f then(k,v)::r else(k,x)::putF f v r) from rfl];by_cases hk:k=f
  ·rw [BM hk];subst hk;exact⟨Z6,λ g h=>by simpa using h⟩
  ·rw [Bu hk];refine⟨?_,λ g h=>?_⟩
   ·rw [DE];exact Bw _ i1
   ·rw [DE] at h ⊢;rcases BA.mp h with e|e
    ·exact BA.mpr (.inl e)
    ·exact Bw _ (i2 g e)
theorem gs (f:Str)(v:V):∀fs:List (Str×V),(putF f v fs).length≤fs.length+1
 | []=>by simp [putF]
 |(k,x)::r=>by
  have ih:=gs f v r;rw [show putF f v ((k,x)::r)=(if k=f then(k,v)::r else(k,x)::putF f v r) from rfl];by_cases hk:k=f
  ·rw [BM hk,Bq,Bq];exact B1 _ 1
  ·rw [Bu hk,Bq,Bq];exact CZ ih 1
theorem RelO.some_of {o:Option Ib}(r:RelO (some v) o):∃u,o=some u/\RelV v u:=by
 cases o with
 |none=>exact(show False from r).elim
 |some u=>exact⟨u,rfl,r⟩
theorem RelO.none_of {o:Option Ib}(r:RelO none o):o=none:=by
 cases o with
 |none=>rfl
 |some u=>exact(show False from r).elim
theorem rz (r:RelV v u):handedIn u=true:=by
 cases v with
 |non=>cases(show u=Value.none from r);rfl
 |bl b=>cases(show u=Value.bool b from r);rfl
 |int i=>obtain⟨t,e⟩:=(show∃t,u=Value.int i t from r);cases e;rfl
 |str x=>obtain⟨t,e⟩:=(show∃t,u=Value.str x t from r);cases e;rfl
 |byt b=>obtain⟨t,e⟩:=(show∃t,u=Value.bytes b t from r);cases e;rfl
 |flt b=>obtain⟨t,e⟩:=(show∃t,u=Value.float b t from r);cases e;rfl
 |ref a=>cases(show u=Value.ref a from r);rfl
 |ty n=>cases(show u=Value.type n from r);rfl
section
variable {P:Ie}{w:Ig}{H H':Hp}{h h':Ij}{a C dx:HZ}{fs fs':List (Str × V)}
theorem gG (hok:HOk P w H h)(e:H a=some (.ins C dx fs)):∃mA,ObjM h a dx C mA/\(∀f,RelO (fs.lookup f) (mA f))/\PySem.Within mA (fs.map (·.1))/\fs.length≤1000/\H dx=some (.own a):=by
 obtain⟨d,z,ne,ob,mA,n,r,q⟩:=(show ObjOk P w H h a (.ins C dx fs) from hok a _ e);exact⟨mA,⟨ob,n,ne⟩,r,q,z,d⟩
end
structure Cls (K:Frag)(C:HZ):Prop where
 pg:plainGet K C Str.empty=true
 hd:hasDictIn K C=true
 po:plainOver K C=true
 sa:findIn K (.ref C) "__setattr__"=some (some (.builtin "object.__setattr__"))
theorem Cls.get (c:Cls K C)(f:Str):plainGet K C f=true:=c.pg
def NoAttr (K:Frag)(C:HZ)(f:Str):Prop:=findIn K (.ref C) f=some none
theorem NoAttr.taker {f:Str}(n:NoAttr K C f):takerIn K C f=some none:=by
 unfold takerIn;rw [show findIn K (.ref C) f=some none from n];rfl
structure Meth (K:Frag)(C:HZ)(m:Str)(f:HZ):Prop where
 at_:findIn K (.ref C) m=some (some (.ref f))
 fn:isFn K (.ref f)=true
 kp:keepIn K (.ref f)=true
section
variable {X:Cx}{Io:List (HZ × Il)}{σ:St}{H:Hp}{s:Ic}{a C dx:HZ}{fs:List (Str × V)}{f:Str}{v:V}{A:Ii}{E:Ib -> Ic -> Prop}
theorem oo {b:Bool}{Q:Ib->Ic->Prop}(I:Inv X Io σ H s)(e:H a=some (.ins C dx fs))(c:Cls X.K C)(n:NoAttr X.K C f)(l:fs.lookup f=some v)
  (h:∀u s',Inv X Io σ H s'->RelV v u->Q u s'):wpAny (model X.prog X.w) A (getAttr (.ref a) f b) Q E s:=by
 obtain⟨mA,O,r,_,_,_⟩:=gG I.hok e;obtain⟨u,hu,ru⟩:=RelO.some_of (v:=v) (o:=mA f) (by rw [<-l];exact r f);exact vc I.kIn O (c.get f) c.hd n hu (rz ru) (h u _ (I.tok _) ru)
theorem cb {m:Str}{g:HZ}{pl:Sem Bool}{Q:Ib×List Ib->Ic->Prop}(I:Inv X Io σ H s)(e:H a=some (.ins C dx fs))(c:Cls X.K C)(k:Meth X.K C m g)(l:fs.lookup m=none)
  (h:Q (.ref g,[.ref a]) s):wpAny (model X.prog X.w) A (getMethod (.ref a) m pl) Q E s:=by
 obtain⟨mA,O,r,_,_,_⟩:=gG I.hok e;have hn:mA m=none:=RelO.none_of (by rw [<-l];exact r m);exact sP I.kIn O (c.get m) k.at_ k.fn hn h
theorem oj (I:Inv X Io σ H s)(e:H a=some (.ins C dx fs))(c:Cls X.K C)(n:NoAttr X.K C f)(hl:fs.length<1000)(ry:RelV y u)
  (h:∀s',Inv X Io σ (upd H a (.ins C dx (putF f y fs))) s'->Q () s'):wpAny (model X.prog X.w) A (setAttr (.ref a) f u) Q E s:=by
 obtain⟨mA,O,r,wi,_,ho⟩:=gG I.hok e;have hz:(fs.map (·.1)).length≤sizeLine:=by rw [A9,EJ];exact Ba (B7 hl) Z9
 refine vY I.kIn O c.sa c.po n.taker c.hd wi hz λ h' O' sb=>h _ ?_
 have hd:∃o,h'.get? dx=some o:=let⟨o,_,_,e',_⟩:=O'.ns;⟨o,e'⟩;refine I.write (x:=a) (e:=dx) (by rw [e];exact True.intro) (.inr ho) (λ b q hb z=>(sb.2 b hb).trans z) hd ?_;refine⟨by rw [upd_ne O.ne];exact ho,?_,O.ne,O'.obj,_,O'.ns,λ g=>?_,λ g hg=>?_⟩
 ·have:=gs f y fs;exact Ba this hl
 ·show RelO ((putF f y fs).lookup g) (if g=f then some u else mA g);rw [ao];by_cases q:g=f
  ·rw [BM q,BM q];exact ry
  ·rw [Bu q,Bu q];exact r g
 ·by_cases q:g=f
  ·rw [q];exact(fU f y fs).1
  ·refine(fU f y fs).2 g (wi g λ z=>hg ?_);show(if g=f then some u else mA g)=none;rw [Bu q];exact z
theorem Inv.made (I:Inv X Io σ H s):Inv X Io σ (upd (upd H s.heap.objs.size (.own (s.heap.objs.size+1))) (s.heap.objs.size+1) (.ins C s.heap.objs.size []))
  {s with heap:=(s.heap.push emptyDict).push (instObj C s.heap.objs.size)}:=by
 have e1:(s.heap.push emptyDict).get? s.heap.objs.size=some emptyDict:=BY s.heap rfl;have e2:((s.heap.push emptyDict).push (instObj C s.heap.objs.size)).get? (s.heap.objs.size+1)=some (instObj C s.heap.objs.size):=by
  have:=BY (s.heap.push emptyDict) (o:=instObj C s.heap.objs.size) rfl
  rwa [Fy] at this
 have e3:(s.heap.push emptyDict).Ns s.heap.objs.size (λ _=>none):=⟨emptyDict,#[],_,e1,rfl,(λ e he=>absurd he Z6),λ _=>rfl⟩;have I1:=I.laid (a:=s.heap.objs.size) (o:=.own (s.heap.objs.size+1)) (h':=s.heap.push emptyDict) (t':=s.toks) (λ b u q=>Bi _ q) (Bh _) ⟨_,e1⟩;refine I1.laid (a:=s.heap.objs.size+1) (o:=.ins C s.heap.objs.size []) (t':=s.toks) (λ b u q=>Bi _ q) (Bz (Fy _ _)) ?_;have ne:s.heap.objs.size≠s.heap.objs.size+1:=Ci (FK _);refine⟨by rw [upd_ne ne,ac],BX _,ne,e2,λ _=>none,(Heap.Ns1.of_empty e3).at λ o q=>Bi _ q,λ _=>True.intro,λ y hy=>absurd rfl hy⟩
theorem attr_of {prog:Ie}{env:Env}{pos:Pos}{Q:Ib->Ic->Prop}(hb:attributeBase e f env (eval e env)=eval e env)
  (h:wpAny (model prog w) A (eval e env) (λ o s₁=>wpAny (model prog w) A (getAttr o f true) Q E s₁) E s):wpAny (model prog w) A (eval (.Attribute e f pos) env) Q E s:=
 Attribute_any_ h (by rw [arm_eval_Attribute,hb])
end
def Ax (K:Frag)(ta:TE)(f:Str):TE:=λ σ H Q=>ta σ H λ x H1=>∃a C dx fs v,x=.ref a/\H1 a=some (.ins C dx fs)/\Cls K C/\NoAttr K C f/\fs.lookup f=some v/\Q v H1
def AD (K:Frag)(ta tv:TE)(f:Str):TS:=λ D σ H=>tv σ H λ y H1=>ta σ H1 λ x H2=>∃a C dx fs,x=.ref a/\H2 a=some (.ins C dx fs)/\Cls K C/\NoAttr K C f/\fs.length<1000/\
 D.nx σ (upd H2 a (.ins C dx (putF f y fs)))
section
variable {X:Cx}{o e value:Ik}{f:Str}{pos pos' tpos:Pos}{ta tv:TE}
theorem aN (he:PE X e ta)(hb:attributeBase e f X.env (eval e X.env)=eval e X.env):PE X (.Attribute e f pos) (Ax X.K ta f):=by
 intro Io s σ H Q I h;refine attr_of hb (thn (he Io s σ H _ I h) λ u s1 z9=>?_);obtain⟨x,H1,I1,rx,a,C,dx,fs,v,ex,ea,c,n,l,q⟩:=z9;subst ex;obtain rfl:u=Value.ref a:=rx;exact oo I1 ea c n l λ u' s2 I2 ru=>⟨v,H1,I2,ru,q⟩
theorem aU (ha:PE X o ta)(hv:PE X value tv)(hs:swapsWith value (some (.Attribute o f pos')) pos.line X.env=pure false):PS X (.Assign [.Attribute o f pos'] value pos) (AD X.K ta tv f):=by
 intro Io s σ H D I h;refine plainObj_wpAny_Assign_Attribute (thn (hv Io s σ H _ I h) λ u s1 ⟨y,H1,I1,ry,q⟩=>thn (ha Io s1 σ H1 _ I1 q) λ ov s2 z9=>?_) hs;obtain⟨x,H2,I2,rx,a,C,dx,fs,ex,ea,c,n,l,q2⟩:=z9;subst ex;obtain rfl:ov=Value.ref a:=rx;exact oj I2 ea c n l ry λ s3 I3=>⟨σ,_,I3,q2⟩
end
section
variable {X:Cx}{Io:List (HZ × Il)}{σ:St}{H:Hp}{s:Ic}{A:Ii}{E:Ib -> Ic -> Prop}{Q:Ib -> Ic -> Prop}{c:Ib}{b:Bool}
inductive TyOf (K:Frag) (H:Hp):V->Ib->Prop where
 |non:TyOf K H .non (.type "NoneType")
 |bl (x:Bool):TyOf K H (.bl x) (.type "bool")
 |int (i:Int):TyOf K H (.int i) (.type "int")
 |str (x:Str):TyOf K H (.str x) (.type "str")
 |flt (x:UInt64):TyOf K H (.flt x) (.type "float")
 |lst {a:HZ} {xs:List V} (e:H a=some (.lst xs)):TyOf K H (.ref a) (.type "list")
 |frz {a:HZ} {o:Il} {xs:List V} (e:H a=some (.frz o (.lst xs))):TyOf K H (.ref a) (.type "list")
 |tup {a:HZ} {xs:List V} (e:H a=some (.tup xs)):TyOf K H (.ref a) (.type "tuple")
 |dK {a:HZ} {kvs:List (Key×V)} (e:H a=some (.dK kvs)):TyOf K H (.ref a) (.type "dict")
 |dT {a:HZ} {kvs:List (List Key×V)} (e:H a=some (.dT kvs)):TyOf K H (.ref a) (.type "dict")
 |ins {a C dx:HZ} {fs:List (Str×V)} (e:H a=some (.ins C dx fs)) (cl:Cls K C) (ha:findIn K (.ref C) "__class__"=some (some (.builtin "object.__class__")))
   (hn:specialIn K (.builtin "object.__class__") "__get__"=some (some (.builtin "getset_descriptor.__get__"))) (htk:takesIn K (.builtin "object.__class__")=some true)
   (hm:mroIn K C (.type "object")=some true):TyOf K H (.ref a) (.ref C)
theorem qE {x:V}{t:Ib}(I:Inv X Io σ H s)(rx:RelV x u)(ty:TyOf X.K H x t)(e:kitOne X.K t c=some b)(h:∀tk,Q (.bool b) {s with toks:=tk}):
  wpAny (model X.prog X.w) A (call (.builtin "isinstance") [u,c]) Q E s:=by
 cases ty with
 |non=>cases(show u=Value.none from rx);exact DA PySem.W.kitx_none I.kIn True.intro e (λ z=>nomatch z) h
 |bl y=>cases(show u=Value.bool y from rx);exact DA PySem.W.kitx_bool I.kIn True.intro e (λ z=>nomatch z) h
 |int i=>obtain⟨t,q⟩:=(show∃t,u=Value.int i t from rx);cases q;exact DA PySem.W.kitx_int I.kIn True.intro e (λ z=>nomatch z) h
 |str y=>obtain⟨t,q⟩:=(show∃t,u=Value.str y t from rx);cases q;exact DA PySem.W.kitx_str I.kIn True.intro e (λ z=>nomatch z) h
 |flt y=>obtain⟨t,q⟩:=(show∃t,u=Value.float y t from rx);cases q;exact DA PySem.W.kitx_float I.kIn True.intro e (λ z=>nomatch z) h
 | @lst a xs ea=>
  cases(show u=Value.ref a from rx);obtain⟨_,_,n,_,h1⟩:=(show ObjOk X.prog X.w H s.heap a (.lst xs) from I.hok a _ ea);exact DA kitx_list I.kIn ⟨_,h1,rfl⟩ e (λ z=>nomatch z) h
 | @frz a ob xs ea=>
  cases(show u=Value.ref a from rx);obtain⟨_,_,_,n,_,h1⟩:=(show ObjOk X.prog X.w H s.heap a (.frz ob (.lst xs)) from I.hok a _ ea);exact DA kitx_list I.kIn ⟨_,h1,rfl⟩ e (λ z=>nomatch z) h
 | @tup a xs ea=>
  cases(show u=Value.ref a from rx);obtain⟨_,_,_,p⟩:=(show ObjOk X.prog X.w H s.heap a (.tup xs) from I.hok a _ ea);obtain⟨o,h1,h2,_⟩:=p;exact DA PySem.W.kitx_tuple I.kIn ⟨o,h1,h2⟩ e (λ z=>nomatch z) h
 | @dK a kvs ea=>
  cases(show u=Value.ref a from rx);obtain⟨_,_,vs,_,p⟩:=(show ObjOk X.prog X.w H s.heap a (.dK kvs) from I.hok a _ ea);obtain⟨o,es,ep,h1,h2,_⟩:=p;exact DA kitx_dict I.kIn ⟨o,h1,h2.1⟩ e (λ z=>nomatch z) h
 | @dT a kvs ea=>
  cases(show u=Value.ref a from rx);obtain⟨_,_,xs,_,o,es,ep,h1,h2,_⟩:=(show ObjOk X.prog X.w H s.heap a (.dT kvs) from I.hok a _ ea);exact DA kitx_dict I.kIn ⟨o,h1,h2.1⟩ e (λ z=>nomatch z) h
 | @ins a C dx fs ea cl ha hn htk hm=>
  cases(show u=Value.ref a from rx);obtain⟨mA,O,_⟩:=gG I.hok ea;obtain⟨od,J,_⟩:=O.look;exact DA (PySem.W.kitx_own (cl.get _) cl.hd ha hn htk hm) I.kIn J e (λ z=>nomatch z) h
end
structure Room (k:Nat)(A:Ii):Prop where
 hd:30≤k->A.handled=none
 dp:A.depth+3*k+5<recursionLimit
 un:A.units+16*k+200<cLine
 gd:A.guards=some []
theorem Room.mono (r:Room k A)(h:j≤k):Room j A:=⟨λ z=>r.hd (Ba z h),by have:=r.dp;lia,by have:=r.un;lia,r.gd⟩
theorem Room.deeper (r:Room (k+1) A)(env:Env):Room k (A.deeper env):=
 ⟨λ z=>r.hd (CV z),by have:=r.dp;show A.depth+1+3*k+5<_;lia,by have:=r.un;show A.units+3+16*k+200<_;lia,r.gd⟩
theorem Room.in1 (r:Room (k+1) A):Room k A.in1:=
 ⟨λ z=>r.hd (CV z),by have:=r.dp;show A.depth+3*k+5<_;lia,by have:=r.un;show A.units+1+16*k+200<_;lia,r.gd⟩
theorem oA:(A.under (.builtin "type.__call__" ⟨.ref C::us,kw⟩)).depth=A.depth+1:=by
 first|rfl|simp [Around.under,Code.weight,Code.isCreation,Code.isGuard,Code.isCaller,Code.frames,Code.isFrame,guardIds]
theorem ow:(A.under (.builtin "type.__call__" ⟨.ref C::us,kw⟩)).units=A.units+1:=by
 first|rfl|simp [Around.under,Code.cUnits,Code.frames,Code.isFrame]
theorem make_guards:(A.under (.builtin "type.__call__" ⟨.ref C::us,kw⟩)).guards=A.guards:=by
 first|rfl|simp [Around.under,Code.guards,Code.isGuard,guardIds,pushGuards]
theorem Room.make (r:Room (k+1) A)(C:HZ)(us:List Ib)(kw:List (Str×Ib)):Room k (A.under (.builtin "type.__call__" ⟨.ref C::us,kw⟩)):=
 ⟨λ z=>r.hd (CV z),by have:=r.dp;rw [oA];lia,by have:=r.un;rw [ow];lia,make_guards.trans r.gd⟩
theorem Room.depth (r:Room k A):A.depth<recursionLimit:=by have:=r.dp;lia
theorem Room.units (r:Room k A):A.units+64<cLine:=by have:=r.un;lia
theorem Room.units0 (r:Room k A):A.units<cLine:=by have:=r.un;lia
def gv:TA:=λ _ H Q=>Q [] H
def eh (ta:TE)(tr:TA):TA:=λ σ H Q=>ta σ H λ x H1=>tr σ H1 λ xs H2=>Q (x::xs) H2
section
variable {X:Cx}{e:Ik}{es:List Ik}{te:TE}{t:TA}{pos:Pos}
theorem ae:PA X [] gv:=λ _ _ _ _ H Q I h=>Calls.spliced_nil ⟨[],H,I,.nil,h⟩
theorem aa (ha:PE X e te)(hr:PA X es t)(hs:autoParam (starEach (e::es) X.env=(false,eval e X.env)::starEach es X.env) Z0):PA X (e::es) (eh te t):=by
 intro pos Io s σ H Q I h;rw [hs];show wpAny _ _ (spliced ((false,eval e X.env)::backTo pos (starEach es X.env))) _ _ s;refine Calls.spliced_cons (thn (ha Io s σ H _ I h) λ u s1 z9=>?_);obtain⟨x,H1,I1,r1,q1⟩:=z9;exact thn (hr pos Io s1 σ H1 _ I1 q1) λ us s2 z9=>by obtain⟨xs,H2,I2,r2,q2⟩:=z9;exact⟨x::xs,H2,I2,.cons r1 r2,q2⟩
def yo (t:TA):TE:=λ σ H Q=>t σ H λ xs H1=>xs.length≤sizeLine/\∀p,H1 p=none->Q (.ref p) (upd H1 p (.tup xs))
def uV (t:TA):TE:=λ σ H Q=>t σ H λ xs H1=>xs.length≤sizeLine/\∀p,H1 p=none->Q (.ref p) (upd H1 p (.lst xs))
theorem bL {x1}(h:PA X es t):PE X (.Tuple es x1 pos) (yo t):=by
 intro Io s σ H Q I hq;refine wpAny_Tuple_spliced (thn (h pos Io s σ H _ I hq) λ us s1 ⟨xs,H1,I1,r,z,q⟩=>⟨by rw [<-r.length];exact z,?_⟩);have hf:H1 s1.heap.objs.size=none:=I1.hok.fresh (Bh _);refine⟨.ref s1.heap.objs.size,upd H1 s1.heap.objs.size (.tup xs),I1.laid (t':=s1.toks) (λ b u e=>Bi _ e) (Bh _) ?_,rfl,q _ hf⟩;exact⟨z,us,r,⟨_,BY _ rfl,rfl,_,rfl⟩⟩
theorem aE (h:PA X es t):PE X (.List es pos) (uV t):=by
 intro Io s σ H Q I hq;refine wpAny_List_spliced (thn (h pos Io s σ H _ I hq) λ us s1 ⟨xs,H1,I1,r,z,q⟩=>⟨by rw [<-r.length];exact z,?_⟩);have hf:H1 s1.heap.objs.size=none:=I1.hok.fresh (Bh _);refine⟨.ref s1.heap.objs.size,upd H1 s1.heap.objs.size (.lst xs),I1.laid (t':=s1.toks) (λ b u e=>Bi _ e) (Bh _) ?_,rfl,q _ hf⟩;exact⟨z,us,0,r,BY _ rfl⟩
end
abbrev Sp:=List V->Hp->VK->XK->Prop
abbrev CXT:=List Env->Hp->Ic->XK->Ib->Ic->Prop
structure Env0 (P:Ie)(w:Ig)(K:Frag)(mg:Str->Option Ib)(base:Ij)(A:Ii)(outer:List Env)(s:Ic)(H:Hp):Prop where
 frames:A.frames=some outer
 mod:Mod K mg base
 bs:∀b o,base.get? b=some o->s.heap.get? b=some o/\H b=none
 bsz:base.objs.size≤s.heap.objs.size
 funs:s.heap.FunFrames base outer
 frf:∀b∈frs outer,H b=none
 hok:HOk P w H s.heap
 bare:AllBare s.gens
 qt:Qt A H
def CE (outer:List Env)(P:Ie)(w:Ig)(H:Hp)(s:Ic)(Q:VK)(u:Ib)(s':Ic):Prop:=
 ∃v H',s'.os=s.os/\AllBare s'.gens/\Un (frs outer) [] H H' s.heap s'.heap/\HOk P w H' s'.heap/\RelV v u/\Q v H'
def CR (CX:CXT)(outer:List Env)(P:Ie)(w:Ig)(H:Hp)(s:Ic)(Q:VK)(E:XK)(r:Result)(s':Ic):Prop:=
 match r with
 | .ok (.ret u)=>CE outer P w H s Q u s'
 | .ok _=>False
 | .error e=>CX outer H s E e s'
structure FnOk (P:Ie)(w:Ig)(K:Frag)(mg:Str->Option Ib)(base:Ij)(CX:CXT)(k:Nat)(f:HZ)(fd:Ih)(ps:List Str)(sp:Sp):Prop where
 len:∀vs H Q E,sp vs H Q E->vs.length=ps.length
 run:∀(A:Ii) (outer:List Env) (s:Ic) (H:Hp) (args:Args) (us:List Ib) (vs:List V) (Q:VK) (E:XK),Room k A->Env0 P w K mg base A outer s H->BindsTo s fd args (ps.zip us)->Vals vs us->sp vs H Q E->
  codeAny (model P w) A (.call (.ref f) args) (CR CX outer P w H s Q E) s
theorem FnOk.mono {sp:Sp}(F:FnOk P w K mg base CX j f fd ps sp)(h:j≤k):
  FnOk P w K mg base CX k f fd ps sp:=⟨F.len,λ A outer s H args us vs Q E hr=>F.run A outer s H args us vs Q E (hr.mono h)⟩
theorem Env0.make (e:Env0 P w K mg base A outer s H)(C:HZ)(us:List Ib)(kw:List (Str×Ib)):
  Env0 P w K mg base (A.under (.builtin "type.__call__" ⟨.ref C::us,kw⟩)) outer s H:=⟨by first|exact e.frames|(simpa [Around.under,Code.envs,Code.isFrame,pushEnvs] using e.frames),e.mod,e.bs,e.bsz,e.funs,e.frf,e.hok,e.bare,e.qt⟩
theorem Env0.in1 (e:Env0 P w K mg base A outer s H):
  Env0 P w K mg base A.in1 outer s H:=⟨e.frames,e.mod,e.bs,e.bsz,e.funs,e.frf,e.hok,e.bare,e.qt⟩
section
variable {X:Cx}{Io:List (HZ × Il)}{σ:St}{H:Hp}{s s':Ic}
theorem Inv.env0 (I:Inv X Io σ H s):Env0 X.prog X.w X.K X.mg X.base X.A X.stack s H:=
 ⟨I.ok.frames,I.ok.mod,I.bs,Ba I.ok.bsz I.sz,I.stack,I.stkFree,I.hok,I.bare,I.qt⟩
theorem Inv.after {Q:VK}(I:Inv X Io σ H s)(h:CE X.stack X.prog X.w H s Q u s'):EP X Io σ Q u s':=by
 obtain⟨v,H',os,bare,un,hok,r,q⟩:=h;obtain⟨hh,g,d,t,os'⟩:=s';obtain rfl:os'=s.os:=os;exact⟨v,H',I.call (h':=hh) (g':=g) (d':=d) (t':=t) (ch:=[]) un hok bare (λ b z=>absurd z Z6),r,q⟩
end
def sF (sp:Sp)(dvs:List V)(E:XK)(t:TA):TE:=λ σ H Q=>t σ H λ vs H1=>sp (vs++dvs) H1 Q E
def o8 (C:HZ)(m:Str)(sp:Sp)(dvs:List V)(E:XK)(ta:TE)(t:TA):TE:=λ σ H Q=>ta σ H λ x H1=>∃a dx fs,x=.ref a/\H1 a=some (.ins C dx fs)/\fs.lookup m=none/\
 t σ H1 λ vs H2=>sp (x::(vs++dvs)) H2 Q E
def xj (C:HZ)(sp:Sp)(dvs:List V)(E:XK)(t:TA):TE:=λ σ H Q=>t σ H λ vs H1=>∀x dx,H1 x=none->H1 dx=none->dx≠x->
 sp (.ref x::(vs++dvs)) (upd (upd H1 dx (.own x)) x (.ins C dx [])) (λ v H2=>v=.non/\Q (.ref x) H2) E
def Binds (K:Frag)(fd:Ih)(ps:List Str)(ds:List Ib):Prop:=
 ∀(s:Ic) (us:List Ib),K.In s.heap->(us++ds).length=ps.length->BindsTo s fd ⟨us,[]⟩ (ps.zip (us++ds))
theorem Binds.all (h:∀us:List Ib,us.length=ps.length->bindArgs fd ⟨us,[]⟩=pure (ps.zip us)):Binds K fd ps []:=λ s us _ hl=>by
 rw [Ct] at hl ⊢;exact .of_eq (h us hl)
def cF (CX:CXT)(X:Cx)(E:XK):Prop:=∀(Io:List (HZ×Il)) (σ:St) (H:Hp) (s:Ic) (e:Ib) (s':Ic),Inv X Io σ H s->CX X.stack H s E e s'->X.xe e s'
section
variable {X:Cx}{CX:CXT}{k:Nat}{f C:HZ}{fd:Ih}{ps:List Str}{sp:Sp}{dvs:List V}{ds:List Ib}{E:XK}{x m:Str}{p pos apos:Pos}{e o:Ik}{es:List Ik}{ta:TE}{t:TA}
theorem run_fn {Q:VK}(F:FnOk X.prog X.w X.K X.mg X.base CX k f fd ps sp)(hr:Room k X.A)(hb:Binds X.K fd ps ds)(hd:Vals dvs ds)(hx:cF CX X E)
  (I:Inv X Io σ H s) (r:Vals vs us) (h:sp (vs++dvs) H Q E):wpAny (model X.prog X.w) X.A (call (.ref f) us) (EP X Io σ Q) X.xe s:=by
 have r2:Vals (vs++dvs) (us++ds):=r.append hd;have hl:(us++ds).length=ps.length:=by rw [<-r2.length];exact F.len _ _ _ _ h
 refine Gp (Gu (F.run X.A X.stack s H ⟨us,[]⟩ (us++ds) (vs++dvs) Q E hr I.env0 (hb s us I.kIn hl) r2 h) λ r s' hq=>?_);cases r with
 |error e=>exact hx Io σ H s e s' I hq
 |ok fl=>
  cases fl with
  |ret u=>exact I.after hq
  |next=>exact False.elim hq
  |brk=>exact False.elim hq
  |cont=>exact False.elim hq
theorem aq (F:FnOk X.prog X.w X.K X.mg X.base CX k f fd ps sp)(hr:Room k X.A)(hg:Gl X x)(hm:X.mg x=some (.ref f))(hk:keepIn X.K (.ref f)=true)(hb:Binds X.K fd ps ds)(hd:Vals dvs ds)(hx:cF CX X E)
  (ha:PA X (e::es) t) (hdb:autoParam ((x==("__debug__":Str))=false) ZZ) (he:autoParam (starEach (e::es) X.env=(false,eval e X.env)::starEach es X.env) Z0) (hpl:autoParam ((backTo pos (starEach es X.env)).any (·.1)=false) Z0):
  PE X (.Call (.Name x p) (e::es) [] pos) (sF sp dvs E t):=by
 intro Io s σ H Q I h;refine DJ (ld_glob I hg hm ?_ hdb);refine Fg (h₀:=X.base) I.ok.mod.kin hk (thn (ha pos Io s σ H _ I h) λ us s1 ⟨vs,H1,I1,r,q⟩=>⟨I1.kIn,?_⟩) he hpl;exact run_fn F hr hb hd hx I1 r q
theorem rN (F:FnOk X.prog X.w X.K X.mg X.base CX k f fd ps sp)(hr:Room k X.A)(hg:Gl X x)(hm:X.mg x=some (.ref f))(hk:keepIn X.K (.ref f)=true)(hb:Binds X.K fd ps ds)(hd:Vals dvs ds)(hx:cF CX X E)
  (hdb:autoParam ((x==("__debug__":Str))=false) ZZ):PE X (.Call (.Name x p) [] [] pos) (sF sp dvs E gv):=by
 intro Io s σ H Q I h;refine DJ (ld_glob I hg hm ?_ hdb);exact Et I.kIn hk (run_fn (us:=[]) F hr hb hd hx I .nil h)
theorem aV {pl:Sem Bool}(he:PE X o ta)(c:Cls X.K C)(hm:Meth X.K C m f)(F:FnOk X.prog X.w X.K X.mg X.base CX k f fd ps sp)(hr:Room k X.A)(hb:Binds X.K fd ps ds)(hd:Vals dvs ds)(hx:cF CX X E)(ha:PA X (e::es) t)
    (hst:autoParam (starEach (e::es) X.env=(false,eval e X.env)::starEach es X.env) Z0) (hpl:autoParam ((backTo pos (starEach es X.env)).any (·.1)=false) Z0)
    (ht:autoParam (eval (.Call (.Attribute o m apos) (e::es) [] pos) X.env=(do
      let ov<-eval o X.env
      standAt apos.atName
      let(f,first)<-holding [ov] (getMethod ov m pl)
      callWith pos f first (backTo pos (starEach (e::es) X.env)) (backToKw pos (keywordEach [] X.env)))) Z0):
    PE X (.Call (.Attribute o m apos) (e::es) [] pos) (o8 C m sp dvs E ta t):=by
  intro Io s σ H Q I h
  refine Ea (pl:=pl) (thn (he Io s σ H _ I h) λ u s1 z9=>?_) ht
  obtain⟨x,H1,I1,rx,a,dx,fs,ex,ea,l,q⟩:=z9
  subst ex
  obtain rfl:u=Value.ref a:=rx
  refine cb I1 ea c hm l ?_
  refine Fg (first:=[.ref a]) (h₀:=X.base) I.ok.mod.kin hm.kp (thn (ha pos Io s1 σ H1 _ I1 q) λ us s2 ⟨vs,H2,I2,r,q2⟩=>⟨I2.kIn,?_⟩) hst hpl
  exact run_fn (us:=.ref a::us) (vs:=.ref a::vs) F hr hb hd hx I2 (.cons rfl r) q2
theorem a8 {pl:Sem Bool}(he:PE X o ta)(c:Cls X.K C)(hm:Meth X.K C m f)(F:FnOk X.prog X.w X.K X.mg X.base CX k f fd ps sp)(hr:Room k X.A)(hb:Binds X.K fd ps ds)(hd:Vals dvs ds)(hx:cF CX X E)
    (ht:autoParam (eval (.Call (.Attribute o m apos) [] [] pos) X.env=(do
      let ov<-eval o X.env
      standAt apos.atName
      let(f,first)<-holding [ov] (getMethod ov m pl)
      callWith pos f first (backTo pos (starEach [] X.env)) (backToKw pos (keywordEach [] X.env)))) Z0):
    PE X (.Call (.Attribute o m apos) [] [] pos) (o8 C m sp dvs E ta gv):=by
  intro Io s σ H Q I h
  refine Ea (pl:=pl) (thn (he Io s σ H _ I h) λ u s1 z9=>?_) ht
  obtain⟨x,H1,I1,rx,a,dx,fs,ex,ea,l,q⟩:=z9
  subst ex
  obtain rfl:u=Value.ref a:=rx
  refine cb I1 ea c hm l ?_
  exact Et (first:=[.ref a]) I1.kIn hm.kp (run_fn (us:=[.ref a]) (vs:=[.ref a]) F hr hb hd hx I1 (.cons rfl .nil) q)
structure Mk (K:Frag)(C f:HZ):Prop where
 makes:makesIn K C=true
 init:findIn K (.ref C) "__init__"=some (some (.ref f))
 fn:isFn K (.ref f)=true
 kp:keepIn K (.ref C)=true
theorem run_make {Q:VK}(M:Mk X.K C f)(F:FnOk X.prog X.w X.K X.mg X.base CX k f fd ps sp)(hr:Room (k+1) X.A)(hb:Binds X.K fd ps ds)(hd:Vals dvs ds)
  (hx:cF CX X E) (I:Inv X Io σ H s) (r:Vals vs us)
  (h:∀x dx,H x=none->H dx=none->dx≠x->sp (.ref x::(vs++dvs)) (upd (upd H dx (.own x)) x (.ins C dx [])) (λ v H2=>v=.non/\Q (.ref x) H2) E):
  wpAny (model X.prog X.w) X.A (call (.ref C) us) (EP X Io σ Q) X.xe s:=by
 have hq:=h (s.heap.objs.size+1) s.heap.objs.size (I.hok.fresh (Es _)) (I.hok.fresh (Bh _)) (Ci (FK _));have I2:=Inv.made (C:=C) I;have r2:Vals (V.ref (s.heap.objs.size+1)::(vs++dvs)) (Value.ref (s.heap.objs.size+1)::(us++ds)):=.cons rfl (r.append hd);have hl:(Value.ref (s.heap.objs.size+1)::us++ds).length=ps.length:=by
  have e:=r2.length;rw [F.len _ _ _ _ hq] at e;exact e.symm
 refine Gp (uC (f:=f) I.kIn M.makes M.init (B9.mp M.fn) (Gu (F.run _ X.stack _ _ ⟨Value.ref (s.heap.objs.size+1)::us,[]⟩ (Value.ref (s.heap.objs.size+1)::(us++ds)) _ _ E (hr.make C us [])
  (I2.env0.make C us []) (hb _ (Value.ref (s.heap.objs.size+1)::us) I2.kIn hl) r2 hq) λ r s' hq'=>?_))
 cases r with
 |error e=>exact hx Io σ _ _ e s' I2 hq'
 |ok fl=>
  cases fl with
  |ret u=>
   obtain⟨v,H',I3,rv,ev,q3⟩:=I2.after hq';subst ev;exact⟨rv,⟨V.ref (s.heap.objs.size+1),H',I3,rfl,q3⟩⟩
  |next=>exact False.elim hq'
  |brk=>exact False.elim hq'
  |cont=>exact False.elim hq'
theorem pD (M:Mk X.K C f)(F:FnOk X.prog X.w X.K X.mg X.base CX k f fd ps sp)(hr:Room (k+1) X.A)(hg:Gl X x)(hm:X.mg x=some (.ref C))(hb:Binds X.K fd ps ds)(hd:Vals dvs ds)(hx:cF CX X E)
  (ha:PA X (e::es) t) (hdb:autoParam ((x==("__debug__":Str))=false) ZZ) (he:autoParam (starEach (e::es) X.env=(false,eval e X.env)::starEach es X.env) Z0) (hpl:autoParam ((backTo pos (starEach es X.env)).any (·.1)=false) Z0):
  PE X (.Call (.Name x p) (e::es) [] pos) (xj C sp dvs E t):=by
 intro Io s σ H Q I h;refine DJ (ld_glob I hg hm ?_ hdb);refine Fg (h₀:=X.base) I.ok.mod.kin M.kp (thn (ha pos Io s σ H _ I h) λ us s1 ⟨vs,H1,I1,r,q⟩=>⟨I1.kIn,?_⟩) he hpl;exact run_make M F hr hb hd hx I1 r q
theorem cA (M:Mk X.K C f)(F:FnOk X.prog X.w X.K X.mg X.base CX k f fd ps sp)(hr:Room (k+1) X.A)(hg:Gl X x)(hm:X.mg x=some (.ref C))(hb:Binds X.K fd ps ds)(hd:Vals dvs ds)(hx:cF CX X E)
  (hdb:autoParam ((x==("__debug__":Str))=false) ZZ):PE X (.Call (.Name x p) [] [] pos) (xj C sp dvs E gv):=by
 intro Io s σ H Q I h;refine DJ (ld_glob I hg hm ?_ hdb);exact Et I.kIn M.kp (run_make (us:=[]) M F hr hb hd hx I .nil h)
end
section
variable {X:Cx}{CX:CXT}{k:Nat}{f C:HZ}{fd:Ih}{ps ks:List Str}{sp:Sp}{E:XK}{x m:Str}{p pos apos kpos:Pos}{e o:Ik}{es:List Ik}{kws:List Keyword}{te ta:TE}{t tk:TA}{nm:Option Str}
variable {g:List Ib -> List Ib -> List Ib}{gV:List V -> List V -> List V}
end
structure FnScope (N P:List Str)(sc:Scope):Prop where
 kind:sc.kind=.function
 co:sc.isCoroutine=false
 gen:sc.isGenerator=false
 nd:N.Nodup
 pre:N.take P.length=P
 par:∀x∈P,sc.names.lookup x=some .local\/sc.names.lookup x=some .cell
 nofree:∀y∈sc.names,y.2≠ .free
def scB (N P:List Str)(c:Scope):Bool:=decide (c.kind=.function)&& !c.isCoroutine&& !c.isGenerator&&decide N.Nodup&&decide (N.take P.length=P)&&P.all (λ x=>decide (c.names.lookup x=some .local\/c.names.lookup x=some .cell))&&c.names.all λ y=>decide (y.2≠.free)
theorem scK {P:List Str}{c:Scope}(h:scB N P c=true):FnScope N P c:=by
 simp only [scB,Bool.and_eq_true,decide_eq_true_eq,HA,List.all_eq_true] at h;obtain⟨⟨⟨⟨⟨⟨a,b⟩,d⟩,e⟩,f⟩,g⟩,i⟩:=h;exact⟨a,b,d,e,f,g,i⟩
theorem jl:∀{binds:List (Str×Ib)} {m:Str->Option Ib},(∀v,(x,v)∉binds)->bindL kindOf binds m x=m x
 | [],_,_=>rfl
 |(n,v)::r,m,h=>by
  unfold bindL;rw [jl λ w hw=>h w (Bw _ hw)]
  split
  ·have:x≠n:=by rintro rfl;exact h v BF
   simp [this]
  ·rfl
theorem jA:∀{binds:List (Str×Ib)} {m:Str->Option Ib},(∀v,(x,v)∉binds)->bindC kindOf binds m x=m x
 | [],_,_=>rfl
 |(n,v)::r,m,h=>by
  unfold bindC;rw [jA λ w hw=>h w (Bw _ hw)]
  split
  ·rfl
  ·have:x≠n:=by rintro rfl;exact h v BF
   simp [this]
theorem jb {v:Ib}:∀{P:List Str} {vs:List Ib} {i:Nat} {m:Str->Option Ib},P.Nodup->P[i]?=some x->vs[i]?=some v->kindOf x=some .local->
  bindL kindOf (P.zip vs) m x=some v
 | [],_,_,_,_,h,_,_=>by simp at h
 |_::_,[],_,_,_,_,h,_=>by simp at h
 |p::P,w::vs,0,m,nd,h1,h2,hk=>by
  simp at h1 h2;subst h1;subst h2;show bindL kindOf ((p,w)::P.zip vs) m p=_;unfold bindL;rw [jl λ v hv=>(F9.mp nd).1 (F3 hv).1,BM hk];simp
 |p::P,w::vs,i+1,m,nd,h1,h2,hk=>by
  show bindL kindOf ((p,w)::P.zip vs) m x=_;unfold bindL;exact jb (i:=i) (F9.mp nd).2 (by simpa using h1) (by simpa using h2) hk
theorem jy {v:Ib}:∀{P:List Str} {vs:List Ib} {i:Nat} {m:Str->Option Ib},P.Nodup->P[i]?=some x->vs[i]?=some v->kindOf x≠some .local->
  bindC kindOf (P.zip vs) m x=some v
 | [],_,_,_,_,h,_,_=>by simp at h
 |_::_,[],_,_,_,_,h,_=>by simp at h
 |p::P,w::vs,0,m,nd,h1,h2,hk=>by
  simp at h1 h2;subst h1;subst h2;show bindC kindOf ((p,w)::P.zip vs) m p=_;unfold bindC;rw [jA λ v hv=>(F9.mp nd).1 (F3 hv).1,Bu hk];simp
 |p::P,w::vs,i+1,m,nd,h1,h2,hk=>by
  show bindC kindOf ((p,w)::P.zip vs) m x=_;unfold bindC;exact jy (i:=i) (F9.mp nd).2 (by simpa using h1) (by simpa using h2) hk
noncomputable def start (N:List Str) (vs:List V):St:=vs.map some++List.replicate (N.length-vs.length) none
noncomputable def cxOf (CX:CXT) (P:Ie) (w:Ig) (K:Frag) (mg:Str->Option Ib) (base:Ij) (N:List Str) (qual:Str) (scope:Scope) (f:HZ) (cd:Ib) (A:Ii) (outer:List Env) (s:Ic) (H:Hp) (E:XK):Cx where
 prog:=P
 w:=w
 K:=K
 mg:=mg
 base:=base
 A:=A.deeper (envOfC qual scope s.heap.objs.size f cd)
 N:=N
 s₀:=s
 H₀:=H
 env:=envOfC qual scope s.heap.objs.size f cd
 outer:=outer
 stack:=envOfC qual scope s.heap.objs.size f cd::outer
 ex:=[]
 calm:=true
 fn:=λ _=>true
 pn:=[]
 xe:=λ e s'=>wpAny (model P w) (A.deeper (envOfC qual scope s.heap.objs.size f cd)) (leaving (envOfC qual scope s.heap.objs.size f cd) e) (λ _ s''=>CX outer H s E e s'') (λ e' s''=>CX outer H s E e' s'') s'
theorem kW {sc:Scope}(h:sc.names.lookup x=some .cell):∃c,(cellsFrom n sc.names []).lookup x=some c:=by
 have q:=Gj sc.names n [] (.inl h);exact Option.isSome_iff_exists.mp q
theorem ji {cd:Ib}{s1:Ic}{E:XK}
  (S:FnScope N ps scope) (e0:Env0 P w K mg base A outer s H) (hl:vs.length=ps.length) (r:Vals vs us)
  (x:InCallC s s.heap.objs.size (bindL (envOfC qual scope s.heap.objs.size f cd).kindOf (ps.zip us) λ _=>none) (cellsFrom (s.heap.objs.size+1) scope.names []) (bindC (envOfC qual scope s.heap.objs.size f cd).kindOf (ps.zip us) λ _=>none) s1):
  Inv (cxOf CX P w K mg base N qual scope f cd A outer s H E) [] (start N vs) H s1:=by
 have hpl:ps.length≤N.length:=by have:=congrArg List.length S.pre;rw [Bv] at this;lia
 obtain⟨h1,tk,rfl,hk⟩:=x.done;have noA:∀b:HZ,b∉(cxOf CX P w K mg base N qual scope f cd A outer s H E).ex:=λ b z=>absurd (show b∈([]:List HZ) from z) Z6
 refine⟨⟨e0.mod,S.kind,rfl,rfl,Bh _,λ y z c h1 h2=>?_,λ y hy=>?_,λ y c _ h=>?_,e0.qt,Around.frames_deeper e0.frames,.inr ⟨rfl,rfl⟩,λ b z=>absurd z (noA b),e0.bs,e0.bsz,λ b _ _=>noA b,λ b z=>absurd z (noA b),e0.funs,e0.frf⟩,
  rfl,e0.bare,Un.kept hk,⟨_,x.toInCall.ns,λ i y v h1 h2 h3=>?_⟩,λ y c h=>⟨_,x.cell y c h⟩,e0.hok.fresh (Bh _),λ y c h=>?_,λ p hp=>absurd (show p∈([]:List (HZ×Il)) from hp) Z6,e0.hok.kept hk,?_⟩
 ·exact name_of_addr x.apart (Dd h1) (Dd h2)
 ·have hy:scope.names.lookup y=some .cell\/scope.names.lookup y=some .free:=hy;rcases hy with hy|hy
  ·exact kW hy
  ·exact absurd rfl (S.nofree _ (Dd hy))
 ·exact B7 (x.above y c (Dd h))
 ·have hi:i<vs.length:=by
   unfold start at h2;by_cases hi:i<vs.length
   ·exact hi
   ·rw [BJ (by simpa using hi)] at h2;rw [EV] at h2
    split at h2<;>cases h2
  have ha:vs[i]?=some v:=by
   unfold start at h2;rw [Cg (by simpa using hi),B4] at h2;cases e:vs[i]? with
   |none=>rw [e] at h2;cases h2
   |some a=>rw [e] at h2;cases h2;rfl
  obtain⟨u,hu,rv⟩:=r.get ha;have hp:ps[i]?=some y:=by
   rw [<-S.pre,List.getElem?_take_of_lt (Bn hi hl)];exact h1
  have ndP:ps.Nodup:=by rw [<-S.pre];exact S.nd.sublist (Fq _ _)
  refine⟨u,rv,?_⟩;rcases S.par y (Cm hp) with k|k
  ·exact .inl ⟨k,jb ndP hp hu k⟩
  ·obtain⟨c,e⟩:=kW (n:=s.heap.objs.size+1) k;refine .inr ⟨.inl k,c,e,?_⟩;have q:=x.cell y c e;rw [jy ndP hp hu (by show scope.names.lookup y≠_;rw [k];decide)] at q;exact q
 ·exact e0.hok.fresh (B7 (x.above y c (Dd h)))
 ·unfold start;show _=N.length;rw [Bb,A9,C6];lia
theorem oC {name:Str}{params:Arguments}{dV kV doc pm Iq ct oc:Ib}{an od:Option HZ}
  {osl:Array (Option Ib)} {N ps:List Str} {sp:Sp} (lk:K.lookup f=some ⟨oc,od,.func (fnOf name qual params body scope dV kV doc pm an Iq ct),osl⟩) (hcd:codeIn K Iq qual=true) (S:FnScope N ps scope)
  (len:∀vs H Q E,sp vs H Q E->vs.length=ps.length)
  (hbody:∀(A:Ii) (outer:List Env) (s:Ic) (H:Hp) (vs:List V) (Q:VK) (E:XK),Room k (A.deeper (envOfC qual scope s.heap.objs.size f Iq))->sp vs H Q E->
   ∃t,PSs (cxOf CX P w K mg base N qual scope f Iq A outer s H E) body t/\t {nx:=λ _ H'=>Q .non H',rt:=Q} (start N vs) H):
  FnOk P w K mg base CX (k+1) f (fnOf name qual params body scope dV kV doc pm an Iq ct) ps sp:=by
 refine⟨len,λ A outer s H args us vs Q E hr e0 hb r hsp=>?_⟩;have hl:=len _ _ _ _ hsp;have KX:K.In s.heap:=e0.mod.kin.keeps λ b o e=>(e0.bs b o e).1
 have lim:s.heap.NoLimit:=e0.mod.nolimit.keeps λ b o e=>(e0.bs b o e).1
 have hkind:∀y∈ps.zip us,scope.names.lookup y.1=some .local\/(scope.names.lookup y.1=some .cell/\((cellsFrom (s.heap.objs.size+1) scope.names []).lookup y.1).isSome=true):=λ⟨n,v⟩ hy=>by
  rcases S.par n (F3 hy).1 with q|q
  ·exact .inl q
  ·exact .inr ⟨q,Gj _ _ _ (.inl q)⟩
 refine codeAny_call_function hr.depth (KX _ _ lk) rfl S.co S.gen rfl (codeRec_of KX hcd) (hb _ _ _ _ ?_);refine wpAny_newFunctionEnv_cells S.kind hkind λ env he s1 x=>?_
 subst he;refine⟨lim.keeps x.toInCall.keep,codeAny_func ?_⟩;obtain⟨t,ht,hq⟩:=hbody A outer s H vs Q E (hr.deeper _) hsp;have I:Inv (cxOf CX P w K mg base N qual scope f Iq A outer s H E) [] (start N vs) H s1:=ji S e0 hl r x;refine Dj (ht [] s1 (start N vs) H _ I hq) (λ fl s' hs=>?_) λ e s' hs=>hs
 have fin:∀{σ':St} {H':Hp} {v:V} {u:Ib},Inv (cxOf CX P w K mg base N qual scope f Iq A outer s H E) [] σ' H' s'->RelV v u->Q v H'->CE outer P w H s Q u s':=
  λ {σ' H' v u} J rv q=>⟨v,H',J.os,J.bare,J.base,J.hok,rv,q⟩
 cases fl with
 |ret u=>
  obtain⟨v,σ',H',J,rv,q⟩:=hs;exact fin J rv q
 |next=>
  obtain⟨σ',H',J,q⟩:=hs;exact fin (v:=V.non) (u:=Value.none) J rfl q
 |brk=>
  obtain⟨_,_,_,q⟩:=hs;exact False.elim q
 |cont=>
  obtain⟨_,_,_,q⟩:=hs;exact False.elim q
section
variable {X:Cx}{x:Str}{p pos:Pos}{e:Ik}{es:List Ik}{t:TA}{id T:String}{r:List V -> Hp -> VK -> Prop}
def tCB (r:List V->Hp->VK->Prop)(t:TA):TE:=λ σ H Q=>t σ H λ vs H1=>r vs H1 Q
theorem az (hc:dF X (.builtin id) r)(hg:Gl X x)(hm:X.mg x=none)(hv:bootBuiltins x=some (.builtin id))(ha:PA X (e::es) t)(hn:autoParam (x≠ "__name__") ZZ)(hdb:autoParam ((x==("__debug__":Str))=false) ZZ)
  (he:autoParam (starEach (e::es) X.env=(false,eval e X.env)::starEach es X.env) Z0) (hpl:autoParam ((backTo pos (starEach es X.env)).any (·.1)=false) Z0):PE X (.Call (.Name x p) (e::es) [] pos) (tCB r t):=by
 intro Io s σ H Q I h;refine DJ (ld_blt I hg hm hv ?_ hn hdb);exact PyProof.Rows.callWith_builtin1 (thn (ha pos Io s σ H _ I h) λ us s1 z9=>by obtain⟨vs,H1,I1,r1,q1⟩:=z9;exact hc Io s1 σ H1 vs us Q I1 r1 q1) he hpl
theorem bw (hc:dF X (.type T) r)(hg:Gl X x)(hm:X.mg x=none)(hv:bootBuiltins x=some (.type T))(ha:PA X (e::es) t)(hn:autoParam (x≠ "__name__") ZZ)(hdb:autoParam ((x==("__debug__":Str))=false) ZZ)
  (he:autoParam (starEach (e::es) X.env=(false,eval e X.env)::starEach es X.env) Z0) (hpl:autoParam ((backTo pos (starEach es X.env)).any (·.1)=false) Z0):PE X (.Call (.Name x p) (e::es) [] pos) (tCB r t):=by
 intro Io s σ H Q I h;refine DJ (ld_blt I hg hm hv ?_ hn hdb);exact DV (thn (ha pos Io s σ H _ I h) λ us s1 z9=>by obtain⟨vs,H1,I1,r1,q1⟩:=z9;exact hc Io s1 σ H1 vs us Q I1 r1 q1) he hpl
end
end L2
namespace HT
open PySem PyProof.Rows
section
open PySem.SeqAt
open PySem.AutoSeq1 (wpAny_loadPart')
open PySem.MeetsSeq PySem.MeetsSeq2 PySem.MeetsSeq3
end
section
variable {prog:Ie}{w:Ig}{A:Ii}{E:Ib -> Ic -> Prop}{s:Ic}
noncomputable def sIx (n d:Nat):Option Int->Nat
 |none=>d
 |some v=>if v<0 then(v+(n:Int)).toNat else min v.toNat n
theorem sIx_none (n d:Nat):sIx n d none=d:=rfl
theorem sIx_nat (n d k:Nat):sIx n d (some (k:Int))=min k n:=by
 show(if(k:Int)<0 then((k:Int)+(n:Int)).toNat else min (k:Int).toNat n)=min k n;rw [Bu Z5,BO]
end
end HT
namespace L2
open PySem PySem.Spec PyProof.Rows
variable {x:V}{j n t':Nat}{s:Ic}{its its' us:List Ib}{p:HZ}{H:Hp}{xs:List V}{Io:List (HZ×Il)}{σ:St}
abbrev TO:=St->Hp->(Option Int->Hp->Prop)->Prop
def PO (X:Cx)(e:Option Ik)(t:TO):Prop:=
 ∀(Io:List (HZ×Il)) (s:Ic) (σ:St) (H:Hp) (Q:Option Int->Hp->Prop),Inv X Io σ H s->t σ H Q->
  wpAny (model X.prog X.w) X.A (evalPart e X.env) (λ u s'=>∃o H',Inv X Io σ H' s'/\IsPart u o/\Q o H') X.xe s
def wz:TO:=λ _ H Q=>Q none H
def zx (t:TE):TO:=λ σ H Q=>t σ H λ x H1=>∃i,x=.int i/\Q (some i) H1
theorem cg {ns:List Int}:∀{us:List Ib},Vals (ns.map V.int) us->IntsAre us ns:=by
 induction ns with
 |nil=>intro us r;rw [HP] at r;cases r;exact .nil
 |cons n ns ih=>
  intro us r;rw [DE] at r;cases r with
  |cons r1 r2=>
   obtain⟨t,e⟩:=r1;subst e;exact .cons n t (ih r2)
section
variable {X:Cx}{e:Ik}{te:TE}{lo hi:Option Ik}{tl th:TO}{pos p2:Pos}
theorem d7:PO X none wz:=by
 intro Io s σ H Q I h;rw [evalPart_none];exact BH ⟨none,H,I,.none,h⟩
theorem a6 (h:PE X e te):PO X (some e) (zx te):=by
 intro Io s σ H Q I hw;rw [evalPart_some];refine thn (h Io s σ H _ I hw) λ u s1 z9=>?_
 obtain⟨x,H1,I1,r1,q1⟩:=z9;obtain⟨i,rfl,q⟩:=q1;obtain⟨t,rfl⟩:=r1;exact⟨some i,H1,I1,.int i t,q⟩
def SlR (X:Cx)(r:V->Option Int->Option Int->Hp->VK->Prop):Prop:=
 ∀(Io:List (HZ×Il)) (s:Ic) (σ:St) (H:Hp) (x:V) (v vl vu:Ib) (lo hi:Option Int) (sl:HZ) (Q:VK),Inv X Io σ H s->RelV x v->s.heap.IsSliceOf sl vl vu .none->IsPart vl lo->IsPart vu hi->r x lo hi H Q->
  ∃T id,typeLookup (.type T) "__getitem__"=pure (some (.builtin id))/\s.TypeIs v T/\wpAny (model X.prog X.w) X.A (getItem v (.ref sl)) (EP X Io σ Q) X.xe s
def tSl (r:V->Option Int->Option Int->Hp->VK->Prop)(te:TE)(tl th:TO):TE:=λ σ H Q=>te σ H λ x H1=>tl σ H1 λ l H2=>th σ H2 λ u H3=>r x l u H3 Q
theorem bu {r:V->Option Int->Option Int->Hp->VK->Prop}(hr:SlR X r)(he:PE X e te)(hl:PO X lo tl)(hu:PO X hi th):PE X (.Subscript e (.Slice lo hi none p2) pos) (tSl r te tl th):=by
 intro Io s σ H Q I h;refine Subscript_ (thn (he Io s σ H _ I h) λ v s1 z9=>?_);obtain⟨x,H1,I1,r1,q1⟩:=z9;refine wpAny_Slice (thn (hl Io s1 σ H1 _ I1 q1) λ vl s2 ⟨l,H2,I2,pl,q2⟩=>thn (hu Io s2 σ H2 _ I2 q2) λ vu s3 z9=>?_);obtain⟨u,H3,I3,pu,q3⟩:=z9;rw [evalPart_none];refine BH ?_;have I4:Inv X Io σ H3 {s3 with heap:=s3.heap.push {cls:=.type "slice",data:=.fields #[vl,vu,.none]}}:=I3.kept (t':=s3.toks) λ b ob q=>Bi _ q
 obtain⟨T,id,hT,ht,hg⟩:=hr Io {s3 with heap:=s3.heap.push {cls:=.type "slice",data:=.fields #[vl,vu,.none]}} σ H3 x v vl vu l u s3.heap.objs.size Q I4 r1 (Heap.IsSliceOf.new ..) pl pu q3;show wpAny (model X.prog X.w) X.A (subscriptTail e (.Slice lo hi none p2) v (.ref s3.heap.objs.size)) (EP X Io σ Q) X.xe {s3 with heap:=s3.heap.push {cls:=.type "slice",data:=.fields #[vl,vu,.none]}};exact tail_any (ops:=[.ref s3.heap.objs.size,v]) ht hT hg (by with_unfolding_all rfl)
def cutV (xs:List V)(lo hi:Option Int):List V:=(xs.drop (HT.sIx xs.length 0 lo)).take (HT.sIx xs.length xs.length hi-HT.sIx xs.length 0 lo)
theorem kQ (xs:List V)(lo hi:Option Int):(cutV xs lo hi).length≤xs.length:=by
 unfold cutV;rw [Bv,By];exact Ba (Di _ _) (Ek _ _)
end
noncomputable def ixN (n:Nat) (i:Int):Option Nat:=if 0≤i then(if i<n then some i.toNat else none) else if-(n:Int)≤i then some (i+n).toNat else none
noncomputable def atI {α:Type} (xs:List α) (i:Int):Option α:=(ixN xs.length i).bind λ j=>xs[j]?
theorem o4 {i:Int}(h:ixN n i=some j):seqIndex? i n=some j/\j<n/\-(n:Int)≤i/\i<n:=by
 unfold ixN at h;by_cases h0:0≤i
 ·rw [BM h0] at h;by_cases h1:i<n
  ·rw [BM h1] at h;have e:i.toNat=j:=BU h;exact⟨by rw [seqIndex_of h0 h1,e],Z5,Z5,h1⟩
  ·rw [Bu h1] at h;cases h
 ·rw [Bu h0] at h;by_cases h1:-(n:Int)≤i
  ·rw [BM h1] at h;have e:(i+n).toNat=j:=BU h;exact⟨by rw [seqIndex_neg (FL h0) h1,e],Z5,h1,Z5⟩
  ·rw [Bu h1] at h;cases h
theorem oU {α:Type}{xs:List α}{i:Int}{v:α}(h:atI xs i=some v):∃j,seqIndex? i xs.length=some j/\xs[j]?=some v/\j<xs.length/\-(xs.length:Int)≤i/\i<xs.length:=by
 unfold atI at h;cases e:ixN xs.length i with
 |none=>rw [e] at h;cases h
 |some j=>
  rw [e] at h;obtain⟨h1,h2,h3,h4⟩:=o4 e;exact⟨j,h1,h,h2,h3,h4⟩
theorem aB {α:Type}{xs:List α}{v:α}(h:xs[j]?=some v):atI xs (j:Int)=some v:=by
 have hj:j<xs.length:=(Bo.mp h).1;have e:ixN xs.length (j:Int)=some j:=by
  unfold ixN;rw [BM Z5,BM (EC.mpr hj)];simp
 unfold atI;rw [e];exact h
def vV (b:Ik):Prop:=∀o i,subscripted b false o i=operate [o,i] (getItem o i)
def IxR (X:Cx)(r:R2):Prop:=
 ∀(value slice:Ik) (Io:List (HZ×Il)) (s:Ic) (σ:St) (H:Hp) (x y:V) (v u:Ib) (Q:VK),Inv X Io σ H s->RelV x v->RelV y u->r x y H Q->
  subscripted slice false v u=operate [v,u] (getItem v u)->wpAny (model X.prog X.w) X.A (subscriptTail value slice v u) (EP X Io σ Q) X.xe s
def MtR (X:Cx)(id:String)(r:V->List V->Hp->VK->Prop):Prop:=
 ∀(Io:List (HZ×Il)) (s:Ic) (σ:St) (H:Hp) (x:V) (xs:List V) (v:Ib) (us:List Ib) (Q:VK),Inv X Io σ H s->RelV x v->Vals xs us->r x xs H Q->
  wpAny (model X.prog X.w) X.A (call (.builtin id) (v::us)) (EP X Io σ Q) X.xe s
section
variable {X:Cx}{a b:Ik}{ta tb:TE}{pos:Pos}
theorem aM {r:R2}(hr:IxR X r)(ha:PE X a ta)(hb:PE X b tb)(hs:vV b):PE X (.Subscript a b pos) (tOp r ta tb):=by
 intro Io s σ H Q I h;exact Subscript_ (binT ha hb I h λ v u s2 x y H2 I2 rx ry q=>hr a b Io s2 σ H2 x y v u Q I2 rx ry q (hs _ _))
def AQ (K:Frag):R2:=λ x y H Q=>∃p xs i v,x=.ref p/\y=.int i/\SqL K H p xs/\atI xs i=some v/\Q v H
def zh (K:Frag):R2:=λ x y H Q=>∃p xs i v,x=.ref p/\y=.int i/\SqT K H p xs/\atI xs i=some v/\Q v H
theorem aW:IxR X (AQ X.K):=by
 intro value slice Io s σ H x y v u Q I rx ry h hs;obtain⟨p,xs,i,z,rfl,rfl,hq,he,q⟩:=h;cases rx;obtain⟨t,rfl⟩:=ry;obtain⟨its,r,pl,hz⟩:=I.list hq;obtain⟨j,h1,h2,h3,h4,h5⟩:=oU he;obtain⟨w,ew,rw'⟩:=r.get h2;have hl:=r.length;have hn:=jT;have fin:EP X Io σ Q w s:=⟨z,H,I,rw',q⟩;by_cases h0:0≤i
 ·have hj:i.toNat=j:=by
   rw [seqIndex_of h0 h5] at h1;exact BU h1
  exact item_listR pl.isList h0 Z5 (by rw [hj];simpa using ew) fin hs
 ·have hj:(i+(its.toArray.size:Int)).toNat=j:=by
   rw [seqIndex_neg (FL h0) h4] at h1;rw [BC,<-hl];exact BU h1
  exact subscriptTail_builtinR (x:=w) pl.isList.typeIs slot_list_getitem.lookup
   (wpAny_getItem_list_neg (Q:=λ r s'=>r=w/\EP X Io σ Q r s') pl.isList (FL h0) (by rw [BC]<;>exact De (congrArg Neg.neg (congrArg Nat.cast hl.symm)) h4) Z5 (by rw [hj];simpa using ew) ⟨rfl,fin⟩) hs
theorem aZ:IxR X (zh X.K):=by
 intro value slice Io s σ H x y v u Q I rx ry h hs;obtain⟨p,xs,i,z,rfl,rfl,hq,he,q⟩:=h;cases rx;obtain⟨t,rfl⟩:=ry;obtain⟨its,r,pl,hz⟩:=I.tuple hq;obtain⟨j,h1,h2,h3,h4,h5⟩:=oU he;obtain⟨w,ew,rw'⟩:=r.get h2;have hl:=r.length;have hn:=jT;have fin:EP X Io σ Q w s:=⟨z,H,I,rw',q⟩;exact subscriptTail_builtinR (x:=w) pl.typeIs slot_tuple_getitem.lookup
  (getItem_tuple (j:=j) (Q:=λ r s'=>r=w/\EP X Io σ Q r s') pl Z4 Z4 (by rw [BC,<-hl];exact h1) (by simpa using ew) ⟨rfl,fin⟩) hs
theorem m7 (its:List Ib)(n j:Nat)(u:Ib):Obj.mapSeq (·.setIfInBounds j u) {cls:=.type "list",data:=.seq its.toArray n}={cls:=.type "list",data:=.seq (its.set j u).toArray n}:=by
 simp [Obj.mapSeq]
theorem Inv.lst (I:Inv X Io σ H s)(h:H p=some (.lst xs)):
  ∃(its:List Ib) (n:Nat),Vals xs its/\s.heap.get? p=some {cls:=.type "list",data:=.seq its.toArray n}/\xs.length≤sizeLine:=by
 obtain⟨z,its,n,r,e⟩:=I.hok p _ h;exact⟨its,n,r,e,z⟩
theorem Inv.lstUpd {ys:List V}{n':Nat}{f:Il->Il}(I:Inv X Io σ H s)(h:H p=some (.lst xs))
  (ho:s.heap.get? p=some {cls:=.type "list",data:=.seq its.toArray n}) (hf:f {cls:=.type "list",data:=.seq its.toArray n}={cls:=.type "list",data:=.seq its'.toArray n'}) (r:Vals ys its') (hz:ys.length≤sizeLine) (t:Nat):
  Inv X Io σ (upd H p (.lst ys)) {s with heap:=s.heap.update p f,toks:=t}:=by
 have e:(s.heap.update p f).get? p=some {cls:=.type "list",data:=.seq its'.toArray n'}:=by
  rw [D9 f ho (by rw [hf]<;>rfl),hf]
 refine I.write (x:=p) (e:=p) (by rw [h];trivial) (.inl rfl) (λ b u hb q=>(Dg _ _ (Fb hb)).trans q) ⟨_,e⟩ ?_;exact⟨hz,its',n',r,e⟩
def zl:V->V->V->Hp->(Hp->Prop)->Prop:=λ o i v H Q=>∃p xs k j,o=.ref p/\i=.int k/\H p=some (.lst xs)/\ixN xs.length k=some j/\Q (upd H p (.lst (xs.set j v)))
theorem iV:Ae X zl:=by
 intro Io s σ H o i v ov iv u Q I ro ri rv h;obtain⟨p,xs,k,j,rfl,rfl,hp,hj,q⟩:=h;cases ro;obtain⟨t,rfl⟩:=ri;obtain⟨its,n,r,ho,hz⟩:=I.lst hp;obtain⟨h1,h2,h3,h4⟩:=o4 hj;have hl:=r.length;have hn:=jT;have I':Inv X Io σ (upd H p (.lst (xs.set j v))) {s with heap:=s.heap.update p (Obj.mapSeq (·.setIfInBounds j u))}:=
  I.lstUpd hp ho (m7 its n j u) (r.set rv j) (by rw [G5];exact hz) s.toks
 by_cases h0:0≤k
 ·have hk:k.toNat=j:=by
   rw [seqIndex_of h0 h4] at h1;exact BU h1
  exact PySem.W.ki_setAt ho h0 Z4 (by rw [BC,<-hl];exact h4) (by rw [hk];exact⟨_,I',q⟩)
 ·have hk:(k+(its.toArray.size:Int)).toNat=j:=by
   rw [seqIndex_neg (FL h0) h3] at h1;rw [BC,<-hl];exact BU h1
  exact PySem.W.ki_setBack ho (FL h0) (by rw [BC,<-hl];exact h3) Z4 (by rw [hk];exact⟨_,I',q⟩)
theorem sbP {i:Int}(h:¬i<0):max 0 (min i n)=((min i.toNat n:Nat):Int):=by
 obtain⟨k,rfl⟩:=Int.eq_ofNat_of_zero_le (Int.not_lt.1 h);rw [BO,Int.max_eq_right (Int.le_min.2 ⟨BZ _,BZ _⟩)];rcases HV k n with e|e
 ·rw [CA e,Int.min_eq_left (Int.ofNat_le.2 e)]
 ·rw [DD e,Int.min_eq_right (Int.ofNat_le.2 e)]
theorem sbN {i:Int}(h:i<0):max 0 (min (i+n) n)=((i+n).toNat:Int):=by
 rw [Int.min_eq_left (Int.le_trans (Int.add_le_add_right (HW h) n) (Int.le_of_eq (Int.zero_add _))),Int.toNat_eq_max,Int.max_comm]
theorem j7 (lo hi:Option Int)(n:Nat):(sliceBounds lo hi none n).1=((HT.sIx n 0 lo:Nat):Int)/\(sliceBounds lo hi none n).2.1=((HT.sIx n n hi:Nat):Int)/\(sliceBounds lo hi none n).2.2=1:=by
 refine⟨?_,?_,rfl⟩
 ·cases lo with
  |none=>simp [sliceBounds,HT.sIx]
  |some i=>
   simp only [sliceBounds,HT.sIx,Option.getD_none,show(1:Int)>0 by decide,if_true];by_cases h:i<0
   ·simp only [h,if_true,sbN h]
   ·simp only [h,FE,sbP h]
 ·cases hi with
  |none=>simp [sliceBounds,HT.sIx]
  |some i=>
   simp only [sliceBounds,HT.sIx,Option.getD_none,show(1:Int)>0 by decide,if_true];by_cases h:i<0
   ·simp only [h,if_true,sbN h]
   ·simp only [h,FE,sbP h]
theorem iW (its:List Ib)(lo hi:Option Int):slicePick its.toArray lo hi none=((its.drop (HT.sIx its.length 0 lo)).take (HT.sIx its.length its.length hi-HT.sIx its.length 0 lo)).toArray:=by
 obtain⟨h1,h2,h3⟩:=j7 lo hi its.toArray.size;unfold slicePick;rw [h1,h2,h3];simp only [sliceRange_one,pick_run,BC]<;>rfl
def AK (K:Frag):V->Option Int->Option Int->Hp->VK->Prop:=λ x lo hi H Q=>∃a xs,x=.ref a/\SqL K H a xs/\∀p,H p=none->Q (.ref p) (upd H p (.lst (cutV xs lo hi)))
theorem bJ:SlR X (AK X.K):=by
 intro Io s σ H x v vl vu lo hi sl Q I rx hs pl pu h;obtain⟨a,xs,rfl,hx,q⟩:=h;cases rx;obtain⟨its,r,ht,hz⟩:=I.list hx;have hlen:=r.length;refine⟨"list",_,slot_list_getitem.lookup,ht.isList.typeIs,?_⟩;refine wpAny_getItem_list_slice ht.isList hs pl pu .none Z6 ?_ (by rw [BC]<;>lia);rw [iW,<-hlen];refine⟨.ref s.heap.objs.size,_,I.laid (t':=s.toks) (o:=.lst (cutV xs lo hi)) (λ b ob q=>Bi _ q) (Bh _) ?_,rfl,q _ (I.hok.fresh (Bh _))⟩;exact⟨Ba (kQ xs lo hi) hz,_,0,(r.drop (HT.sIx xs.length 0 lo)).take (HT.sIx xs.length xs.length hi-HT.sIx xs.length 0 lo),BY _ rfl⟩
theorem ay:dF X (.builtin "len") (λ xs H Q=>∃p ys,xs=[.ref p]/\(SqL X.K H p ys\/SqT X.K H p ys)/\Q (.int ys.length) H):=by
 intro Io s σ H xs us Q I r h;obtain⟨p,ys,rfl,hq,q⟩:=h;obtain⟨u,rfl,rx⟩:=fk r;cases rx;have hn:=jT;rcases hq with hq|hq
 ·obtain⟨its,r',pl,hz⟩:=I.list hq;have hlen:=r'.length;exact Calls.call_len_list pl.isList (by simp only [BC]<;>lia) ⟨.int ys.length,H,I.tok _,⟨s.toks+1,by rw [BC,hlen]⟩,q⟩
 ·obtain⟨its,r',pl,hz⟩:=I.tuple hq;have hlen:=r'.length;exact len_tuple pl (by simp only [BC]<;>omega) ⟨.int ys.length,H,I.tok _,⟨s.toks+1,by rw [BC,hlen]⟩,q⟩
theorem bC:dF X (.type "list") (λ xs H Q=>∃p ys,xs=[.ref p]/\(SqL X.K H p ys\/SqT X.K H p ys)/\∀l,H l=none->Q (.ref l) (upd H l (.lst ys))):=by
 intro Io s σ H xs us Q I r h;obtain⟨p,ys,rfl,hq,q⟩:=h;obtain⟨u,rfl,rx⟩:=fk r;cases rx;have fin:∀(its:List Ib),Vals ys its->ys.length≤sizeLine->∀(h':Ij) (c':Nat),(∀b o',s.heap.get? b=some o'->h'.get? b=some o')->
   h'.get? s.heap.objs.size=some {cls:=.type "list",dict:=none,data:=.seq its.toArray c',slots:=#[]}->EP X Io σ Q (.ref s.heap.objs.size) {s with heap:=h'}:=λ its r' hz h' c' kp e=>
  ⟨.ref s.heap.objs.size,_,I.laid (t':=s.toks) kp (Bh _) (show ObjOk X.prog X.w _ h' _ (.lst ys) from⟨hz,its,c',r',e⟩),rfl,q _ (I.hok.fresh (Bh _))⟩
 rcases hq with hq|hq
 ·obtain⟨its,r',pl,hz⟩:=I.list hq;have hlen:=r'.length;obtain⟨o,ho,hc,n,hd⟩:=pl.isList;exact call_list_seq p (.inl rfl) ho hc hd (λ h' c' kp e=>fin its r' hz h' c' kp e) (by simp only [BC]<;>exact De hlen.symm hz)
 ·obtain⟨its,r',pl,hz⟩:=I.tuple hq;have hlen:=r'.length;obtain⟨o,ho,hc,n,hd⟩:=pl;exact call_list_seq p (.inr rfl) ho hc hd (λ h' c' kp e=>fin its r' hz h' c' kp e) (by simp only [BC]<;>exact De hlen.symm hz)
theorem i6:dF X (.type "tuple") (λ xs H Q=>∃p ys,xs=[.ref p]/\((SqL X.K H p ys/\∀l,H l=none->Q (.ref l) (upd H l (.tup ys)))\/(SqT X.K H p ys/\Q (.ref p) H))):=by
 intro Io s σ H xs us Q I r h;obtain⟨p,ys,rfl,h⟩:=h;obtain⟨u,rfl,rx⟩:=fk r;cases rx;rcases h with⟨hq,q⟩|⟨hq,q⟩
 ·obtain⟨its,r',pl,hz⟩:=I.list hq;have hlen:=r'.length;refine call_tuple_list pl.isList (λ h' kp=>?_) (by simp only [BC]<;>exact De hlen.symm hz);have I1:Inv X Io σ H {s with heap:=h'}:=I.kept (t':=s.toks) kp;have I2:Inv X Io σ (upd H h'.objs.size (.tup ys)) {s with heap:=h'.push {cls:=.type "tuple",data:=.seq its.toArray}}:=
   I1.laid (t':=s.toks) (λ b o e=>Bi _ e) (Bh _) (show ObjOk X.prog X.w _ _ _ (.tup ys) from⟨hz,its,r',IsTup.new _ _⟩)
  exact⟨.ref h'.objs.size,_,I2,rfl,q _ (I1.hok.fresh (Bh _))⟩
 ·obtain⟨its,r',pl,hz⟩:=I.tuple hq;exact call_tuple_same pl ⟨.ref p,H,I,rfl,q⟩
def tyV (K:Frag)(T:String)(x:V)(H:Hp):Prop:=match x with
 | .str _=>T="str"
 | .int _=>T="int"
 | .ref p=>(T="list"/\∃xs,SqL K H p xs)\/(T="tuple"/\∃o,K.lookup p=some o/\o.cls=.type "tuple"/\o.dict=none)\/
   (T="dict"/\((∃kvs,H p=some (.dK kvs))\/∃kvs,H p=some (.dT kvs)))\/(T="set"/\∃S n,H p=some (.set S n))
 |_=>False
theorem sJ {T:String}{v:Ib}(I:Inv X Io σ H s)(r:RelV x v)(ty:tyV X.K T x H):
  s.TypeIs v T/\∀a,v=.ref a->∃ob,s.heap.get? a=some ob/\ob.dict=none:=by
 cases x with
 |str z=>
  obtain⟨t,rfl⟩:=r;cases(show T="str" from ty);exact⟨typeIs_str s z t,λ _ e=>nomatch e⟩
 |int i=>
  obtain⟨t,rfl⟩:=r;cases(show T="int" from ty);exact⟨typeIs_int s i t,λ _ e=>nomatch e⟩
 |ref p=>
  cases r;rcases ty with⟨rfl,xs,hq⟩|⟨rfl,o,hk,hc,hd⟩|⟨rfl,hk⟩|⟨rfl,S,n,hk⟩
  ·obtain⟨its,_,pl,_⟩:=I.list hq;refine⟨pl.isList.typeIs,λ a e=>?_⟩;cases e;obtain⟨o,n,e,c,hd,_⟩:=pl;exact⟨o,e,hd⟩
  ·refine⟨⟨o,I.kIn p o hk,hc⟩,λ a e=>?_⟩;cases e;exact⟨o,I.kIn _ o hk,hd⟩
  ·have z:∃o,s.heap.get? p=some o/\o.ExactDict:=by
    rcases hk with⟨kvs,hk⟩|⟨kvs,hk⟩
    ·obtain⟨_,_,_,_,o,_,_,e,ex,_⟩:=I.hok p _ hk;exact⟨o,e,ex⟩
    ·obtain⟨_,_,_,_,o,_,_,e,ex,_⟩:=I.hok p _ hk;exact⟨o,e,ex⟩
   obtain⟨o,e,ex⟩:=z;refine⟨⟨o,e,ex.1⟩,λ a e2=>?_⟩;cases e2;exact⟨o,e,ex.2.1⟩
  ·obtain⟨o,_,_,_,e,ex,_⟩:=I.hok p _ hk;refine⟨⟨o,e,ex.1⟩,λ a e2=>?_⟩;cases e2;exact⟨o,e,ex.2.1⟩
 |_=>exact False.elim ty
def AR (K:Frag)(T:String)(r:V->List V->Hp->VK->Prop)(to:TE):TE:=λ σ H Q=>to σ H λ x H1=>tyV K T x H1/\r x [] H1 Q
def tBM (K:Frag)(T:String)(r:V->List V->Hp->VK->Prop)(to:TE)(t:TA):TE:=λ σ H Q=>to σ H λ x H1=>tyV K T x H1/\t σ H1 λ xs H2=>r x xs H2 Q
variable {o e:Ik}{es:List Ik}{to:TE}{t:TA}{name:Str}{apos cpos:Pos}{T id:String}{r:V -> List V -> Hp -> VK -> Prop}
theorem x3 (pa:PlainAttrs T)(slot:Slot T name id)(hty:typeOf (.builtin id)=pure (.type "method_descriptor"))(hm:MtR X id r)(ho:PE X o to)
  (hbase:autoParam (attributeBase o name X.env (eval o X.env)=eval o X.env) Z0) (hline:autoParam ((apos.endLine==cpos.line)=true) Z0):PE X (.Call (.Attribute o name apos) [] [] cpos) (AR X.K T r to):=by
 intro Io s σ H Q I h;refine wpAny_Call_method0_late hbase hline (thn (ho Io s σ H _ I h) λ v s1 z9=>?_);obtain⟨x,H1,I1,r1,ty,q1⟩:=z9;obtain⟨h1,h2⟩:=sJ I1 r1 ty;exact⟨T,id,pa,slot,hty,h1,h2,Calls.callWith_builtin rfl (PySem.evalArgs_none (hm Io s1 σ H1 x [] v [] Q I1 r1 .nil q1))⟩
theorem dI (pa:PlainAttrs T)(slot:Slot T name id)(hty:typeOf (.builtin id)=pure (.type "method_descriptor"))(hm:MtR X id r)(ho:PE X o to)(ha:PA X (e::es) t)
  (hbase:autoParam (attributeBase o name X.env (eval o X.env)=eval o X.env) Z0)
  (hfew:autoParam (((backTo cpos (starEach (e::es) X.env)).all (λ x=> !x.1)&&(backToKw cpos (keywordEach [] X.env)).all (λ x=>x.1.isSome)
   &&decide ((e::es).length+([]:List Keyword).length+(if([]:List Keyword).isEmpty then 0 else 1)<30))=true) Z0)
  (hline:autoParam ((apos.endLine==cpos.line)=true) Z0) (hs:autoParam (starEach (e::es) X.env=(false,eval e X.env)::starEach es X.env) Z0) (hplain:autoParam ((backTo cpos (starEach es X.env)).any (·.1)=false) Z0):
  PE X (.Call (.Attribute o name apos) (e::es) [] cpos) (tBM X.K T r to t):=by
 intro Io s σ H Q I h;refine wpAny_Call_method_late hbase hfew hline rfl (thn (ho Io s σ H _ I h) λ v s1 z9=>?_);obtain⟨x,H1,I1,r1,ty,q1⟩:=z9;obtain⟨h1,h2⟩:=sJ I1 r1 ty;refine⟨T,id,pa,slot,hty,h1,h2,?_⟩;have hA:=ha cpos Io s1 σ H1 _ I1 q1;rw [hs] at hA ⊢;refine Calls.callWith_builtin (by show(false||(backTo cpos (starEach es X.env)).any (·.1))=false;rw [hplain]<;>rfl) (Calls.evalArgs_plain ?_);exact thn hA λ us s2 z9=>by obtain⟨vs,H2,I2,r2,q2⟩:=z9;exact hm Io s2 σ H2 x vs v us Q I2 r1 r2 q2
end
def MtM (X:Cx)(id:String)(r:V->List V->Hp->VK->Prop):Prop:=
 ∀(Io:List (HZ×Il)) (s:Ic) (σ:St) (H:Hp) (x:V) (xs:List V) (v:Ib) (us:List Ib) (Q:VK),Inv X Io σ H s->RelV x v->Vals xs us->r x xs H Q->
  wpAny (model X.prog X.w) X.A (call (.builtin id) (v::us)) (EP X Io σ Q) X.xe s
theorem Vals.one (h:Vals [x] us):∃u,us=[u]/\RelV x u:=by
 cases h with
 |cons r q=>
  cases q;exact⟨_,rfl,r⟩
theorem Vals.zero:∀{us:List Ib},Vals [] us->us=[]
 |_,.nil=>rfl
theorem Vals.rep (h:Vals xs us):∀k:Nat,Vals (List.replicate k xs).flatten (List.replicate k us).flatten
 |0=>.nil
 |k+1=>by
  rw [CF,CF,CG,CG];exact Vals.append h (Vals.rep h k)
theorem jn (its:List Ib):∀(k:Nat) (acc:List Ib),
  List.foldl (λ x1 x2=>x1++x2) acc.toArray (List.replicate k its.toArray)=(acc++(List.replicate k its).flatten).toArray
 |0,acc=>by simp
 |k+1,acc=>by
  have e:acc.toArray++its.toArray=(acc++its).toArray:=Z6;have e2:(acc++its)++(List.replicate k its).flatten=acc++(List.replicate (k+1) its).flatten:=by
   rw [CF,CG,Be]
  rw [<-e2,<-jn its k (acc++its),<-e,CF,List.foldl_cons]
section
variable {X:Cx}{Io:List (HZ × Il)}{σ:St}{H:Hp}{s:Ic}{l b:HZ}{xs ys zs:List V}
theorem Inv.lset {f:Array Ib->Array Ib}(I:Inv X Io σ H s)(hH:H l=some (.lst xs))
  (e:s.heap.get? l=some {cls:=.type "list",data:=.seq its.toArray n}) (hf:f its.toArray=its'.toArray) (hv:Vals ys its') (hz:ys.length≤sizeLine):
  Inv X Io σ (upd H l (.lst ys)) {s with heap:=s.heap.update l (Obj.mapSeq f),toks:=t'}:=by
 have q:=PySem.IsL.update e f;rw [hf] at q;refine I.write (x:=l) (e:=l) (by rw [hH];exact trivial) (.inl rfl) (λ b' u hb hu=>(Dg s.heap (Obj.mapSeq f) (Fb hb)).trans hu) ⟨_,q⟩ ?_;exact⟨hz,its',_,hv,q⟩
theorem Inv.lnew (I:Inv X Io σ H s)(hv:Vals ys its)(hz:ys.length≤sizeLine):
  Inv X Io σ (upd H s.heap.objs.size (.lst ys)) {s with heap:=s.heap.push {cls:=.type "list",data:=.seq its.toArray},toks:=t'}:=
 I.laid (λ _ _ q=>Bi _ q) (Bh _) ⟨hz,its,0,hv,BY _ rfl⟩
theorem Inv.fresh (I:Inv X Io σ H s):H s.heap.objs.size=none:=I.hok.fresh (Bh _)
theorem Inv.lstM (I:Inv X Io σ H s)(hH:H l=some (.lst xs)):xs.length≤sizeLine/\∃(its:List Ib) (n:Nat),Vals xs its/\xs.length=its.length/\s.heap.get? l=some {cls:=.type "list",data:=.seq its.toArray n}:=by
 obtain⟨z,its,n,r,e⟩:=I.hok l _ hH;exact⟨z,its,n,r,r.length,e⟩
theorem lT (h:n≤sizeLine):Builtin.List.listTooLong n=false:=by
 unfold Builtin.List.listTooLong;exact DT (Hx.mpr h)
end
section
variable {X:Cx}
def pJ:V->List V->Hp->VK->Prop:=λ x vs H Q=>∃l xs y,x=.ref l/\vs=[y]/\H l=some (.lst xs)/\xs.length<sizeLine/\Q .non (upd H l (.lst (xs++[y])))
theorem bv:MtM X "list.append" pJ:=by
 intro Io s σ H x vs v us Q I rx rv h;obtain⟨l,xs,y,rfl,rfl,hH,hz,q⟩:=h;cases rx;obtain⟨u,rfl,ru⟩:=rv.one;obtain⟨z,its,n,r,hl,e⟩:=I.lstM hH;refine call_meets CD ⟨_,e,rfl⟩ F.entry_list_append (F.args_list_append_2 _ _) (PySem.list_append l its.toArray n u (by rw [BC];exact Ba (Bz hl.symm) (B7 hz))) ⟨e,?_⟩;refine⟨.non,_,I.lset (its':=its++[u]) hH e Z6 (r.append (.cons ru .nil)) ?_,rfl,q⟩;rw [Bb,Ex]
 assumption
def wP:V->List V->Hp->VK->Prop:=λ x vs H Q=>∃l b xs zs,x=.ref l/\vs=[.ref b]/\H l=some (.lst xs)/\H b=some (.lst zs)/\xs.length+zs.length≤sizeLine/\Q .non (upd H l (.lst (xs++zs)))
theorem je:MtM X "list.extend" wP:=by
 intro Io s σ H x vs v us Q I rx rv h;obtain⟨l,b,xs,zs,rfl,rfl,hH,hB,hz,q⟩:=h;cases rx;obtain⟨u,rfl,ru⟩:=rv.one;cases ru;obtain⟨z,its,n,r,hl,e⟩:=I.lstM hH;obtain⟨z2,its2,n2,r2,hl2,e2⟩:=I.lstM hB;have hsz:its.toArray.size+its2.toArray.size≤sizeLine:=by rw [BC,BC];lia
 have hlong:¬(!its.toArray.isEmpty&&Builtin.List.listTooLong (its.toArray.size+its2.toArray.size))=true:=by
  rw [lT hsz,Bool.and_false];exact BL
 refine call_meets Gh ⟨_,e,rfl⟩ F.entry_list_extend (F.args_list_extend_2 _ _)
  (AutoSeq1.list_extend_list_list_0 l its.toArray n b its2.toArray n2 hlong (by rw [BC];exact De hl.symm z) (CV hsz)) ⟨e,e2,?_⟩
 refine⟨.non,_,I.lset (its':=its++its2) hH e Z6 (r.append r2) ?_,rfl,q⟩;rw [Bb]
 assumption
def yy:V->List V->Hp->VK->Prop:=λ x vs H Q=>∃l xs,x=.ref l/\vs=[]/\H l=some (.lst xs)/\Q .non (upd H l (.lst []))
theorem rO:MtM X "list.clear" yy:=by
 intro Io s σ H x vs v us Q I rx rv h;obtain⟨l,xs,rfl,rfl,hH,q⟩:=h;cases rx;have hus:=rv.zero;subst hus;obtain⟨z,its,n,r,hl,e⟩:=I.lstM hH;refine call_meets F.slot_list_clear ⟨_,e,rfl⟩ F.entry_list_clear (F.args_list_clear_1 _) (AutoSeq1.list_clear_list_0 l its.toArray n (by rw [BC];exact De hl.symm z)) ⟨e,?_⟩;exact⟨.non,_,I.lset (its':=[]) (ys:=[]) hH e rfl .nil (BX _),rfl,q⟩
def yG:R2:=λ x y H Q=>∃l b xs zs,x=.ref l/\y=.ref b/\H l=some (.lst xs)/\H b=some (.lst zs)/\xs.length+zs.length≤sizeLine/\∀p,H p=none->Q (.ref p) (upd H p (.lst (xs++zs)))
theorem aR:OpR X (binaryOp .Add) yG:=by
 intro Io s σ H x y v u Q I rx ry h;obtain⟨l,b,xs,zs,rfl,rfl,hH,hB,hz,q⟩:=h;cases rx;cases ry;obtain⟨z,its,n,r,hl,e⟩:=I.lstM hH;obtain⟨z2,its2,n2,r2,hl2,e2⟩:=I.lstM hB;refine PySem.P.add_list e e2 ?_ (by rw [BC,BC];omega);have ea:its.toArray++its2.toArray=(its++its2).toArray:=Z6;rw [ea];exact⟨.ref _,_,I.lnew (t':=s.toks) (r.append r2) (by rw [Bb];assumption),rfl,q _ I.fresh⟩
def AH:R2:=λ x y H Q=>∃l k xs,x=.ref l/\y=.int k/\H l=some (.lst xs)/\-(2^63)≤k/\k<2^63/\xs.length*k.toNat≤sizeLine/\
 ∀p,H p=none->Q (.ref p) (upd H p (.lst (List.replicate k.toNat xs).flatten))
theorem vP {α:Type}(xs:List α)(k:Nat):(List.replicate k xs).flatten.length=k*xs.length:=by
 induction k with
 |zero=>simp
 |succ k ih=>rw [CF,CG,Bb,ih,Nat.succ_mul,Fh]
theorem jP:OpR X (binaryOp .Mult) AH:=by
 intro Io s σ H x y v u Q I rx ry h;obtain⟨l,k,xs,rfl,rfl,hH,h1,h2,hz,q⟩:=h;cases rx;obtain⟨t,rfl⟩:=ry;obtain⟨z,its,n,r,hl,e⟩:=I.lstM hH;have hlen:its.toArray.size*k.toNat≤sizeLine:=by rw [BC,<-hl];exact hz
 have hcap:¬its.toArray.size*k.toNat>(2^63-1)/8:=by
  have:(sizeLine:Nat)≤(2^63-1)/8:=Z9;lia
 have hfit:¬(!Builtin.List.listFitsIndex k)=true:=by
  rw [fitsIndex_both h1 h2];exact BL
 have hlong:¬Builtin.List.listTooLong (its.toArray.size*k.toNat)=true:=by
  rw [lT hlen];exact BL
 have hnew:List.foldl (λ x1 x2=>x1++x2) #[] (List.replicate (if its.toArray.isEmpty=true then 0 else k.toNat) its.toArray)=(List.replicate k.toNat its).flatten.toArray:=by
  have f0:∀m:Nat,List.foldl (λ x1 x2=>x1++x2) #[] (List.replicate m its.toArray)=(List.replicate m its).flatten.toArray:=λ m=>by
   have:=jn its m [];rw [CJ] at this;exact this
  rw [f0];cases its with
  |nil=>simp
  |cons a r'=>rw [Bu Z6]
 refine wpAny_binaryOp_repeat_ref (T:="list") (U:="int") Z9 ⟨_,e,rfl⟩ (λ s'=>typeIs_int s' k t) noFill_list_mul F.fills_int_mul F.slot_int_rmul repeat_list F.slot_int_index.lookup
  (call_meets F.slot_int_rmul (typeIs_int s k t) F.entry_int_rmul (F.args_int_rmul_2 _ _) (int___rmul___int_list k t l its.toArray n)
   ⟨e,rfl,⟨_,e,rfl⟩,call_meets F.slot_list_mul ⟨_,e,rfl⟩ F.entry_list_mul (F.args_list_mul_2 _ _) (AutoListH.list___mul___list_int_3 l its.toArray n k t hfit hcap hlong) ⟨e,?_⟩⟩)
 rw [hnew];exact⟨.ref _,_,I.lnew (t':=s.toks) (r.rep k.toNat) (by rw [vP,Dt];exact hz),rfl,q _ I.fresh⟩
end
section
variable {prog:Ie}{w:Ig}{A:Ii}{E:Ib -> Ic -> Prop}{s:Ic}
set_option maxRecDepth 100000 in
end
section
variable {X:Cx}
end
end L2
namespace Att
open PySem PySem.W PySem.Calls PyProof.Rows
variable {n:Nat}{h:Ij}{P:Params}
theorem gw:∀(ns:List Int) (vs:List Ib),WellAll P h vs (ns.map WData.int)->IntsAre vs ns:=by
 intro ns
 induction ns with
 |nil=>
  intro vs w;rw [HP] at w;cases w;exact .nil
 |cons n ns ih=>
  intro vs w;rw [DE] at w;cases w with
  |cons a b=>
   cases a;exact .cons _ _ (ih _ b)
theorem rA {l:OpenLaw}(hn:l.most=some n){args:List WData}{vals:List Ib}
  (hpre:l.row.toRowW.claim.pre args=true) (hwl:WellAll P h vals args):
  ∃a vs ns,vals=[Value.ref a]/\args=[WData.list (ns.map WData.int)]/\h.get? a=some {cls:=.type "list",data:=.seq vs.toArray}/\IntsAre vs ns/\ns.length≤n:=by
 have hsh:WShape.hasAll [] args [.list .int]=true:=(pre_splitW hpre).1;have hc:l.pre.holds [] {args:=args}=true:=(pre_splitW hpre).2;obtain⟨d,r,rfl,h1,h2⟩:=hasAllW_cons hsh;obtain rfl:=hasAllW_nil h2;obtain⟨xs,rfl,h3⟩:=hasW_list h1;obtain⟨ns,rfl⟩:=items_int h3;have hlen:ns.length≤n:=by
  unfold OpenLaw.pre at hc;have h4:(WTm.not (.lt (.lit (.int (n:Int))) (.len (.arg 0)))).holds [] {args:=[.list (ns.map .int)]}=true:=by
   have h4:=(holds_andW hc).1;rw [hn] at h4;exact h4
  have h5:=condW_of h4 (w_not (w_lt w_lit (w_len_list (w_arg rfl))));rw [A9] at h5;refine Cv λ q=>?_
  have q':(n:Int)<((ns.length:Nat):Int):=Z4
  first
   |(rw [Bj q'] at h5;exact absurd h5 Z9)
   |(simp at h5;omega)
 cases hwl with
 |cons w1 w2=>
  cases w2;cases w1 with
  |list ho hall=>exact⟨_,_,ns,rfl,rfl,ho,gw ns _ hall,hlen⟩
theorem qR (l:OpenLaw)(args:List WData):l.row.toRowW.claim.post args (.bool true) args=true:=
 postW_of (r:=l.row.toRowW) (X:=(true==true))
  (show WShape.has [] (.bool true) .bool=true by first|rfl|decide|simp [WShape.has,WShape.arms,WShape.armsAll])
  (show(WTm.eq .res (.lit (.bool true))).value [] {args:=args,res:=some (.bool true),after:=args}=some (.bool (true==true)) from w_eq_bool (w_res rfl) w_lit) rfl
theorem attach_call {l:OpenLaw}{q:Ie}{loose:List Str}{XP:(Str->Option Ib)->Ij->Prop}{YP:Ig->Ij->Prop}{d:DefRec}
  (hn:l.most=some n) (hdf:d.params.defaults=[])
  (call:∀(w:Ig) (s₀ s₁:Ic) (mg mb:Str->Option Ib) (fa:HZ) (o:Il) (pm cd doc:Ib) (a:HZ) (vs:List Ib) (ns:List Int),
   Ground q loose [] XP w s₀ mg mb s₁.heap->YP w s₁.heap->
   s₁.heap.get? fa=some o->o.data=.func (docDef d.name d.params d.body d.scope pm cd doc)->s₁.heap.CodeRec cd d.name->mg d.name=some (.ref fa)->
   s₁.heap.get? a=some {cls:=.type "list",data:=.seq vs.toArray}->IntsAre vs ns->ns.length≤n->s₁.gens=#[]->
   codeAny (model l.prog w) callerA (.call (.ref fa) ⟨[.ref a],[]⟩) (λ r s'=>r=.ok (.ret (.bool true))/\OldK s₁.heap s'.heap/\s'.os=s₁.os/\AllBare s'.gens) s₁):
  WalkO q loose XP YP l.row.toRowW d [] (λ f vs=>PySem.call f vs):=by
 intro w s₀ s₁ mg mb G Y fa o pm cd doc dV kV ho hd hcd hD hmg hg args vals as hpre hlay hrd hwl hlo;obtain rfl:dV=.none:=Dflts.none hD hdf;obtain rfl:kV=.none:=Dflts.noKw hD;obtain⟨a,vs,ns,rfl,rfl,hobj,hints,hlen⟩:=rA hn hpre hwl;refine enter_call (Gu (call w s₀ s₁ mg mb fa o pm cd doc a vs ns G Y ho (fd_plain hd) hcd hmg hobj hints hlen hg) λ r s' hq=>?_);obtain⟨rfl,h2,h3,h4⟩:=hq;exact⟨.inl ⟨.bool true,.bool true,[],rfl,λ _=>rfl,.bool true,qR l _,λ _=>⟨List.Pairwise.nil,λ _ hm=>(nomatch hm)⟩⟩,h2,h3,h4⟩
section
variable {prog:Ie}{w:Ig}{A:Ii}{E:Ib -> Ic -> Prop}{s:Ic}{K:Frag}
end
end Att
namespace L2
open PySem PySem.Spec PyProof.Rows
variable {wi:TI}{fd:Ih}{A c:Prop}{sp:Sp}{K:Frag}{Q:VK}{a d f l:HZ}{qual x y:Str}{N ps:List Str}{g:TG}{k n:Nat}{py spos:Pos}{R:Hp->Prop}{scope:Scope}{X:Cx}{te:TE}{H H' H1:Hp}{b:Int}{xs:List V}{tt:TT}{σ:St}{st:Im}
theorem ql {vs:List Ib}{ns:List Int}(h:IntsAre vs ns):Vals (ns.map V.int) vs:=by
 induction h with
 |nil=>exact .nil
 |cons n t _ ih=>exact .cons ⟨t,rfl⟩ ih
noncomputable def aO (s:Im) (j:Nat):Im:=match s with
 | .ClassDef _ _ _ body _ _ _ _ _ _ _=>body.getD j (.Pass ⟨0,0,0,0⟩)
 |_=>.Pass ⟨0,0,0,0⟩
noncomputable def aT (s:Im):Arguments:=match s with
 | .FunctionDef _ a _ _ _ _ _ _ _ _=>a
 |_=>{posonlyargs:=[],args:=[],vararg:=none,kwonlyargs:=[],kw_defaults:=[],kwarg:=none,defaults:=[]}
noncomputable def aP (s:Im):List Im:=match s with
 | .FunctionDef _ _ b _ _ _ _ _ _ _=>b
 |_=>[]
noncomputable def ak (s:Im):Scope:=match s with
 | .FunctionDef _ _ _ _ _ _ sc _ _ _=>sc
 |_=>{kind:=.function,names:=[],isGenerator:=false,isCoroutine:=false}
abbrev CX0:CXT:=λ _ _ _ _ _ _=>False
abbrev E0:XK:=λ _ _ _=>False
theorem aw:cF CX0 X E0:=λ _ _ _ _ _ _ _ h=>h.elim
structure Fun (K:Frag)(x qual:Str)(st:Im)(f:HZ)(fd:Ih):Prop where
 ex:∃(oc:Ib) (od:Option HZ) (kV doc pm:Ib) (an:Option HZ) (Iq ct:Ib) (osl:Array (Option Ib)),
  fd=fnOf x qual (aT st) (aP st) (ak st) .none kV doc pm an Iq ct/\K.lookup f=some ⟨oc,od,.func fd,osl⟩/\codeIn K Iq qual=true
 kp:keepIn K (.ref f)=true
section
variable {P:Ie}{w:Ig}{K:Frag}{mg:Str -> Option Ib}{base:Ij}
theorem Fun.ok (F:Fun K x qual st f fd)(S:FnScope N ps (ak st))
  (hbody:∀(Iq:Ib) (A:Ii) (outer:List Env) (s:Ic) (H:Hp) (vs:List V) (Q:VK) (E:XK),Room k (A.deeper (envOfC qual (ak st) s.heap.objs.size f Iq))->sp vs H Q E->
   let X:=(cxOf CX0 P w K mg base N qual (ak st) f Iq A outer s H E).nox;∃t,PSs X (aP st) t/\t {nx:=λ _ H'=>Q .non H',rt:=Q} (start N vs) H) (len:autoParam (∀vs H Q E,sp vs H Q E->vs.length=ps.length) ZV):FnOk P w K mg base CX0 (k+1) f fd ps sp:=by
 obtain⟨oc,od,kV,doc,pm,an,Iq,ct,osl,rfl,lk,hcd⟩:=F.ex;refine oC lk hcd S len λ A outer s H vs Q E hr hsp=>?_
 obtain⟨t,h,q⟩:=hbody Iq A outer s H vs Q E hr hsp;exact⟨t,h.nox,q⟩
theorem fun_mk {oc:Ib}{od an:Option HZ}{osl:Array (Option Ib)}{kV doc pm Iq ct:Ib}(l:K.lookup f=some ⟨oc,od,.func (fnOf x qual (aT st) (aP st) (ak st) .none kV doc pm an Iq ct),osl⟩)
  (c:codeIn K Iq qual=true) (k:keepIn K (.ref f)=true):Fun K x qual st f (fnOf x qual (aT st) (aP st) (ak st) .none kV doc pm an Iq ct):=⟨⟨oc,od,kV,doc,pm,an,Iq,ct,osl,rfl,l,c⟩,k⟩
end
theorem jr (h:n≤1000):n<sizeLine:=B0 h Z9
section
variable {X:Cx}
theorem pv (i:Nat){pos:Pos}(hN:autoParam (X.N[i]?=some x) Z0)(hv:autoParam (Vis X.env.scope x) ZT)(hd:autoParam ((x==("__debug__":Str))=false) ZZ)
  (hcd:autoParam ((x==("__classdict__":Str))=false) ZZ):PE X (.Name x pos) (dW i):=sW hN hv hd hcd
end
theorem bV {B:Prop}(h:B):if false=true then A else B:=by
 rw [Bu BL];exact h
theorem gi {B:Prop}(h:A):if true=true then A else B:=by
 rw [BM rfl];exact h
theorem bd {B:Prop} [Decidable c] (h1:c->A)(h2:¬c->B):if c then A else B:=by
 by_cases h:c
 ·rw [BM h];exact h1 h
 ·rw [Bu h];exact h2 h
theorem dG {B:Prop} [Decidable c] (hc:c)(h:B):if(!decide c)=true then A else B:=by
 rw [Bj hc];exact bV h
def Same (H H':Hp):Prop:=∀b o,H b=some o->H' b=some o
theorem Same.refl (H:Hp):Same H H:=λ _ _ h=>h
theorem Same.trans {H2:Hp}(a:Same H H1)(b:Same H1 H2):Same H H2:=λ c o h=>b c o (a c o h)
theorem Same.seq (e:Same H H')(h:SqL K H a xs):SqL K H' a xs:=by
 rcases h with(h|⟨o,h⟩)|h
 ·exact .inl (.inl (e _ _ h))
 ·exact .inl (.inr ⟨o,e _ _ h⟩)
 ·exact .inr h
def xo (n:Nat)(wi:TI)(g:TG)(te:TE):TE:=λ σ H Q=>wi σ H λ J H1=>∀l,H1 l=none->∃W:Nat->Nat->List V->St->Hp->Prop,
 (∃m,W 0 m [] (List.replicate n none) (upd H1 l (.lst [])))/\∀i m ys σ' H',W i m ys σ' H'->
  (J.stop i H'/\Q (.ref l) H')\/(J.go i H'/\∀x H2,J.yld i H' x H2->g x σ' H2 λ σ3 H3=>te σ3 H3 λ y H4=>
   H4 l=some (.lst ys)/\ys.length<sizeLine/\∃m',m'<m/\W (i+1) m' (ys++[y]) σ3 (upd H4 l (.lst (ys++[y]))))
def xh (i:Nat)(t:TE):TS:=λ D σ H=>t σ H λ v H1=>D.nx (σ.set i (some v)) H1
theorem wS (Pv:Nat->List V->Hp->Prop)(h0:Pv 0 [] (upd H1 l (.lst [])))(hl:∀i ys H,i≤xs.length->Pv i ys H->SqL K H a xs)
  (hs:∀i x ys σ H,xs[i]?=some x->Pv i ys H->σ.length=n->g x σ H λ σ3 H3=>te σ3 H3 λ y H4=>H4 l=some (.lst ys)/\ys.length<sizeLine/\σ3.length=n/\Pv (i+1) (ys++[y]) (upd H4 l (.lst (ys++[y]))))
  (hd:∀ys H,Pv xs.length ys H->R H) (mg:∀x σ H (A B:St->Hp->Prop),(∀σ' H',A σ' H'->B σ' H')->g x σ H A->g x σ H B) (mt:∀σ H (A B:VK),(∀v H',A v H'->B v H')->te σ H A->te σ H B):
  ∃W:Nat->Nat->List V->St->Hp->Prop,(∃m,W 0 m [] (List.replicate n none) (upd H1 l (.lst [])))/\∀i m ys σ' H',W i m ys σ' H'->
   ((Itl K a).stop i H'/\R H')\/((Itl K a).go i H'/\∀x H2,(Itl K a).yld i H' x H2->g x σ' H2 λ σ3 H3=>te σ3 H3 λ y H4=>
    H4 l=some (.lst ys)/\ys.length<sizeLine/\∃m',m'<m/\W (i+1) m' (ys++[y]) σ3 (upd H4 l (.lst (ys++[y])))):=by
 refine⟨λ i m ys σ H=>m=xs.length-i/\i≤xs.length/\σ.length=n/\Pv i ys H,⟨xs.length,Z6,BX _,C6,h0⟩,?_⟩;rintro i m ys σ H ⟨rfl,hi,hn,p⟩;have q:=hl i ys H hi p;by_cases Ir:i<xs.length
 ·refine .inr ⟨⟨xs,xs[i],q,by simp [Ir]⟩,λ x H' y=>?_⟩;obtain⟨e,y⟩:=y;subst e;exact mg _ _ _ _ _ (λ σ3 H3 z=>mt _ _ _ _ (λ y H4 z9=>by obtain⟨z1,z2,z3,z4⟩:=z9;exact⟨z1,z2,xs.length-(i+1),Cy _ _ Ir,rfl,Ir,z3,z4⟩) z) (hs i x ys σ _ (y xs q) p hn)
 ·have e:i=xs.length:=BI hi (Nat.not_lt.1 Ir);subst e;exact .inl ⟨⟨xs,q,Bh _⟩,hd ys H p⟩
section
variable {X:Cx}
theorem ui (hc:X.A.handled=none):dF X (.builtin "sum") (λ xs H Q=>∃(p:HZ) (ns:List Int),xs=[.ref p]/\SqL X.K H p (ns.map V.int)/\Q (.int ns.sum) H):=by
 intro Io s σ H xs us Q I r h;obtain⟨p,ns,rfl,hq,q⟩:=h;obtain⟨u,rfl,rx⟩:=fk r;cases rx;obtain⟨its,rv,pl,hz⟩:=I.list hq;have hi:=cg rv;obtain⟨ys,hx⟩:=hi.allInts.items;have hl:s.heap.IsList p (intItems ys):=hx▸pl.isList;refine sum_intListG hc hl λ h' tk t' hk=>?_
 have e1:ns=ys.toList.map (·.1):=by
  rw [<-nums_intItems,<-hx];exact(show numsOf its.toArray.toList=ns from hi.numsOf).symm
 have e2:preSum (numAt ys) ys.size=ns.sum:=by
  rw [preSum_eq,BQ Z6,e1]
 rw [e2];exact⟨.int ns.sum,H,I.kept (t':=tk) hk,⟨_,rfl⟩,q⟩
theorem cx:dF X (.builtin "isinstance") (λ xs H Q=>∃x c t b,xs=[x,.ty c]/\TyOf X.K H x t/\kitOne X.K t (.type c)=some b/\Q (.bl b) H):=by
 intro Io s σ H xs us Q I r h;obtain⟨x,c,t,b,rfl,ty,e,q⟩:=h;obtain⟨u,v,rfl,ru,rv⟩:=oS r;cases rv;exact qE I ru ty e λ tk=>⟨.bl b,H,I.tok tk,rfl,q⟩
end
noncomputable def aQ (X:Cx) (N:List Str) (scope:Scope) (cl:List (Str×HZ)) (fp:List HZ) (s:Ic) (H:Hp):Cx where
 prog:=X.prog
 w:=X.w
 K:=X.K
 mg:=X.mg
 base:=X.base
 A:=X.A
 N:=N
 s₀:=s
 H₀:=H
 env:=compEnvC scope cl s.heap.objs.size X.env
 outer:=X.stack
 stack:=X.stack
 ex:=fp
 fn:=λ _=>false
 calm:=X.calm
 pn:=[]
 xe:=λ _ _=>False
def cap (js:List (Option Nat))(σ:St):St:=js.map λ o=>match o with
 |none=>none
 |some j=>(σ[j]?).getD none
structure Caps (X:Cx)(N:List Str)(scope:Scope)(cl:List (Str×HZ))(js:List (Option Nat)):Prop where
 kind:scope.kind=.function
 nocell:∀x∈scope.names,x.2≠ .cell
 names:∀x∈scope.names,x.2=.local->scope.names.lookup x.1=some .local
 clos:closureFor scope X.env=pure cl
 sub:∀x c,cl.lookup x=some c->X.env.cells.lookup x=some c
 has:∀x,((relabel scope X.env).names.lookup x=some .cell\/(relabel scope X.env).names.lookup x=some .free)->∃c,cl.lookup x=some c
 len:js.length=N.length
 slot:∀(i:Nat) (x:Str) (j:Nat),N[i]?=some x->js[i]?=some (some j)->X.N[j]?=some x/\X.env.scope.names.lookup x=some .cell/\(relabel scope X.env).names.lookup x=some .cell/\∀c,X.env.cells.lookup x=some c->cl.lookup x=some c
section
variable {X:Cx}{Io:List (HZ × Il)}{σ:St}{H:Hp}{s:Ic}{N:List Str}{scope:Scope}{cl:List (Str × HZ)}{js:List (Option Nat)}{fp:List HZ}
theorem qp {h':Ij}{t':Nat}{m:Str->Option Ib}(I:Inv X Io σ H s)(C:Caps X N scope cl js)
  (hf:∀b∈fp,FpOk X Io H b) (Ir:∀b∈fp,b<s.heap.objs.size) (hn:h'.Ns s.heap.objs.size m) (hk:∀b o,s.heap.get? b=some o->h'.get? b=some o):
  Inv (aQ X N scope cl fp s H) [] (cap js σ) H {s with heap:=h',toks:=t'}:=by
 have sub:∀{x:Str} {c:HZ},(aQ X N scope cl fp s H).env.cells.lookup x=some c->X.env.cells.lookup x=some c:=λ {x c} e=>C.sub x c e
 refine⟨⟨I.ok.mod,C.kind,I.ok.glob,I.ok.blt,Bh _,λ x y c e1 e2=>I.ok.inj x y c (sub e1) (sub e2),λ x hx=>C.has x hx,λ x c e _=>(by cases e),I.qt,I.ok.frames,.inl rfl,
  λ b hb=>⟨Ci (Ir b hb),λ x c e=>(hf b hb).2.2.2.2.1 x c (sub e)⟩,I.bs,Ba I.ok.bsz I.sz,λ b o e hb=>?_,λ b hb hs=>?_,I.stack,I.stkFree⟩,
  rfl,I.bare,Un.kept hk,⟨m,hn,λ i x v h1 h2 h3=>?_⟩,λ x c e=>?_,I.hok.fresh (Bh _),λ x c e=>I.freeC x c (sub e),λ p hp=>?_,I.hok.kept hk,by unfold cap;rw [A9];exact C.len⟩
 ·rcases(hf b hb).2.2.2.1 with z|z
  ·exact I.ok.noex b o e z
  ·exact absurd (Bf (BD e) (Ba I.ok.bsz z)) (D5 _)
 ·rcases BA.mp (I.stkSub b hs) with z|z
  ·exact(hf b hb).2.1 z
  ·exact(hf b hb).2.2.1 z
 ·unfold cap at h2;rw [B4] at h2;cases ej:js[i]? with
  |none=>rw [ej] at h2;cases h2
  |some o=>
   rw [ej] at h2;cases o with
   |none=>cases h2
   |some j=>
    have h2':(σ[j]?).getD none=some v:=BU h2;obtain⟨hj1,hk1,hk2,hc⟩:=C.slot i x j h1 ej;have hj2:σ[j]?=some (some v):=by
     cases e:σ[j]? with
     |none=>rw [e] at h2';cases h2'
     |some w'=>rw [e] at h2';exact congrArg some h2'
    obtain⟨mo,hno,hl⟩:=I.loc;obtain⟨u,r,l⟩:=hl j x v hj1 hj2 (.inr (.inl hk1));refine⟨u,r,?_⟩;rcases l with⟨q,_⟩|⟨_,c,ec,o,ho,hd⟩
    ·have q':X.env.scope.names.lookup x=some .local:=q;rw [hk1] at q';cases q'
    ·exact .inr ⟨.inl hk2,c,hc c ec,o,hk c o ho,hd⟩
 ·obtain⟨v,o,ho,hd⟩:=I.cell x c (sub e);exact⟨v,o,hk c o ho,hd⟩
 ·exact absurd (show p∈([]:List (HZ×Il)) from hp) Z6
theorem nk {pins':List (HZ×Il)}{σ':St}{s':Ic}(I:Inv X Io σ H s)(hf:∀b∈fp,FpOk X Io H b)(I':Inv (aQ X N scope cl fp s H) pins' σ' H' s'):Inv X Io σ H' s':=
 I.call' (ch:=fp) I'.os I'.base I'.hok I'.bare λ b hb=>⟨(hf b hb).2.2.2.1,(hf b hb).2.1,(hf b hb).2.2.2.2.1,(hf b hb).2.2.2.2.2⟩
end
def zc (js:List (Option Nat))(wi:TI)(g:TG)(te:TE):TE:=λ σ H Q=>wi σ H λ J H1=>∀l,H1 l=none->∃W:Nat->Nat->List V->St->Hp->Prop,
 (∃m,W 0 m [] (cap js σ) (upd H1 l (.lst [])))/\∀i m ys σ' H',W i m ys σ' H'->
  (J.stop i H'/\Q (.ref l) H')\/(J.go i H'/\∀x H2,J.yld i H' x H2->g x σ' H2 λ σ3 H3=>te σ3 H3 λ y H4=>
   H4 l=some (.lst ys)/\ys.length<sizeLine/\∃m',m'<m/\W (i+1) m' (ys++[y]) σ3 (upd H4 l (.lst (ys++[y]))))
def dn (js:List (Option Nat))(wi:TI)(g:TG)(tt:TT)(te:TE):TE:=λ σ H Q=>wi σ H λ J H1=>∀l,H1 l=none->∃W:Nat->Nat->List V->St->Hp->Prop,
 (∃m,W 0 m [] (cap js σ) (upd H1 l (.lst [])))/\∀i m ys σ' H',W i m ys σ' H'->
  (J.stop i H'/\Q (.ref l) H')\/(J.go i H'/\∀x H2,J.yld i H' x H2->g x σ' H2 λ σ3 H3=>tt σ3 H3 λ c H5=>if c=true then te σ3 H5 λ y H4=>
   H4 l=some (.lst ys)/\ys.length<sizeLine/\∃m',m'<m/\W (i+1) m' (ys++[y]) σ3 (upd H4 l (.lst (ys++[y]))) else∃m',m'<m/\W (i+1) m' ys σ3 H5)
def oq (n:Nat)(wi:TI)(g:TG)(tt:TT)(te:TE):TE:=λ σ H Q=>wi σ H λ J H1=>∀l,H1 l=none->∃W:Nat->Nat->List V->St->Hp->Prop,
 (∃m,W 0 m [] (List.replicate n none) (upd H1 l (.lst [])))/\∀i m ys σ' H',W i m ys σ' H'->
  (J.stop i H'/\Q (.ref l) H')\/(J.go i H'/\∀x H2,J.yld i H' x H2->g x σ' H2 λ σ3 H3=>tt σ3 H3 λ c H5=>if c=true then te σ3 H5 λ y H4=>
   H4 l=some (.lst ys)/\ys.length<sizeLine/\∃m',m'<m/\W (i+1) m' (ys++[y]) σ3 (upd H4 l (.lst (ys++[y]))) else∃m',m'<m/\W (i+1) m' ys σ3 H5)
def pY (prog:Ie)(w:Ig)(A:Ii)(elt Iu iter:Ik)(cs:List Ik)(scope:Scope)(pos:Pos)(tw:Env->(Bool->Ic->Prop)->(Ib->Ic->Prop)->Ic->Prop):Prop:=
 ∀(R:Result->Ic->Prop) (s:Ic) (it acc:Ib) (env:Env) (J:Nat->Ic->Prop),(∀n z,J n z->wpAny (model prog w) A (pyNext it) (λ r z1=>match r with
   |none=>R (.ok .next) z1
   |some v=>wpAny (model prog w) A (letOwnedTupleGo Iu it v) (λ _ z2=>wpAny (model prog w) A (assign Iu env v) (λ _ z3=>tw env (λ b z6=>if b=true then wpAny (model prog w) A (eval elt env) (λ x z4=>
     wpAny (model prog w) A (call (.builtin "list.append") [acc,x]) (λ _ z5=>∃m,m<n/\J m z5)
      (notedBy (model prog w) A env λ e s'=>R (.error e) s') z4) (notedBy (model prog w) A env λ e s'=>R (.error e) s') z6 else∃m,m<n/\J m z6) (notedBy (model prog w) A env λ e s'=>R (.error e) s') z3)
      (notedBy (model prog w) A env λ e s'=>R (.error e) s') z2) (notedBy (model prog w) A env λ e s'=>R (.error e) s') z1) (notedBy (model prog w) A env λ e s'=>R (.error e) s') z)->
  ∀n,J n s->codeAny (model prog w) A (.compLoop (.ListComp elt [⟨Iu,iter,cs,0⟩] scope pos) 0 it acc env) R s
def twI (prog:Ie)(w:Ig)(A:Ii)(cnd:Ik):Env->(Bool->Ic->Prop)->(Ib->Ic->Prop)->Ic->Prop:=λ env Q E z=>wpAny (model prog w) A (isTrue cnd env (eval cnd env)) Q E z
def tw0:Env->(Bool->Ic->Prop)->(Ib->Ic->Prop)->Ic->Prop:=λ _ Q _ z=>Q true z
section
variable {prog:Ie}{w:Ig}{A:Ii}
theorem o5 {elt Iu iter:Ik}{cs:List Ik}{pos:Pos}{tw:Env->(Bool->Ic->Prop)->(Ib->Ic->Prop)->Ic->Prop}
    (h:(∃cnd,cs=[cnd]/\tw=twI prog w A cnd)\/(cs=[]/\tw=tw0)):pY prog w A elt Iu iter cs scope pos tw:=by
  intro R s it acc env J turn n h0
  refine codeAny_loop rfl J (λ k z hz=>?_) n h0
  show wpAny _ _ ((compTurn (.ListComp elt [⟨Iu,iter,cs,0⟩] scope pos) 0 it acc env).onRaise (λ q=>do noteFrame q env;theTreesLotGoes q)) _ _ z
  refine wpAny_noted ?_
  rw [compTurn_list]
  refine Bc (wpAny_standAt (Bc (Dj (turn k z hz) (λ r z1 g1=>?_) λ _ _ q=>q)))
  cases r with
  |none=>exact BH g1
  |some v=>
    refine Bc (Dj g1 (λ _ z2 g2=>Bc (Dj g2 (λ _ z3 g3=>?_) λ _ _ q=>q)) λ _ _ q=>q)
    rcases h with⟨cnd,rfl,rfl⟩|⟨rfl,rfl⟩
    · refine Bc (wpAny_tests_one (Dj g3 (λ b z6 g6=>?_) λ _ _ q=>q))
      cases b with
      |false=>exact BH ⟨rfl,g6⟩
      |true=>exact Bc (Bc (Dj g6 (λ x z4 g4=>Bc (Dj g4 (λ _ z5 g5=>BH (BH ⟨rfl,g5⟩)) λ _ _ q=>q)) λ _ _ q=>q))
    · exact Bc (BH (Bc (Bc (Dj g3 (λ x z4 g4=>Bc (Dj g4 (λ _ z5 g5=>BH (BH ⟨rfl,g5⟩)) λ _ _ q=>q)) λ _ _ q=>q))))
end
def PTw (X:Cx)(tw:Env->(Bool->Ic->Prop)->(Ib->Ic->Prop)->Ic->Prop)(tt:TT):Prop:=∀Io s σ H (Q:Bool->Hp->Prop) (Q':Bool->Ic->Prop) (E:Ib->Ic->Prop),Inv X Io σ H s->tt σ H Q->(∀b s',(∃H',Inv X Io σ H' s'/\Q b H')->Q' b s')->tw X.env Q' E s
def ttT:TT:=λ _ H Q=>Q true H
theorem wY:PTw X tw0 ttT:=λ _ _ _ H _ _ _ I h k=>k _ _ ⟨H,I,h⟩
theorem wW {cnd:Ik}(ht:PT X cnd tt)(hx:∀e s,X.xe e s->False):PTw X (twI X.prog X.w X.A cnd) tt:=
 λ Io s σ H Q Q' E I h k=>Dj (ht Io s σ H Q I h) (λ b s' z=>k b s' z) λ _ _ z=>(hx _ _ z).elim
theorem kK:cap (N.map λ _=>none) σ=List.replicate N.length none:=by
 unfold cap;rw [Dv];exact HS
theorem sj (hkind:scope.kind=.function)(hfree:∀x∈scope.names,x.2≠ .free)(hcell:∀x∈scope.names,x.2≠ .cell)(hnames:∀x∈scope.names,x.2=.local->scope.names.lookup x.1=some .local):Caps X N scope [] (N.map λ _=>none):=by
 have rl:∀x∈(relabel scope X.env).names,x∈scope.names:=by
  intro x hx;obtain⟨⟨n,k⟩,m,e⟩:=DI.mp hx;have hk:k≠ .free:=hfree _ m;have:(k==NameKind.free)=false:=by simpa using hk
  simp [this] at e;rw [<-e];exact m
 refine⟨hkind,hcell,hnames,closureFor_none hfree,λ x c h=>(by cases h),λ x h=>?_,A9 ..,λ i x j h1 h2=>?_⟩
 ·rcases h with h|h
  ·exact absurd rfl (hcell _ (rl _ (Dd h)))
  ·exact absurd rfl (hfree _ (rl _ (Dd h)))
 ·rw [B4] at h2;cases e:N[i]? with
  |none=>rw [e] at h2;cases h2
  |some y=>rw [e] at h2;cases h2
theorem zC (h:xo N.length wi g te σ H Q):dn (N.map λ _=>none) wi g ttT te σ H Q:=by
 unfold dn;rw [kK];exact h
theorem xa (h:oq N.length wi g tt te σ H Q):dn (N.map λ _=>none) wi g tt te σ H Q:=by
 unfold dn;rw [kK];exact h
section
variable {X:Cx}{N:List Str}{scope:Scope}{cl:List (Str × HZ)}{js:List (Option Nat)}{elt cnd Iu iter:Ik}{cs:List Ik}{pos:Pos}{wi:TI}{g:TG}{tt:TT}{te:TE}{tw:Env -> (Bool -> Ic -> Prop) -> (Ib -> Ic -> Prop) -> Ic -> Prop}
theorem gO {Io:List (HZ×Il)}{s:Ic}{RR:Ib->HZ->Result->Ic->Prop}
  (hc:X.calm=true) (Cp:Caps X N scope cl js)
  (hi:PI X Iu iter wi) (hg:∀fp s H,PG (aQ X N scope cl fp s H) Iu g) (LR:pY X.prog X.w X.A elt Iu iter cs scope pos tw) (ht:∀fp s H,PTw (aQ X N scope cl fp s H) tw tt) (he:∀fp s H,PE (aQ X N scope cl fp s H) elt te)
  (I:Inv X Io σ H s) (h:dn js wi g tt te σ H Q)
  (hR:∀(l C:HZ) (H':Hp) (s':Ic),Inv X Io σ H' s'->FpOk X Io H' C->(∃m,s'.heap.Ns C m)->Q (.ref l) H'->RR (.ref l) C (.ok .next) s'):
  wpAny (model X.prog X.w) X.A (eval iter X.env) (λ x s₁=>wpAny (model X.prog X.w) X.A (pyIter x) (λ it s₂=>wpAny (model X.prog X.w) X.A (newList []) (λ acc s₃=>
   wpAny (model X.prog X.w) X.A (newFunctionEnv scope X.env.globals cl [] X.env.qual none .none (some X.env)) (λ cenv s₄=>
    codeAny (model X.prog X.w) X.A (.compStart (.ListComp elt [⟨Iu,iter,cs,0⟩] scope pos) 0 it acc {cenv with scope:=relabel scope X.env}) (RR acc cenv.locals) s₄) X.xe s₃) X.xe s₂) X.xe s₁) X.xe s:=by
 refine thn (hi Io s σ H _ I h) λ v s1 h1=>thn h1 λ itv s2 h2=>?_
 obtain⟨it,fp,tn,J,H2,e,I2,T,st2,f2,hw⟩:=h2;subst e;have hl2:H2 s2.heap.objs.size=none:=I2.hok.fresh (Bh _);obtain⟨W,⟨m0,w0⟩,turn⟩:=hw s2.heap.objs.size hl2;have lt2:∀b∈fp,b<s2.heap.objs.size:=λ b hb=>let⟨o,e,_⟩:=T.obj _ _ st2 b hb;BD e
 refine wpAny_newList ?_;have I3:Inv X Io σ (upd H2 s2.heap.objs.size (.lst [])) {s2 with heap:=s2.heap.push {cls:=.type "list",data:=.seq ([]:List Ib).toArray}}:=
  I2.laid (t':=s2.toks) (λ b u e=>Bi _ e) (Bh _) ⟨BX _,[],0,.nil,BY _ rfl⟩
 have st3:tn 0 (s2.heap.push {cls:=.type "list",data:=.seq ([]:List Ib).toArray}):=T.keep _ _ _ st2 λ b hb o e=>Bi _ e
 have lt3:∀b∈fp,b<(s2.heap.push {cls:=.type "list",data:=.seq ([]:List Ib).toArray}).objs.size:=λ b hb=>by rw [Fy];exact Hv (lt2 b hb)
 have f3:∀b∈fp,FpOk X Io (upd H2 s2.heap.objs.size (.lst [])) b:=λ b hb=>⟨by rw [upd_ne (Ci (lt2 b hb))];exact(f2 b hb).1,(f2 b hb).2⟩
 generalize s2.heap.objs.size=l at*;generalize upd H2 l (.lst [])=H3 at*;have hs3:∃s3:Ic,s3={s2 with heap:=s2.heap.push {cls:=.type "list",data:=.seq ([]:List Ib).toArray}}:=⟨_,rfl⟩;obtain⟨s3,e3⟩:=hs3;rw [<-e3] at I3;rw [<-e3];have st3:tn 0 s3.heap:=by rw [e3];exact st3
 have lt3:∀b∈fp,b<s3.heap.objs.size:=by rw [e3];exact lt3
 clear e3;refine wpAny_newFunctionEnv Cp.nocell (by intro y hy;simp at hy) (λ h4 hns hsb=>?_) Cp.kind;have kp:∀b o,s3.heap.get? b=some o->h4.get? b=some o:=λ b o e=>hsb.extBut b o (Ci (BD e)) (Bi _ e)
 have I4:=qp (N:=N) (t':=s3.toks+([]:List (Str×Ib)).length) I3 Cp f3 lt3 hns kp;have st4:tn 0 h4:=T.keep _ _ _ st3 λ b hb o e=>kp b o e
 have stat:∀{H':Hp},(∀b∈fp,H' b=none)->∀b∈fp,FpOk (aQ X N scope cl fp s3 H3) [] H' b:=λ hn b hb=>
  ⟨hn b hb,(I4.ok.exf b hb).1,I4.ok.exfs b hb,.inl hb,(I4.ok.exf b hb).2,λ p hp=>absurd (show p∈([]:List (HZ×Il)) from hp) Z6⟩
 have loop:codeAny (model X.prog X.w) X.A (.compLoop (.ListComp elt [⟨Iu,iter,cs,0⟩] scope pos) 0 (.ref it) (.ref l) (compEnvC scope cl s3.heap.objs.size X.env)) (RR (.ref l) s3.heap.objs.size)
   {s3 with heap:=h4,toks:=s3.toks+([]:List (Str×Ib)).length}:=by
  refine LR _ _ _ _ _ (λ n s'=>∃i ys σ' H',Inv (aQ X N scope cl fp s3 H3) [] σ' H' s'/\tn i s'.heap/\(∀b∈fp,H' b=none)/\W i n ys σ' H') ?_ m0 ⟨0,[],_,_,I4,st4,λ b hb=>(f3 b hb).1,w0⟩;rintro n s5 ⟨i,ys,σ5,H5,I5,st5,fr5,w5⟩;rcases turn i n ys σ5 H5 w5 with⟨stop,q⟩|⟨go,step⟩
  ·refine thn (T.done (aQ X N scope cl fp s3 H3) rfl rfl rfl hc i [] s5 σ5 H5 _ I5 (stat fr5) st5 stop) λ r s6 z9=>?_
   obtain⟨hr,I6⟩:=z9;subst hr;exact hR _ _ _ _ (nk I3 f3 I6) (I3.fpOk (Bh _) I6.free) (let⟨m,hn,_⟩:=I6.loc;⟨m,hn⟩) q
  ·refine thn (T.item (aQ X N scope cl fp s3 H3) rfl rfl rfl hc i [] s5 σ5 H5 _ I5 (stat fr5) st5 go) λ r s6 z9=>?_
   obtain⟨u,hr,h6⟩:=z9;subst hr;refine thn h6 λ _ s7 z9=>?_
   obtain⟨x,H7,I7,r7,y7,st7,fr7⟩:=z9;have I7':=I7.pinned (stat fr7) (T.obj _ _ st7);refine Dj (hg fp s3 H3 _ s7 σ5 H7 x u _ I7' r7 (step x H7 y7)) (λ _ s8 z9=>?_) (λ _ _ z=>False.elim z);obtain⟨σ8,H8,I8,q8⟩:=z9;refine ht fp s3 H3 _ s8 σ8 H8 _ _ _ I8 q8 λ bb s85 z85=>?_
   obtain⟨H85,I85,q85⟩:=z85;cases bb with
   |false=>
    rw [Bu BL] at q85 ⊢;obtain⟨m',hm',w9⟩:=q85;refine⟨m',hm',i+1,ys,σ8,H85,I85.unpinned,T.keep _ _ _ st7 λ b hb o e=>(I85.pin (b,o) (BB _ (BB _ (bp hb e)))).1,λ b hb=>?_,w9⟩;obtain⟨o,e,d⟩:=T.obj _ _ st7 b hb;exact(I85.pin (b,o) (BB _ (BB _ (bp hb e)))).2.1
   |true=>
   rw [BM rfl] at q85 ⊢;refine Dj (he fp s3 H3 _ s85 σ8 H85 _ I85 q85) (λ v s9 z9=>?_) (λ _ _ z=>False.elim z);obtain⟨y,H9,I9,r9,hl9,hz9,m',hm',w9⟩:=z9;refine Dj (bv (X:=aQ X N scope cl fp s3 H3) _ s9 σ8 H9 (.ref l) [y] (.ref l) [v] (λ z Hz=>Hz=upd H9 l (.lst (ys++[y]))) I9 rfl (.cons r9 .nil) ⟨l,ys,y,rfl,rfl,hl9,hz9,rfl⟩)
    (λ _ s10 ⟨z,Hz,I10,_,eH⟩=>?_) (λ _ _ z=>False.elim z)
   subst eH;refine⟨m',hm',i+1,ys++[y],σ8,_,I10.unpinned,T.keep _ _ _ st7 λ b hb o e=>(I10.pin (b,o) (BB _ (BB _ (bp hb e)))).1,λ b hb=>?_,w9⟩;obtain⟨o,e,d⟩:=T.obj _ _ st7 b hb;exact(I10.pin (b,o) (BB _ (BB _ (bp hb e)))).2.1
 exact codeAny_compStart_list loop (T.self X.A 0 _ _ _ st4 loop)
theorem ix (hc:X.calm=true)(Cp:Caps X N scope cl js)
  (hi:PI X Iu iter wi) (hg:∀fp s H,PG (aQ X N scope cl fp s H) Iu g) (LR:pY X.prog X.w X.A elt Iu iter cs scope pos tw) (ht:∀fp s H,PTw (aQ X N scope cl fp s H) tw tt) (he:∀fp s H,PE (aQ X N scope cl fp s H) elt te)
  (hs:autoParam (∀x,foldedSetIterable iter X.env x=pure x) ZX):PE X (.ListComp elt [⟨Iu,iter,cs,0⟩] scope pos) (dn js wi g tt te):=by
 intro Io s σ H Q I h;rw [eval_ListComp];refine wpAny_comprehension_free (use:=none) (Q:=EP X Io σ Q) rfl hs Cp.clos Cp.kind Cp.names
  (gO (RR:=λ acc C=>compPost (model X.prog X.w) X.A X.xe none (EP X Io σ Q) acc C) hc Cp hi hg LR ht he I h ?_)
 rintro l C H' s' I' fC ⟨m,hn⟩ q;exact⟨m,hn,λ h' sb'=>⟨.ref l,H',I'.turned (t':=s'.toks) (λ b o hb e=>(sb'.2 b hb).trans e) fC.1 fC.2.1 fC.2.2.2.1 fC.2.2.2.2.1 fC.2.2.2.2.2,rfl,q⟩⟩
theorem vp {i:Nat}(hN:X.N.Nodup)(hiy:X.N[i]?=some y)(hy:Loc X.env.scope y)
    (hc:X.calm=true) (Cp:Caps X N scope cl js)
    (hi:PI X Iu iter wi) (hg:∀fp s H,PG (aQ X N scope cl fp s H) Iu g) (LR:pY X.prog X.w X.A elt Iu iter cs scope pos tw) (ht:∀fp s H,PTw (aQ X N scope cl fp s H) tw tt) (he:∀fp s H,PE (aQ X N scope cl fp s H) elt te)
    (hsw:swapsWith (.ListComp elt [⟨Iu,iter,cs,0⟩] scope pos) (some (.Name y py)) spos.line X.env=pure true)
    (hs:autoParam (∀x,foldedSetIterable iter X.env x=pure x) ZX) (hf:autoParam (X.fn y=true\/X.env.scope.names.lookup y=some .local) ZW):
    PS X (.Assign [.Name y py] (.ListComp elt [⟨Iu,iter,cs,0⟩] scope pos) spos) (xh i (dn js wi g tt te)):=by
  intro Io s σ H D I h
  rw [exec_Assign_Name_used _ _ _ _ hsw]
  refine Bc (wpAny_standAt (Bc ?_))
  show wpAny _ X.A (do let _<-comprehension (.ListComp elt [⟨Iu,iter,cs,0⟩] scope pos) scope X.env _ (newList []) false (eval iter X.env) (some (assign (.Name y py) X.env))) _ _ s
  refine Bc (Dj (wpAny_comprehension_free (use:=some (assign (.Name y py) X.env)) (Q:=λ _ s'=>SP X Io D .next s') rfl hs Cp.clos Cp.kind Cp.names
    (gO (RR:=λ acc C=>compPost (model X.prog X.w) X.A X.xe (some (assign (.Name y py) X.env)) (λ _ s'=>SP X Io D .next s') acc C) hc Cp hi hg LR ht he I h ?_)) (λ _ s' hq=>BH (BH hq)) λ _ _ e=>e)
  rintro l C H' s' I' fC ⟨m,hn⟩ q
  show wpAny _ X.A (assign (.Name y py) X.env (.ref l)) _ _ _
  refine wpAny_assign_Name (jt (v:=.ref l) I' hN hiy hy (show RelV (.ref l) (.ref l) from rfl) (λ s2 I2 z9=>?_) hf)
  obtain⟨a,sb,ha⟩:=z9
  have hCa:C≠a:=by
    rcases ha with ha|ha
    · rw [ha];exact fC.2.1
    · exact Fb (fC.2.2.2.2.1 y a ha)
  exact⟨m,hn.sameBut sb hCa,λ h' sb'=>⟨_,H',I2.turned (t':=s2.toks) (λ b o hb e=>(sb'.2 b hb).trans e) fC.1 fC.2.1 fC.2.2.2.1 fC.2.2.2.2.1 fC.2.2.2.2.2,q⟩⟩
theorem vL (hc:X.calm=true)(hkind:scope.kind=.function)(hfree:∀x∈scope.names,x.2≠ .free)(hcell:∀x∈scope.names,x.2≠ .cell)(hnames:∀x∈scope.names,x.2=.local->scope.names.lookup x.1=some .local)(hi:PI X Iu iter wi)(hg:∀fp s H,PG (aQ X N scope [] fp s H) Iu g)(he:∀fp s H,PE (aQ X N scope [] fp s H) elt te)(hs:autoParam (∀x,foldedSetIterable iter X.env x=pure x) ZX):
  PE X (.ListComp elt [⟨Iu,iter,[],0⟩] scope pos) (xo N.length wi g te):=
 λ Io s σ H Q I h=>ix hc (sj hkind hfree hcell hnames) hi hg (o5 (.inr ⟨rfl,rfl⟩)) (λ _ _ _=>wY) he hs Io s σ H Q I (zC h)
theorem eQ (hc:X.calm=true)(hkind:scope.kind=.function)(hfree:∀x∈scope.names,x.2≠ .free)(hcell:∀x∈scope.names,x.2≠ .cell)(hnames:∀x∈scope.names,x.2=.local->scope.names.lookup x.1=some .local)(hi:PI X Iu iter wi)(hg:∀fp s H,PG (aQ X N scope [] fp s H) Iu g)(ht:∀fp s H,PT (aQ X N scope [] fp s H) cnd tt)(he:∀fp s H,PE (aQ X N scope [] fp s H) elt te)(hs:autoParam (∀x,foldedSetIterable iter X.env x=pure x) ZX):
  PE X (.ListComp elt [⟨Iu,iter,[cnd],0⟩] scope pos) (oq N.length wi g tt te):=
 λ Io s σ H Q I h=>ix hc (sj hkind hfree hcell hnames) hi hg (o5 (.inl ⟨_,rfl,rfl⟩)) (λ _ _ _=>wW (ht _ _ _) λ _ _ z=>z) he hs Io s σ H Q I (xa h)
theorem sr {i:Nat}(hN:X.N.Nodup)(hiy:X.N[i]?=some y)(hy:Loc X.env.scope y)(hc:X.calm=true)(hkind:scope.kind=.function)(hfree:∀x∈scope.names,x.2≠ .free)(hcell:∀x∈scope.names,x.2≠ .cell)(hnames:∀x∈scope.names,x.2=.local->scope.names.lookup x.1=some .local)(hi:PI X Iu iter wi)(hg:∀fp s H,PG (aQ X N scope [] fp s H) Iu g)(ht:∀fp s H,PT (aQ X N scope [] fp s H) cnd tt)(he:∀fp s H,PE (aQ X N scope [] fp s H) elt te)(hsw:swapsWith (.ListComp elt [⟨Iu,iter,[cnd],0⟩] scope pos) (some (.Name y py)) spos.line X.env=pure true)(hs:autoParam (∀x,foldedSetIterable iter X.env x=pure x) ZX)(hf:autoParam (X.fn y=true\/X.env.scope.names.lookup y=some .local) ZW):
  PS X (.Assign [.Name y py] (.ListComp elt [⟨Iu,iter,[cnd],0⟩] scope pos) spos) (xh i (oq N.length wi g tt te)):=
 λ Io s σ H D I h=>vp hN hiy hy hc (sj hkind hfree hcell hnames) hi hg (o5 (.inl ⟨_,rfl,rfl⟩)) (λ _ _ _=>wW (ht _ _ _) λ _ _ z=>z) he hsw hs hf Io s σ H D I (xa h)
theorem k6 (hc:X.calm=true)(Cp:Caps X N scope cl js)(hi:PI X Iu iter wi)(hg:∀fp s H,PG (aQ X N scope cl fp s H) Iu g)(he:∀fp s H,PE (aQ X N scope cl fp s H) elt te)(hs:autoParam (∀x,foldedSetIterable iter X.env x=pure x) ZX):
  PE X (.ListComp elt [⟨Iu,iter,[],0⟩] scope pos) (zc js wi g te):=
 λ Io s σ H Q I h=>ix hc Cp hi hg (o5 (.inr ⟨rfl,rfl⟩)) (λ _ _ _=>wY) he hs Io s σ H Q I (h)
end
theorem qY {lo:Int}{σ0:St}(Pv:Nat->List V->St->Hp->Prop)(h0:Pv 0 [] σ0 (upd H1 l (.lst [])))
  (hs:∀i ys σ H,i<k->Pv i ys σ H->g (.int (lo+(i:Nat))) σ H λ σ3 H3=>te σ3 H3 λ y H4=>H4 l=some (.lst ys)/\ys.length<sizeLine/\Pv (i+1) (ys++[y]) σ3 (upd H4 l (.lst (ys++[y]))))
  (hd:∀ys σ H,Pv k ys σ H->R H) (mg:∀x σ H (A B:St->Hp->Prop),(∀σ' H',A σ' H'->B σ' H')->g x σ H A->g x σ H B) (mt:∀σ H (A B:VK),(∀v H',A v H'->B v H')->te σ H A->te σ H B):
  ∃W:Nat->Nat->List V->St->Hp->Prop,(∃m,W 0 m [] σ0 (upd H1 l (.lst [])))/\∀i m ys σ' H',W i m ys σ' H'->
   ((Itr lo k).stop i H'/\R H')\/((Itr lo k).go i H'/\∀x H2,(Itr lo k).yld i H' x H2->g x σ' H2 λ σ3 H3=>te σ3 H3 λ y H4=>
    H4 l=some (.lst ys)/\ys.length<sizeLine/\∃m',m'<m/\W (i+1) m' (ys++[y]) σ3 (upd H4 l (.lst (ys++[y])))):=by
 refine⟨λ i m ys σ H=>m=k-i/\i≤k/\Pv i ys σ H,⟨k,Z6,BX _,h0⟩,?_⟩;rintro i m ys σ H ⟨rfl,hi,p⟩;by_cases Ir:i<k
 ·refine .inr ⟨Ir,λ x H' y=>?_⟩;obtain⟨e,y⟩:=y;subst e y;exact mg _ _ _ _ _ (λ σ3 H3 z=>mt _ _ _ _ (λ y H4 z9=>by obtain⟨z1,z2,z4⟩:=z9;exact⟨z1,z2,k-(i+1),Cy _ _ Ir,rfl,Ir,z4⟩) z) (hs i ys σ _ Ir p)
 ·have e:i=k:=BI hi (Nat.not_lt.1 Ir);subst e;exact .inl ⟨Bh _,hd ys σ H p⟩
structure FunD (K:Frag)(x qual:Str)(st:Im)(dV:Ib)(f:HZ)(fd:Ih):Prop where
 ex:∃(oc:Ib) (od:Option HZ) (kV doc pm:Ib) (an:Option HZ) (Iq ct:Ib) (osl:Array (Option Ib)),
  fd=fnOf x qual (aT st) (aP st) (ak st) dV kV doc pm an Iq ct/\K.lookup f=some ⟨oc,od,.func fd,osl⟩/\codeIn K Iq qual=true
 kp:keepIn K (.ref f)=true
theorem FunD.ok {P:Ie}{w:Ig}{mg:Str->Option Ib}{base:Ij}{dV:Ib}(F:FunD K x qual st dV f fd)(S:FnScope N ps (ak st))
  (hb:∀(Iq:Ib) (A:Ii) (outer:List Env) (s:Ic) (H:Hp) (vs:List V) (Q:VK) (E:XK),Room k (A.deeper (envOfC qual (ak st) s.heap.objs.size f Iq))->sp vs H Q E->
   let X:=(cxOf CX0 P w K mg base N qual (ak st) f Iq A outer s H E).nox;∃t,PSs X (aP st) t/\t {nx:=λ _ H'=>Q .non H',rt:=Q} (start N vs) H) (len:autoParam (∀vs H Q E,sp vs H Q E->vs.length=ps.length) ZV):FnOk P w K mg base CX0 (k+1) f fd ps sp:=by
 obtain⟨oc,od,kV,doc,pm,an,Iq,ct,osl,rfl,lk,hcd⟩:=F.ex;refine oC lk hcd S len λ A outer s H vs Q E hr hsp=>?_
 obtain⟨t,h,q⟩:=hb Iq A outer s H vs Q E hr hsp;exact⟨t,h.nox,q⟩
def xu (P:Ie)(w:Ig)(h:Ij)(d:HZ)(a b:Int):Prop:=∃t t':Tok,h.MapOf (intKind P w) d (valueAt [((8:Int),Value.int a t),(16,.int b t')])
theorem at8 (a b:Ib):valueAt [((8:Int),a),(16,b)] 8=some a:=rfl
theorem AV (a b:Ib):valueAt [((8:Int),a),(16,b)] 16=some b:=rfl
def TabK (K:Frag)(d:HZ)(a b:Int):Prop:=(d==sysModules)=false/\∃(t1 t2 t3 t4:Tok) (ep:Nat),K.lookup d=some ⟨.type "dict",none,.dict #[⟨8,.int 8 t1,.int a t2⟩,⟨16,.int 16 t3,.int b t4⟩] ep,#[]⟩
theorem TabK.map {a:Int}{h:Ij}(P:Ie)(w:Ig)(T:TabK K d a b)(X:K.In h):xu P w h d a b:=by
 obtain⟨_,t1,t2,t3,t4,ep,e⟩:=T;refine⟨t2,t4,_,_,ep,X _ _ e,⟨rfl,rfl,rfl⟩,rfl,?_,?_⟩
 ·intro en hen;have hen':en=⟨8,.int 8 t1,.int a t2⟩\/en=⟨16,.int 16 t3,.int b t4⟩:=by simpa using hen
  rcases hen' with rfl|rfl
  ·exact⟨8,intKind_is P w 8 t1,by show(8:Int)=hashInt 8;decide+kernel⟩
  ·exact⟨16,intKind_is P w 16 t3,by show(16:Int)=hashInt 16;decide+kernel⟩
 ·intro k;show findBy Value.isInt _ k=_;unfold findBy valueAt;by_cases h8:k=8
  ·subst h8;simp [Value.isInt]
  ·by_cases h16:k=16
   ·subst h16;simp [Value.isInt]
   ·have e1:¬(8:Int)=k:=λ z=>h8 z.symm
    have e2:¬(16:Int)=k:=λ z=>h16 z.symm
    simp [Value.isInt,e1,e2]
def AN (P:Ie)(w:Ig)(d:HZ)(a b:Int):HO:=.ext λ h=>xu P w h d a b
def Sq2 (X:Cx)(H:Hp)(d:HZ)(a b:Int):Prop:=TabK X.K d a b\/H d=some (AN X.prog X.w d a b)
section
variable {X:Cx}{Io:List (HZ × Il)}{σ:St}{H:Hp}{s:Ic}
theorem Inv.map2 {a:Int}(I:Inv X Io σ H s)(h:Sq2 X H d a b):xu X.prog X.w s.heap d a b:=by
 rcases h with h|h
 ·exact h.map _ _ I.kIn
 ·exact(I.hok d _ h).1
def AC (X:Cx):R2:=λ x y H Q=>∃d i a b,x=.ref d/\y=.int i/\Sq2 X H d a b/\((i=8/\Q (.int a) H)\/(i=16/\Q (.int b) H))
theorem kb:IxR X (AC X):=by
 intro value slice Io s σ H x y v u Q I rx ry h hs;obtain⟨d,i,a,b,rfl,rfl,hm,hq⟩:=h;cases rx;obtain⟨t,rfl⟩:=ry;obtain⟨t1,t2,hm⟩:=I.map2 hm;rcases hq with⟨rfl,q⟩|⟨rfl,q⟩
 ·exact tail_any hm.typeIs slot_dict_getitem.lookup (wpAny_getItem_of (intKind_is _ _ _ _) hm (at8 _ _) ⟨.int a,H,I.tok _,⟨_,rfl⟩,q⟩) hs
 ·exact tail_any hm.typeIs slot_dict_getitem.lookup (wpAny_getItem_of (intKind_is _ _ _ _) hm (AV _ _) ⟨.int b,H,I.tok _,⟨_,rfl⟩,q⟩) hs
theorem jL:OpR X (compareOp .NotIn) (λ x y H Q=>∃d i a b,x=.int i/\y=.ref d/\TabK X.K d a b/\(i=8\/i=16)/\Q (.bl false) H):=by
 intro Io s σ H x y v u Q I rx ry h;obtain⟨d,i,a,b,rfl,rfl,hT,hi,q⟩:=h;obtain⟨t,rfl⟩:=rx;cases ry;obtain⟨t1,t2,hm⟩:=hT.map X.prog X.w I.kIn;refine wpAny_notIn_of (intKind_is _ _ i t) hT.1 hm ?_;rcases hi with rfl|rfl
 ·exact⟨.bl false,H,I.tok _,rfl,q⟩
 ·exact⟨.bl false,H,I.tok _,rfl,q⟩
theorem yZ (hu:X.A.units+64<cLine):OpR X (compareOp .Eq) (λ x y H Q=>∃(p q:HZ) (ns ms:List Int),x=.ref p/\y=.ref q/\SqL X.K H p (ns.map V.int)/\SqL X.K H q (ms.map V.int)/\Q (.bl (decide (ns=ms))) H):=by
 intro Io s σ H x y v u Q I rx ry h;obtain⟨p,q,ns,ms,rfl,rfl,h1,h2,k⟩:=h;cases rx;cases ry;obtain⟨its,rv,pl,hz⟩:=I.list h1;obtain⟨its2,rv2,pl2,hz2⟩:=I.list h2;exact PySem.W.eq_intsK pl.isList (cg rv) pl2.isList (cg rv2) hu ⟨.bl _,H,I,rfl,k⟩
end
end L2
namespace QQ
open PySem
section
variable {M:Model}{A:Ii}{E:Ib -> Ic -> Prop}
variable {nm q nm' q':Str}{C N D N':HZ}{bs bm bs' bm':List Ib}{hdct hdct':Bool}{sn sn':List Str}{sub sub':List Ib}{ab ab':Bool}{col col':Option Bool}{dd dd':Option HZ}{k0 k1 k2 k3 k5 j0 j1 j2 j3 j5:Option Ib}{newId newId':String}
theorem mf {h:Ij}{g:Array GenState}{d:Drawn}{t:Nat}{os:OsState}{e:HZ}{oe:Il}{Q:Bool->Ic->Prop}
  (hC:h.get? C=some (excClassObj nm q C N bs bm hdct sn sub ab col dd k0 k1 k2 k3 k5 newId)) (hD:h.get? D=some (excClassObj nm' q' D N' bs' bm' hdct' sn' sub' ab' col' dd' j0 j1 j2 j3 j5 newId'))
  (he:h.get? e=some oe) (hcls:oe.cls=.ref C) (hbase:bm'.contains (.type "BaseException")=true) (hm:(Value.ref C::bm).contains (.ref D)=true) (ne:C≠D)
  (hq:Q true ⟨h,g,d,t,os⟩):wpAny M A (excMatches (.ref e) (.ref D)) Q E ⟨h,g,d,t,os⟩:=by
 have hcB:(Value.ref D::bm').contains (.type "BaseException")=true:=by rw [List.contains_cons,hbase,Bool.or_true]
 have f:=tc_notTuple;unfold excMatches
 repeat (first|(with_reducible refine wpAny_loadPart_at he ?_;rw [hcls])|with_reducible refine wpAny_loadPart_at hD ?_|(with_reducible refine wpAny_isSubtype_exc hD ?_;rw [hcB])|(with_reducible refine wpAny_isSubtype_exc hC ?_;rw [hm])|wp_step)
 exact hq
end
end QQ
set_option maxHeartbeats 4000000
namespace L2
open PySem PySem.Spec PyProof.Rows QQ
variable {s s' s1:Ic}{K:Frag}{A:Ii}{Q:Unit->Ic->Prop}{np:Pos}{C a b e f x:HZ}{base h:Ij}{vs:Array Ib}{N:List Str}{k t:Nat}{D:Ib->Prop}{qual y:Str}{σ1:St}{X:Cx}{te:TE}{H H1:Hp}{E:Ib->Ic->Prop}{ox:Il}{P prog:Ie}{mg:Str->Option Ib}{c:Ib}{w:Ig}
theorem ObjOk.there {o:HO}(x:ObjOk P w H h a o):∃ob,h.get? a=some ob:=by
 cases o with
 |lst xs=>obtain⟨_,_,_,_,e⟩:=x;exact⟨_,e⟩
 |tup xs=>obtain⟨_,_,_,ob,e,_⟩:=x;exact⟨_,e⟩
 |dK kvs=>obtain⟨_,_,_,_,o,_,_,e,_⟩:=x;exact⟨_,e⟩
 |dT kvs=>obtain⟨_,_,_,_,o,_,_,e,_⟩:=x;exact⟨_,e⟩
 |set S n=>obtain⟨o,_,_,_,e,_⟩:=x;exact⟨_,e⟩
 |ins C dx fs=>obtain⟨_,_,_,e,_⟩:=x;exact⟨_,e⟩
 |own y=>exact x
 |xd fs=>obtain⟨_,⟨_,_,_,e,_⟩,_⟩:=x;exact⟨_,e⟩
 |rng lo hi=>obtain⟨_,_,_,e⟩:=x;exact⟨_,e⟩
 |frz ob u=>obtain⟨e,_⟩:=x;exact⟨_,e⟩
 |tbl ps=>exact⟨_,show h.get? a=some _ from x⟩
 |met f y=>exact⟨_,show h.get? a=some _ from x⟩
 |ext φ=>obtain⟨_,e,_⟩:=x;exact e
theorem HOk.gone (x:HOk P w H h)(e:h.get? a=none):H a=none:=by
 cases q:H a with
 |none=>rfl
 |some u=>
  obtain⟨ob,r⟩:=(x a u q).there;rw [e] at r;cases r
def Bk (h0:Ij)(H:Hp)(e:HZ)(c:Ib):Prop:=BkH H e c/\∀b,c=.ref b->h0.get? b=none
def CXD (D:Ib->Prop)(P:Ie)(w:Ig):CXT:=λ outer H s E e s'=>∃ea cls fp H',e=.ref ea/\s'.os=s.os/\AllBare s'.gens/\Un (frs outer) [] H H' s.heap s'.heap/\HOk P w H' s'.heap/\
 (∃c,D c/\Fly s'.heap ea cls fp c/\Bk s.heap H' ea c)/\(∀b∈fp,s.heap.get? b=none/\H' b=none)/\E cls none H'
abbrev CXE:Ie->Ig->CXT:=CXD λ _=>True
structure NewA (X:Cx)(Io:List (HZ×Il))(b:HZ):Prop where
 s0:X.s₀.heap.get? b=none
 loc:b≠X.env.locals
 cel:∀x c,X.env.cells.lookup x=some c->c≠b
 pin:∀p∈X.pn++Io,p.1≠b
def BkX (X:Cx)(Io:List (HZ×Il))(H:Hp)(e:HZ)(c:Ib):Prop:=BkH H e c/\∀b,c=.ref b->NewA X Io b
structure New (X:Cx)(Io:List (HZ×Il))(H:Hp)(b:HZ):Prop where
 s0:X.s₀.heap.get? b=none
 h:H b=none
 loc:b≠X.env.locals
 cel:∀x c,X.env.cells.lookup x=some c->c≠b
 pin:∀p∈X.pn++Io,p.1≠b
section
variable {X:Cx}{Io:List (HZ × Il)}{σ:St}{H H':Hp}{s:Ic}
theorem Inv.newA (I:Inv X Io σ H s)(e:s.heap.get? b=none)(hx:b∉X.ex):NewA X Io b:=by
 refine⟨?_,λ z=>?_,λ x c ec z=>?_,λ p hp z=>?_⟩
 ·cases q:X.s₀.heap.get? b with
  |none=>rfl
  |some o=>
   obtain⟨o',r⟩:=I.base.there b o q hx;rw [e] at r;cases r
 ·obtain⟨m,⟨o,_,_,ho,_⟩,_⟩:=I.loc;rw [<-z,e] at ho;cases ho
 ·obtain⟨v,o,ho,_⟩:=I.cell x c ec;rw [z,e] at ho;cases ho
 ·have:=(I.pin p hp).1;rw [z,e] at this;cases this
theorem Inv.new (I:Inv X Io σ H s)(e:s.heap.get? b=none)(n:H' b=none)(hx:b∉X.ex):New X Io H' b:=
 let a:=I.newA e hx
 ⟨a.s0,n,a.loc,a.cel,a.pin⟩
theorem New.ch (n:New X Io H b):(b∈X.ex\/X.s₀.heap.get? b=none)/\b≠X.env.locals/\(∀x c,X.env.cells.lookup x=some c->c≠b)/\∀p∈X.pn++Io,p.1≠b:=⟨.inr n.s0,n.loc,n.cel,n.pin⟩
theorem Inv.landed {h':Ij}{fp:List HZ}(I:Inv X Io σ H s)(hn:∀b∈fp,New X Io H b)(k:∀b o,s.heap.get? b=some o->b∉fp->b∉X.stack.filterMap (·.frame)->h'.get? b=some o)
  (sl:∀b o,s.heap.get? b=some o->b∉fp->∃z,h'.get? b=some {o with slots:=z}) (th:∀b o,s.heap.get? b=some o->∃o',h'.get? b=some o'):Inv X Io σ H {s with heap:=h'}:=by
 have nf:∀b,b∉X.fs->b≠X.env.locals->b∉X.stack.filterMap (·.frame):=λ b h1 h2 z=>by
  rcases BA.mp (I.stkSub b z) with q|q
  ·exact h2 q
  ·exact h1 q
 have tr:∀b u,H b=some u->∀o,s.heap.get? b=some o->h'.get? b=some o:=λ b u e o g=>by
  refine k b o g (λ z=>?_) λ z=>?_
  ·rw [(hn b z).h] at e;cases e
  ·rw [I.stkFree b z] at e;cases e
 refine I.step0 (g':=s.gens) (d':=s.drawn) (t':=s.toks) (ch:=fp) (λ b hb=>(hn b hb).ch) (λ b o h1 h2 h3 g _=>k b o g h3 (nf b h2 h1)) (λ b o _ _ h3 g _=>sl b o g h3) (λ _ _ _ _ n=>n) (λ b o _ g=>th b o g)
  (λ _ _ e=>e) (λ _ _ _ e=>e) (λ b ps e=>⟨#[],by rw [e];simp⟩) (λ m hm=>?_) (λ a o e=>?_) I.bare
 ·obtain⟨o,es,ep,ho,r⟩:=hm;obtain⟨z,q⟩:=sl _ o ho λ y=>(hn _ y).loc rfl
  exact⟨_,es,ep,q,r⟩
 ·refine(I.hok a o e).stay (λ c v hc q=>?_) (λ _ q=>q) λ _ _ q=>q
  rcases hc with z|z
  ·subst z;exact tr c _ e v q
  ·exact tr c _ z v q
theorem Inv.thrown {E:XK}{e:Ib}(I:Inv X Io σ H s)(hx:CXD D X.prog X.w X.stack H s E e s')(hX:X.ex=[]):∃ea cls fp H',e=.ref ea/\Inv X Io σ H' s'/\(∃c,D c/\Fly s'.heap ea cls fp c/\BkX X Io H' ea c)/\(∀b∈fp,New X Io H' b)/\E cls none H':=by
 obtain⟨ea,cls,fp,H',rfl,os,bare,un,hok,⟨c,dc,F,bk,bn⟩,fr,q⟩:=hx;exact⟨ea,cls,fp,H',rfl,I.call' (ch:=[]) os un hok bare (λ b z=>absurd z Z6),⟨c,dc,F,bk,λ b e=>I.newA (bn b e) (by rw [hX];simp)⟩,λ b hb=>I.new (fr b hb).1 (fr b hb).2 (by rw [hX];simp),q⟩
end
theorem kF {scope:Scope}{cd:Ib}{outer:List Env}{s₀:Ic}{H₀:Hp}{E:XK}:
  cF (CXD D P w) (cxOf (CXD D P w) P w K mg base N qual scope f cd A outer s₀ H₀ E) E:=by
 intro Io σ H s e s' I hx;obtain⟨ea,cls,fp,H',rfl,I',⟨c,dc,F,bk,bn⟩,fr,q⟩:=I.thrown hx rfl;show wpAny (model P w) _ (leaving _ (.ref ea)) _ _ _;unfold leaving;refine Bc (Aq I'.ok.frames I'.stack rfl F λ h' T F' hT f3 f4 f5=>?_);have J:=I'.landed fr f3 f4 f5;refine⟨ea,cls,[ea,T],H',rfl,J.os,J.bare,J.base,J.hok,⟨c,dc,F',bk,λ b e=>(bn b e).s0⟩,λ b hb=>?_,q⟩;rcases BA.mp hb with hb|hb
 ·subst hb;have z:=fr b F.here;exact⟨z.s0,z.h⟩
 ·rw [Bx] at hb;subst hb;refine⟨?_,I'.hok.fresh hT⟩;cases z:s₀.heap.get? b with
  |none=>rfl
  |some o=>
   obtain⟨o',r⟩:=I'.base.there b o z (by simp [cxOf]);exact absurd (Bf (BD r) hT) (D5 _)
theorem ig:cF (CXD D P w) X E0:=by
 intro _ _ _ _ _ _ _ h;obtain⟨_,_,_,_,_,_,_,_,_,_,_,q⟩:=h;exact q.elim
theorem Fun.okE {x:Str}{st:Im}{fd:Ih}{ps:List Str}{sp:Sp}(F:Fun K x qual st f fd)(S:FnScope N ps (ak st))
  (hb:∀(Iq:Ib) (A:Ii) (outer:List Env) (s:Ic) (H:Hp) (vs:List V) (Q:VK) (E:XK),Room k (A.deeper (envOfC qual (ak st) s.heap.objs.size f Iq))->sp vs H Q E->
   let X:=(cxOf (CXD D P w) P w K mg base N qual (ak st) f Iq A outer s H E);∃t,PSs X (aP st) t/\t {nx:=λ _ H'=>Q .non H',rt:=Q} (start N vs) H) (len:autoParam (∀vs H Q E,sp vs H Q E->vs.length=ps.length) ZV):FnOk P w K mg base (CXD D P w) (k+1) f fd ps sp:=by
 obtain⟨oc,od,kV,doc,pm,an,Iq,ct,osl,rfl,lk,hcd⟩:=F.ex;exact oC lk hcd S len λ A outer s H vs Q E hr hsp=>hb Iq A outer s H vs Q E hr hsp
noncomputable abbrev bmV:List Ib:=[.type "ValueError",.type "Exception",.type "BaseException",.type "object"]
def ExC (K:Frag)(C:HZ):Prop:=excIn K C bmV "ValueError.__new__"=true
theorem kc (c:ExC K C):∃bm N nm q bs hdct sn sub ab col dd k0 k1 k2 k3 k5,K.lookup C=some (excClassObj nm q C N bs bm hdct sn sub ab col dd k0 k1 k2 k3 k5 "ValueError.__new__")/\
  clsIn K C=some ⟨nm,bs,.ref C::bm,N,q,hdct,sn,sub,ab,col,false⟩/\∀h:Ij,K.In h->(∃mN,h.Ns N mN/\mN "__init__"=none)/\OwnTail h bmV bm:=by
 unfold ExC excIn at c
 split at c
 ·rename_i dd cd sl hl
  split at c
  ·rename_i C1 bm k0 k1 k2 k3 n k5 hm hs
   simp only [Bool.and_eq_true,beq_iff_eq,HA] at c;obtain⟨⟨⟨⟨⟨e1,e2⟩,hdel⟩,ht⟩,hok⟩,hni⟩:=c;subst e1 e2;obtain⟨nm,bs,mro,ns,qn,hd,sn,sub,ab,col,del⟩:=cd;dsimp only at hm hdel hok hni;subst hm hdel;have hsl:sl=#[k0,k1,k2,k3,some (.builtin "ValueError.__new__"),k5]:=by
    obtain⟨l⟩:=sl;simp only at hs;rw [hs]
   subst hsl;refine⟨bm,ns,nm,qn,bs,hd,sn,sub,ab,col,dd,k0,k1,k2,k3,k5,hl,by unfold clsIn;rw [hl],λ h X=>⟨⟨_,.of_isNs (PySem.W.isNs_of_in X hok),PySem.W.nsMap_none_of_in X hok hni⟩,PySem.W.tail_of_in X ht⟩⟩
  ·cases c
 ·cases c
def yB (C:HZ)(E:XK)(te:TE):TS:=λ _ σ H=>te σ H λ _ H1=>E (.ref C) none H1
theorem lV {E:XK}{x:Str}{e:Ik}{cpos pos:Pos}(hx:cF (CXD D X.prog X.w) X E)(hh:X.A.handled=none)(hg:Gl X x)(hm:X.mg x=some (.ref C))(c:ExC X.K C)(he:PE X e te)
  (hst:autoParam (starEach [e] X.env=(false,eval e X.env)::starEach [] X.env) Z0) (hd:autoParam ((x==("__debug__":Str))=false) ZZ) (hD:D .none:=by trivial):PS X (.Raise (some (.Call (.Name x np) [e] [] cpos)) none pos) (yB C E te):=by
 intro Io s σ H D I h;obtain⟨bm,N,nm,q,bs,hdct,sn,sub,ab,col,dd,k0,k1,k2,k3,k5,hl,_,hf⟩:=kc c;obtain⟨⟨mN,hN,hni⟩,T⟩:=hf X.base I.mod.kin;refine wpAny_Raise_call_subT (C:=C) (nm:=nm) (q:=q) (N:=N) (bs:=bs) (bm:=bm) (hdct:=hdct) (sn:=sn) (sub:=sub) (ab:=ab) (col:=col) (dd:=dd) (k0:=k0) (k1:=k1) (k2:=k2) (k3:=k3) (k5:=k5)
  PySem.F.excBase_ValueError (mN:=mN) (T.hasType Z8) hh (by rw [hst];rfl) hni (ld_glob I hg hm ⟨rfl,?_⟩ hd)
 rw [hst];refine Calls.evalArgs_plain (Calls.spliced_cons (thn (he Io s σ H _ I h) λ u s1 ⟨y,H1,I1,r1,q1⟩=>Calls.spliced_nil ?_));refine⟨rfl,by show 1≤sizeLine;decide,I1.kIn C _ hl,hN.keeps I1.bk,T.keeps I1.bk,λ h' ea md=>?_⟩;exact hx Io σ H1 s1 _ _ I1 ⟨ea,_,[ea],H1,rfl,rfl,I1.bare,Un.kept md.keeps,I1.hok.kept md.keeps,⟨_,hD,Fly.made md,.inl rfl,λ b e=>nomatch e⟩,λ b hb=>by
  rw [Bx] at hb;subst hb;exact⟨md.new,I1.hok.gone md.new⟩,q1⟩
noncomputable def w6 (X:Cx) (pn:List (HZ×Il)) (σ0:St) (E:XK) (D:Ib->Prop:=λ _=>True):Cx:={X with
 pn:=pn
 xe:=λ e s'=>∃ea cls fp H',e=.ref ea/\Inv {X with pn:=pn} [] σ0 H' s'/\(∃c,D c/\Fly s'.heap ea cls fp c/\BkX {X with pn:=pn} [] H' ea c)/\(∀b∈fp,New {X with pn:=pn} [] H' b)/\E cls none H'}
noncomputable def cxHand (X:Cx) (e:HZ) (G:Hp):Cx:={X with
 A:=X.A.mark (some (.ref e))
 H₀:=G
 xe:=λ _ _=>False}
def fu (CX:CXT)(X:Cx)(E:XK)(σ0:St):Prop:=∀(Io:List (HZ×Il)) (H:Hp) (s:Ic) (e:Ib) (s':Ic),Inv X Io σ0 H s->CX X.stack H s E e s'->X.xe e s'
section
variable {X:Cx}{Io pn:List (HZ × Il)}{σ σ0:St}{H:Hp}{s:Ic}{E:XK}{W:Ib -> Ic -> Prop}
theorem Cx.Ok.repn (ok:X.Ok)(pn:List (HZ×Il))(W:Ib->Ic->Prop):Cx.Ok {X with pn:=pn,xe:=W}:=
 ⟨ok.mod,ok.kind,ok.glob,ok.blt,ok.above,ok.inj,ok.has,ok.cab,ok.hd,ok.frames,ok.stk,ok.exf,ok.bs,ok.bsz,ok.noex,ok.exfs,ok.funs,ok.frf⟩
theorem Cx.Ok.unpn (ok:Cx.Ok {X with pn:=pn,xe:=W}):X.Ok:=
 ⟨ok.mod,ok.kind,ok.glob,ok.blt,ok.above,ok.inj,ok.has,ok.cab,ok.hd,ok.frames,ok.stk,ok.exf,ok.bs,ok.bsz,ok.noex,ok.exfs,ok.funs,ok.frf⟩
theorem Inv.lift (I:Inv X Io σ H s)(W:Ib->Ic->Prop):Inv {X with pn:=X.pn++Io,xe:=W} [] σ H s:=
 ⟨I.ok.repn _ W,I.os,I.bare,I.base,I.loc,I.cell,I.free,I.freeC,λ p hp=>I.pin p (by simpa using hp),I.hok,I.len⟩
theorem Inv.unlift {pins':List (HZ×Il)}(I:Inv {X with pn:=X.pn++Io,xe:=W} pins' σ H s):Inv X Io σ H s:=
 ⟨I.ok.unpn,I.os,I.bare,I.base,I.loc,I.cell,I.free,I.freeC,λ p hp=>I.pin p (C4 _ hp),I.hok,I.len⟩
theorem Inv.repn {W':Ib->Ic->Prop}(I:Inv {X with pn:=pn,xe:=W} Io σ H s):Inv {X with pn:=pn,xe:=W'} [] σ H s:=
 ⟨I.ok.unpn.repn _ W',I.os,I.bare,I.base,I.loc,I.cell,I.free,I.freeC,λ p hp=>I.pin p (by simp at hp;exact C4 _ hp),I.hok,I.len⟩
theorem SP.unlift {D:Ends}{f:Flow}(h:SP {X with pn:=X.pn++Io,xe:=W} [] D f s'):SP X Io D f s':=by
 cases f with
 |next=>obtain⟨σ',H',I,q⟩:=h;exact⟨σ',H',I.unlift,q⟩
 |brk=>obtain⟨σ',H',I,q⟩:=h;exact⟨σ',H',I.unlift,q⟩
 |cont=>obtain⟨σ',H',I,q⟩:=h;exact⟨σ',H',I.unlift,q⟩
 |ret u=>obtain⟨v,σ',H',I,r,q⟩:=h;exact⟨v,σ',H',I.unlift,r,q⟩
theorem xn {D':Ib->Prop}(hX:X.ex=[])(hD:∀c,D c->D' c:=by intros;trivial):fu (CXD D X.prog X.w) (w6 X pn σ0 E D') E σ0:=by
 intro Io H s e s' I hx;obtain⟨ea,cls,fp,H',rfl,I',F,fr,q⟩:=I.thrown hx hX;obtain⟨c,dc,F,bk,bn⟩:=F;exact⟨ea,cls,fp,H',rfl,I'.repn,⟨c,hD c dc,F,bk,λ b e=>let n:=bn b e;⟨n.s0,n.loc,n.cel,λ p hp=>n.pin p (by simp at hp;exact C4 _ hp)⟩⟩,λ b hb=>let n:=fr b hb;⟨n.s0,n.h,n.loc,n.cel,λ p hp=>n.pin p (by simp at hp;exact C4 _ hp)⟩,q⟩
end
section
variable {X:Cx}{CX:CXT}{k:Nat}{f C:HZ}{fd:Ih}{ps:List Str}{sp:Sp}{dvs:List V}{ds:List Ib}{E:XK}{x m:Str}{p pos apos:Pos}{e o:Ik}{es:List Ik}{ta:TE}{t:TA}{σ0:St}
def tAt (σ0:St)(t:TE):TE:=λ σ H Q=>σ=σ0/\t σ H Q
theorem qe {Io:List (HZ×Il)}{Q:VK}{us:List Ib}{vs:List V}(F:FnOk X.prog X.w X.K X.mg X.base CX k f fd ps sp)(hr:Room k X.A)(hb:Binds X.K fd ps ds)(hd:Vals dvs ds)(hx:fu CX X E σ0)
  (I:Inv X Io σ0 H s) (r:Vals vs us) (h:sp (vs++dvs) H Q E):wpAny (model X.prog X.w) X.A (call (.ref f) us) (EP X Io σ0 Q) X.xe s:=by
 have r2:Vals (vs++dvs) (us++ds):=r.append hd;have hl:(us++ds).length=ps.length:=by rw [<-r2.length];exact F.len _ _ _ _ h
 refine Gp (Gu (F.run X.A X.stack s H ⟨us,[]⟩ (us++ds) (vs++dvs) Q E hr I.env0 (hb s us I.kIn hl) r2 h) λ r s' hq=>?_);cases r with
 |error e=>exact hx Io H s e s' I hq
 |ok fl=>
  cases fl with
  |ret u=>exact I.after hq
  |next=>exact False.elim hq
  |brk=>exact False.elim hq
  |cont=>exact False.elim hq
theorem rV {pl:Sem Bool}(he:PE X o ta)(c:Cls X.K C)(hm:Meth X.K C m f)(F:FnOk X.prog X.w X.K X.mg X.base CX k f fd ps sp)(hr:Room k X.A)(hb:Binds X.K fd ps ds)(hd:Vals dvs ds)(hx:fu CX X E σ0)(ha:PA X (e::es) t)
    (hst:autoParam (starEach (e::es) X.env=(false,eval e X.env)::starEach es X.env) Z0) (hpl:autoParam ((backTo pos (starEach es X.env)).any (·.1)=false) Z0)
    (ht:autoParam (eval (.Call (.Attribute o m apos) (e::es) [] pos) X.env=(do
      let ov<-eval o X.env
      standAt apos.atName
      let(f,first)<-holding [ov] (getMethod ov m pl)
      callWith pos f first (backTo pos (starEach (e::es) X.env)) (backToKw pos (keywordEach [] X.env)))) Z0):
    PE X (.Call (.Attribute o m apos) (e::es) [] pos) (tAt σ0 (o8 C m sp dvs E ta t)):=by
  intro Io s σ H Q I h
  obtain⟨rfl,h⟩:=h
  refine Ea (pl:=pl) (thn (he Io s σ H _ I h) λ u s1 z9=>?_) ht
  obtain⟨x,H1,I1,rx,a,dx,fs,ex,ea,l,q⟩:=z9
  subst ex
  obtain rfl:u=Value.ref a:=rx
  refine cb I1 ea c hm l ?_
  refine Fg (first:=[.ref a]) (h₀:=X.base) I.ok.mod.kin hm.kp (thn (ha pos Io s1 σ H1 _ I1 q) λ us s2 ⟨vs,H2,I2,r,q2⟩=>⟨I2.kIn,?_⟩) hst hpl
  exact qe (us:=.ref a::us) (vs:=.ref a::vs) F hr hb hd hx I2 (.cons rfl r) q2
end
section
variable {X:Cx}{Io:List (HZ × Il)}{σ:St}{H:Hp}{s:Ic}
theorem Inv.know {ob:Il}(I:Inv X Io σ H s)(n:NewA X Io b)(hb:H b=some (.frz ob (.own b))):Inv {X with H₀:=upd X.H₀ b (.frz ob (.own b))} Io σ H s:=by
 have neF:∀c∈X.fs,c≠b:=λ c hc z=>by
  obtain⟨_,o,ho,_⟩:=I.ok.funs.mem hc;rw [z,n.s0] at ho;cases ho
 have ne0:∀c o,X.s₀.heap.get? c=some o->c≠b:=λ c o q z=>by rw [z,n.s0] at q;cases q
 have neB:∀c o,X.base.get? c=some o->c≠b:=λ c o q=>ne0 c o (I.ok.bs c o q).1
 refine⟨⟨I.ok.mod,I.ok.kind,I.ok.glob,I.ok.blt,I.ok.above,I.ok.inj,I.ok.has,I.ok.cab,?_,I.ok.frames,I.ok.stk,I.ok.exf,λ c o q=>⟨(I.ok.bs c o q).1,?_⟩,I.ok.bsz,I.ok.noex,I.ok.exfs,I.ok.funs,λ c hc=>?_⟩,
  I.os,I.bare,⟨λ c o q z hc hx=>?_,λ c o q z hc hx=>?_,λ c o q z hx=>?_,I.base.there,λ c xs q=>?_,λ c o u q=>?_,λ c ps q=>?_⟩,I.loc,I.cell,I.free,I.freeC,I.pin,I.hok,I.len⟩
 ·rcases I.ok.hd with q|⟨a,o,vs,c,e,f,d,z,k⟩
  ·exact .inl q
  ·have up:∀x o u,X.H₀ x=some (.frz o u)->upd X.H₀ b (.frz ob (.own b)) x=some (.frz o u):=λ x o u g=>by
    by_cases hx:x=b
    ·have:=I.base.frzs _ _ _ g;rw [hx,hb] at this;rw [hx,ac];exact this
    ·rw [upd_ne hx];exact g
   exact .inr ⟨a,o,vs,c,e,up _ _ _ f,d,z,k.keep up⟩
 ·show upd X.H₀ b _ c=none;rw [upd_ne (neB c o q)];exact(I.ok.bs c o q).2
 ·show upd X.H₀ b _ c=none;rw [upd_ne (neF c hc)];exact I.ok.frf c hc
 ·have z':upd X.H₀ b (.frz ob (.own b)) c=none:=z;rw [upd_ne (ne0 c o q)] at z';exact I.base.keep c o q z' hc hx
 ·have z':upd X.H₀ b (.frz ob (.own b)) c=none:=z;rw [upd_ne (ne0 c o q)] at z';exact I.base.slot c o q z' hc hx
 ·have z':upd X.H₀ b (.frz ob (.own b)) c=none:=z;rw [upd_ne (ne0 c o q)] at z';exact I.base.free c o q z' hx
 ·have q':upd X.H₀ b (.frz ob (.own b)) c=some (.tup xs):=q;by_cases hc:c=b
  ·rw [hc,ac] at q';cases q'
  ·rw [upd_ne hc] at q';exact I.base.tups c xs q'
 ·have q':upd X.H₀ b (.frz ob (.own b)) c=some (.frz o u):=q;by_cases hc:c=b
  ·rw [hc] at q' ⊢;rw [ac] at q';rw [hb];exact q'
  ·rw [upd_ne hc] at q';exact I.base.frzs c o u q'
 ·have q':upd X.H₀ b (.frz ob (.own b)) c=some (.tbl ps):=q;by_cases hc:c=b
  ·rw [hc,ac] at q';cases q'
  ·rw [upd_ne hc] at q';exact I.base.tbls c ps q'
theorem Inv.unknow {ob:Il}(I0:Inv X Io σ H s)(n:NewA X Io b)(hb:H b=some (.frz ob (.own b)))(I:Inv {X with H₀:=upd X.H₀ b (.frz ob (.own b))} Io σ1 H1 s1):Inv X Io σ1 H1 s1:=by
 have ne0:∀c u,X.s₀.heap.get? c=some u->c≠b:=λ c u q z=>by rw [z,n.s0] at q;cases q
 have tr:∀c,c≠b->upd X.H₀ b (.frz ob (.own b)) c=X.H₀ c:=λ c hc=>upd_ne hc
 refine⟨I0.ok,I.os,I.bare,⟨λ c u q z hc hx=>I.base.keep c u q ((tr c (ne0 c u q)).trans z) hc hx,λ c u q z hc hx=>I.base.slot c u q ((tr c (ne0 c u q)).trans z) hc hx,λ c u q z hx=>I.base.free c u q ((tr c (ne0 c u q)).trans z) hx,I.base.there,λ c xs q=>?_,λ c u v q=>?_,λ c ps q=>?_⟩,I.loc,I.cell,I.free,I.freeC,I.pin,I.hok,I.len⟩
 ·refine I.base.tups c xs ((tr c λ z=>?_).trans q);have:=I0.base.tups c xs q;rw [z,hb] at this;cases this
 ·by_cases hc:c=b
  ·have:=I0.base.frzs c u v q;rw [hc,hb] at this;refine I.base.frzs c u v ?_;show upd X.H₀ b (.frz ob (.own b)) c=_;rw [hc,ac];exact this
  ·exact I.base.frzs c u v ((tr c hc).trans q)
 ·refine I.base.tbls c ps ((tr c λ z=>?_).trans q);obtain⟨m,this⟩:=I0.base.tbls c ps q;rw [z,hb] at this;cases this
theorem Inv.ready (I:Inv X Io σ H s)(bk:BkX X Io H e c):∃G:Hp,Inv {X with H₀:=G} Io σ H s/\BkH G e c/\∀σ1 H1 s1,Inv {X with H₀:=G} Io σ1 H1 s1->Inv X Io σ1 H1 s1:=by
 obtain⟨bk,bn⟩:=bk;rcases bk with bk|⟨b,ob,us,rfl,n,f,r⟩
 ·exact⟨X.H₀,I,.inl bk,λ _ _ _ z=>z⟩
 ·exact⟨_,I.know (bn b rfl) f,.inr ⟨b,ob,us,rfl,n,ac,r⟩,λ _ _ _ z=>I.unknow (bn b rfl) f z⟩
theorem Inv.hand {cls:Ib}(I:Inv X Io σ H s)(n:New X Io H e)(g:s.heap.get? e=some (exO cls vs))(h2:vs[2]?=some c/\6≤vs.size)(bk:BkH X.H₀ e c):
  Inv (cxHand X e (upd X.H₀ e (.frz (exO cls vs) (.own e)))) Io σ (upd H e (.frz (exO cls vs) (.own e))) s:=by
 have neF:∀b∈X.fs,b≠e:=λ b hb z=>by
  obtain⟨_,o,ho,_⟩:=I.ok.funs.mem hb;rw [z,n.s0] at ho;cases ho
 have ne0:∀b o,X.s₀.heap.get? b=some o->b≠e:=λ b o q z=>by rw [z,n.s0] at q;cases q
 have neB:∀b o,X.base.get? b=some o->b≠e:=λ b o q=>ne0 b o (I.ok.bs b o q).1
 have bk':BkH (upd X.H₀ e (.frz (exO cls vs) (.own e))) e c:=by
  rcases bk with bk|⟨b,ob,us,e1,n1,f1,r⟩
  ·exact .inl bk
  ·exact .inr ⟨b,ob,us,e1,n1,(upd_ne n1).trans f1,r⟩
 refine⟨⟨I.ok.mod,I.ok.kind,I.ok.glob,I.ok.blt,I.ok.above,I.ok.inj,I.ok.has,I.ok.cab,.inr ⟨e,_,vs,c,rfl,ac,rfl,h2,bk'⟩,I.ok.frames,I.ok.stk,I.ok.exf,λ b o q=>⟨(I.ok.bs b o q).1,?_⟩,I.ok.bsz,I.ok.noex,I.ok.exfs,I.ok.funs,λ b hb=>?_⟩,
  I.os,I.bare,⟨λ b o q z hb hx=>?_,λ b o q z hb hx=>?_,λ b o q z hx=>?_,I.base.there,λ b xs q=>?_,λ b o u q=>?_,λ b ps q=>?_⟩,I.loc,I.cell,?_,λ x c ec=>?_,λ p hp=>?_,λ a o q=>?_,I.len⟩
 ·show upd X.H₀ e _ b=none;rw [upd_ne (neB b o q)];exact(I.ok.bs b o q).2
 ·show upd X.H₀ e _ b=none;rw [upd_ne (neF b hb)];exact I.ok.frf b hb
 ·have z':upd X.H₀ e (.frz (exO cls vs) (.own e)) b=none:=z;rw [upd_ne (ne0 b o q)] at z';exact I.base.keep b o q z' hb hx
 ·have z':upd X.H₀ e (.frz (exO cls vs) (.own e)) b=none:=z;rw [upd_ne (ne0 b o q)] at z';exact I.base.slot b o q z' hb hx
 ·have z':upd X.H₀ e (.frz (exO cls vs) (.own e)) b=none:=z;rw [upd_ne (ne0 b o q)] at z' ⊢;exact I.base.free b o q z' hx
 ·have q':upd X.H₀ e (.frz (exO cls vs) (.own e)) b=some (.tup xs):=q;by_cases hb:b=e
  ·rw [hb,ac] at q';cases q'
  ·rw [upd_ne hb] at q' ⊢;exact I.base.tups b xs q'
 ·have q':upd X.H₀ e (.frz (exO cls vs) (.own e)) b=some (.frz o u):=q;by_cases hb:b=e
  ·rw [hb] at q' ⊢;rw [ac] at q' ⊢;exact q'
  ·rw [upd_ne hb] at q' ⊢;exact I.base.frzs b o u q'
 ·have q':upd X.H₀ e (.frz (exO cls vs) (.own e)) b=some (.tbl ps):=q;by_cases hb:b=e
  ·rw [hb,ac] at q';cases q'
  ·rw [upd_ne hb] at q' ⊢;exact I.base.tbls b ps q'
 ·show upd H e _ X.env.locals=none;rw [upd_ne (Fb n.loc)];exact I.free
 ·rw [upd_ne (n.cel x c ec)];exact I.freeC x c ec
 ·obtain⟨a1,a2,a3⟩:=I.pin p hp;exact⟨a1,by rw [upd_ne (n.pin p hp)];exact a2,a3⟩
 ·by_cases ha:a=e
  ·subst ha;rw [ac] at q;cases q;exact⟨g,_,g⟩
  ·rw [upd_ne ha] at q;have nt:∀b u,H b=some u->b≠e:=λ b u r z=>by rw [z,n.h] at r;cases r
   exact(I.hok a o q).stay (λ b u _ r=>r) (λ b r=>by rw [upd_ne (nt b _ r)];exact r) λ b xs r=>by rw [upd_ne (nt b _ r)];exact r
theorem Inv.unhand {o:Il}(I0:Inv X Io σ H s)(n:New X Io H e)(I:Inv (cxHand X e (upd X.H₀ e (.frz o (.own e)))) Io σ1 H1 s1):Inv X Io σ1 H1 s1:=by
 have ne0:∀b u,X.s₀.heap.get? b=some u->b≠e:=λ b u q z=>by rw [z,n.s0] at q;cases q
 have tr:∀b,b≠e->(cxHand X e (upd X.H₀ e (.frz o (.own e)))).H₀ b=X.H₀ b:=λ b hb=>upd_ne hb
 refine⟨I0.ok,I.os,I.bare,⟨λ b u q z hb hx=>I.base.keep b u q ((tr b (ne0 b u q)).trans z) hb hx,λ b u q z hb hx=>I.base.slot b u q ((tr b (ne0 b u q)).trans z) hb hx,λ b u q z hx=>I.base.free b u q ((tr b (ne0 b u q)).trans z) hx,I.base.there,λ b xs q=>?_,λ b u v q=>?_,λ b ps q=>?_⟩,I.loc,I.cell,I.free,I.freeC,I.pin,I.hok,I.len⟩
 ·refine I.base.tups b xs ((tr b λ z=>?_).trans q);have:=I0.base.tups b xs q;rw [z,n.h] at this;cases this
 ·refine I.base.frzs b u v ((tr b λ z=>?_).trans q);have:=I0.base.frzs b u v q;rw [z,n.h] at this;cases this
 ·refine I.base.tbls b ps ((tr b λ z=>?_).trans q);obtain⟨m,this⟩:=I0.base.tbls b ps q;rw [z,n.h] at this;cases this
theorem Inv.nameGoes {M:Model}{i:Nat}{pos:Pos}(I:Inv X Io σ H s)(hN:X.N.Nodup)(hi:X.N[i]?=some y)(hl:X.env.scope.names.lookup y=some .local)
    (h:∀s',Inv X Io (σ.set i none) H s'->Q () s'):wpAny M A (do bindName X.env y .none;unbindBehindTheSuite X.env y pos) Q E s:=by
  have hiσ:i<σ.length:=by rw [I.len];exact(Bo.mp hi).1
  have hcls:(X.env.scope.kind== .class||(X.env.scope.kind== .module&&X.env.locals !=X.env.globals))=false:=by rw [I.ok.kind];rfl
  have hk:X.env.kindOf y=some .local:=hl
  refine Bc (wpAny_bindName (store_ok (v:=.non) I hN hi (.inl hl) rfl (λ s1 I1=>?_) (.inr hl)))
  unfold unbindBehindTheSuite
  refine wpAny_onRaise ?_
  unfold unbindName
  refine Bc (wpAny_point (Bc ?_))
  unfold deleteName
  simp only [hk,hcls]
  rw [Bu Z9]
  obtain⟨m,hn,hm⟩:=id I1.loc
  obtain⟨u,ru,lk⟩:=hm i y .non hi (by rw [Dy hiσ]) (.inl hl)
  have hmy:m y=some u:=by
    rcases lk with⟨_,q⟩|⟨q,_⟩
    · exact q
    · rw [hk] at q
      rcases q with q|q<;>cases q
  refine Bc (wpAny_nsDel_keeps hn λ h2 v hn2 hs2=>?_)
  rw [hmy]
  simp only [if_true,Option.isSome_some,Bool.not_true,Dk,FE]
  refine BH (wpAny_point (h _ ?_))
  obtain⟨oL,_,_,hoL,_⟩:=id hn
  have ne0:∀b o,X.s₀.heap.get? b=some o->b≠X.env.locals:=λ b o e=>Ci (Bf (BD e) I1.ok.above)
  refine⟨I1.ok,I1.os,I1.bare,⟨λ b o e n hb hx=>(hs2.2 b (ne0 b o e)).trans (I1.base.keep b o e n hb hx),λ b o e n hb hx=>?_,I1.base.free,λ b o e hx=>?_,I1.base.tups,I1.base.frzs,I1.base.tbls⟩,⟨_,hn2,λ j z v' e1 e2 e3=>?_⟩,λ z c e=>?_,I1.free,I1.freeC,λ p hp=>?_,λ b ob e=>?_,by simpa using I.len⟩
  · obtain⟨sl,e1⟩:=I1.base.slot b o e n hb hx
    exact⟨sl,(hs2.2 b (ne0 b o e)).trans e1⟩
  · obtain⟨o',e1⟩:=I1.base.there b o e hx
    exact⟨o',(hs2.2 b (ne0 b o e)).trans e1⟩
  · have hj:j≠i:=λ q=>by rw [q,Dy hiσ] at e2;cases e2
    rw [Eg (Fb hj)] at e2
    obtain⟨u',r',q⟩:=hm j z v' e1 (by rw [Eg (Fb hj)];exact e2) e3
    refine⟨u',r',?_⟩
    rcases q with⟨kk,e⟩|⟨kk,c,e,zz⟩
    · refine .inl ⟨kk,?_⟩
      have:z≠y:=λ q=>hj (nodup_ix hN e1 (q▸hi))
      simp [this,e]
    · exact .inr ⟨kk,c,e,zz.sameBut hs2 (I1.cne z c e)⟩
  · obtain⟨w',q⟩:=I1.cell z c e
    exact⟨w',q.sameBut hs2 (I1.cne z c e)⟩
  · obtain⟨e,n,ne,nf,d⟩:=I1.pin p hp
    exact⟨(hs2.2 p.1 ne).trans e,n,ne,nf,d⟩
  · refine(I1.hok b ob e).stay (λ c w' hc q=>(hs2.2 c λ z=>?_).trans q) (λ _ q=>q) λ _ _ q=>q
    rcases hc with hc|hc
    · rw [<-hc,z,I1.free] at e;cases e
    · rw [z,I1.free] at hc;cases hc
end
def Dx (i:Nat)(D:Ends):Ends:=⟨λ σ H=>D.nx (σ.set i none) H,D.rt,λ σ H=>D.bk (σ.set i none) H,λ σ H=>D.ct (σ.set i none) H⟩
def AB (K:Frag)(D0:HZ)(i:Nat)(tb:St->XK->TS)(th:TS):TS:=λ D σ H=>
 tb σ (λ cls _ H'=>∃C,cls=.ref C/\ExC K C/\C≠D0/\mroIn K C (.ref D0)=some true/\
  ∀e vs,H' e=none->th (Dx i D) (σ.set i (some (.ref e))) (upd H' e (.frz (exO (.ref C) vs) (.own e)))) D σ H
theorem tP {x:Str}{i:Nat}{D0:HZ}{b₀:Im}{body suite:List Im}{tb:St->XK->TS}{th:TS}{hpos pos:Pos}(hN:X.N.Nodup)(hi:X.N[i]?=some y)(hl:X.env.scope.names.lookup y=some .local)
  (hg:Gl X x) (hm:X.mg x=some (.ref D0)) (hD:ExC X.K D0) (hst:X.stack=X.env::X.outer) (hfr:X.env.frame=some X.env.locals) (hX:X.ex=[])
  (hb:∀pn σ0 E,PSs (w6 X pn σ0 E) body (tb σ0 E)) (hh:∀e G,PSs (cxHand X e G) (b₀::suite) th) (hd:autoParam ((x==("__debug__":Str))=false) ZZ):
  PS X (.Try body [.ExceptHandler (some (.Name x np)) (some y) (b₀::suite) hpos] [] [] pos) (AB X.K D0 i tb th):=by
 intro Io s σ H D I h;refine wpAny_Try_except (Dj (hb (X.pn++Io) σ _ [] s σ H D (I.lift _) h) (λ f s1 q=>?_) λ e s1 q=>?_)
 ·have q':SP X Io D f s1:=SP.unlift q;cases f with
  |next=>exact F8 q'
  |brk=>exact q'
  |cont=>exact q'
  |ret u=>exact q'
 ·obtain⟨ea,cls,fp,H',rfl,I1,⟨c,dc,F,bk,bn⟩,fr,C,rfl,cC,hne,hmro,q⟩:=q;have I1:Inv X Io σ H' s1:=Inv.unlift (W:=X.xe) I1;have fr:∀b∈fp,New X Io H' b:=λ b hb=>let n:=fr b hb;⟨n.s0,n.h,n.loc,n.cel,λ p hp=>n.pin p (by simpa using hp)⟩
  have hf:X.A.frames=some (X.env::X.outer):=hst▸I1.ok.frames;refine Aq hf (hst▸I1.stack) hfr F λ h' T F' hT f3 f4 f5=>?_
  have I2:=I1.landed fr (by rw [hst];exact f3) f4 f5;have nE:New X Io H' ea:=fr ea F.here;have nT:New X Io H' T:=I1.new (by
   cases z:s1.heap.get? T with
   |none=>rfl
   |some o=>exact absurd (Bf (BD z) hT) (D5 _)) (I1.hok.fresh hT) (by rw [hX];simp)
  obtain⟨vs,ge,z2,⟨_,r⟩|⟨T',oT,ts,_,neT,_,_,_,r⟩⟩:=id F'
  ·cases r
  ·cases r;have q:=q ea vs nE.h;obtain⟨G,I2',bk0,unk⟩:=I2.ready (e:=ea) (c:=c) ⟨bk,λ b e=>let n:=bn b e;⟨n.s0,n.loc,n.cel,λ p hp=>n.pin p (by simpa using hp)⟩⟩;have nE':New {X with H₀:=G} Io H' ea:=⟨nE.s0,nE.h,nE.loc,nE.cel,nE.pin⟩;have I3:=I2'.hand nE' ge z2 bk0;have uh:∀σ6 H6 s6,Inv (cxHand X ea (upd G ea (.frz (exO (.ref C) vs) (.own ea)))) Io σ6 H6 s6->Inv X Io σ6 H6 s6:=λ _ _ _ z=>unk _ _ _ (Inv.unhand I2' nE' z)
   generalize hG3:upd G ea (.frz (exO (.ref C) vs) (.own ea))=G3 at*;generalize hH3:upd H' ea (.frz (exO (.ref C) vs) (.own ea))=H3 at*;refine wpAny_handleBy_cons (codeAny_handlers_test (ld_glob (X:=cxHand X ea G3) I3 hg hm ?_ hd)) (by intro q;cases q);obtain⟨bm,N,nm,qn,bs,hdct,sn,sub,ab,col,dd,k0,k1,k2,k3,k5,hlC,hcC,_⟩:=kc cC;obtain⟨bm',N',nm',qn',bs',hdct',sn',sub',ab',col',dd',j0,j1,j2,j3,j5,hlD,_,hfD⟩:=kc hD;have hmem:(Value.ref C::bm).contains (.ref D0)=true:=by
    unfold mroIn at hmro;rw [hcC] at hmro;simpa using hmro
   have T':=(hfD _ I2.kIn).2;obtain⟨hh1,gg,dr,tk,os1⟩:=s1;refine mf (I2.kIn C _ hlC) (I2.kIn D0 _ hlD) ge rfl (T'.hasType Z8) hmem hne (codeAny_handlers_suite_as ?_);refine ot F' λ h4 F4 k4=>?_
   have nT3:New (cxHand X ea G3) Io H3 T:=⟨nT.s0,by rw [<-hH3,upd_ne neT];exact nT.h,nT.loc,nT.cel,nT.pin⟩;have I4:=I3.landed (h':=h4) (fp:=[T]) (λ b hb=>by rw [Bx] at hb;rw [hb];exact nT3) (λ b o g hb _=>k4 b o g λ z=>hb (by simp [z])) (λ b o g hb=>⟨o.slots,k4 b o g λ z=>hb (by simp [z])⟩) (λ b o g=>by
    by_cases hb:b=T
    ·obtain⟨o',us,g',_⟩:=F4.rec T Z6;exact⟨o',by rw [hb];exact g'⟩
    ·exact⟨o,k4 b o g hb⟩)
   refine store_ok (X:=cxHand X ea G3) (v:=.ref ea) I4 hN hi (.inl hl) rfl (λ s5 I5=>?_) (.inr hl);refine Dj (hh ea G3 Io s5 _ H3 (Dx i D) I5 q) (λ f s6 q6=>?_) λ _ _ z=>False.elim z
   cases f with
   |next=>
    obtain⟨σ6,H6,I6,q7⟩:=q6;exact(uh _ _ _ I6).nameGoes hN hi hl λ s' I8=>⟨_,_,I8,q7⟩
   |brk=>
    obtain⟨σ6,H6,I6,q7⟩:=q6;exact(uh _ _ _ I6).nameGoes hN hi hl λ s' I8=>⟨_,_,I8,q7⟩
   |cont=>
    obtain⟨σ6,H6,I6,q7⟩:=q6;exact(uh _ _ _ I6).nameGoes hN hi hl λ s' I8=>⟨_,_,I8,q7⟩
   |ret u=>
    obtain⟨v,σ6,H6,I6,r,q7⟩:=q6;exact(uh _ _ _ I6).nameGoes hN hi hl λ s' I8=>⟨v,_,_,I8,r,q7⟩
theorem Room.hand {j:Nat}{v:Option Ib}(r:Room k A)(h:j≤k)(h30:j<30):Room j (A.mark v):=
 ⟨λ z=>absurd z (Nat.not_le.mpr h30),by have:=r.dp;show A.depth+_+5<_;lia,by have:=r.un;show A.units+_+200<_;lia,r.gd⟩
structure ExI (K:Frag)(C:HZ):Prop where
 ga:findIn K (.ref C) "__getattribute__"=some (some (.builtin "BaseException.__getattribute__"))
 gt:findIn K (.ref C) "__getattr__"=some none
 hd:hasDictIn K C=true
 ha:findIn K (.ref C) "__class__"=some (some (.builtin "object.__class__"))
 hn:specialIn K (.builtin "object.__class__") "__get__"=some (some (.builtin "getset_descriptor.__get__"))
 htk:takesIn K (.builtin "object.__class__")=some true
 hm:mroIn K C (.type "object")=some true
 be:mroIn K C (.type "BaseException")=some true
theorem sv {M:Model}{g:Array GenState}{d:Drawn}{os:OsState}{nv:Ib}(L:Looks M h (isInstance (.ref x) (.type "BaseException")) true)
  (hq:Q () ⟨h,g,d,t,os⟩):wpAny M A (checkBuiltinCall "BaseException.__getattribute__" ⟨[.ref x,nv],[]⟩) Q E ⟨h,g,d,t,os⟩:=by
 have hk:builtinKind "BaseException.__getattribute__"=some .slot:=Z8;have hsplit:splitId "BaseException.__getattribute__"=some ("BaseException","__getattribute__"):=Z8;have ha:=PySem.F.args_bexc_ga (.ref x) nv;simp only [checkBuiltinCall,hk,hsplit];refine Bc (L.at ?_)
 repeat (first|exact hq|wp_step)
theorem ud {g:Array GenState}{d:Drawn}{os:OsState}{tk:Tok}{Q:Fin->Ic->Prop}(Y:K.In h)(I:InstAt h x ox C none)
  (L3:Looks (model prog w) h (Builtin.ObjectAttr.find (.ref x) (.ref C) "__class__") (.bind (.builtin "getset_descriptor.__get__") (.builtin "object.__class__"))) (hm:mroIn K C (.type "object")=some true)
  (hq:Q (.done (.ret (.ref C))) ⟨h,g,d,t,os⟩):wpAny (model prog w) A (Builtin.«object.__getattribute__» ⟨[.ref x,.str "__class__" tk],[]⟩) Q E ⟨h,g,d,t,os⟩:=by
 have L0:=I.type (M:=model prog w);refine Bc (Bc (BH (BH ?_)));refine Bc (BH (Bc (L0.at (Bc (L3.at ?_)))));show wpAny _ _ (holding [Value.builtin "object.__class__"] (call (.builtin "getset_descriptor.__get__") [.builtin "object.__class__",.ref x,.ref C])>>= ret) _ _ _;exact Bc (Dh (Gp (PySem.W.class_get (s:=⟨h,g,d,t,os⟩) (ox:=ox) (od:=none) Y I hm (BH hq))))
theorem rm {Q:Option Ib->Ic->Prop}(c:ExI K C)(Y:K.In s.heap)(I:InstAt s.heap x ox C none)
  (h:Q (some (.ref C)) {s with toks:=s.toks+1}):wpAny (model prog w) A (getAttr? (.ref x) "__class__") Q E s:=by
 have hf:findObj K C none "__class__"=some (.bind (.builtin "getset_descriptor.__get__") (.builtin "object.__class__")):=by
  obtain⟨cd,hc,_⟩:=GJ c.hd;unfold findObj;rw [hc,Option.bind_some,c.ha,Option.bind_some];simp [c.hn,c.htk]
 obtain⟨hh,g,d,t,os⟩:=s;have L0:=I.type (M:=model prog w);have L1:=Fu (M:=model prog w) Y c.ga;have L2:=Fu (M:=model prog w) Y c.gt;have L3:=PySem.W.looks_find (M:=model prog w) Y I hf;have L4:=PySem.W.looks_mroIn (M:=model prog w) Y c.be;unfold getAttr? getAttrBy? getAttrBy;refine Bc (wpAny_mkText (Bc (E2 (Dh (Bc (L0.at (Bc (L1.at ?_))))))));show wpAny _ _ (getAttrByItsOwn _ _ _ _ _ _) _ _ _;unfold getAttrByItsOwn;refine Bc (show wpAny _ _ (typeLookup (.ref C) "__getattr__") _ _ _ from L2.at ?_);refine Bc (E2 (Dh ?_));show wpAny _ _ (boundAndCalled _ _ _) _ _ _;unfold boundAndCalled;refine Bc (wpAny_of_eq (PySem.F.attr_ValueError.ga.bind _) ?_);refine Gp (codeAny_call_builtin PySem.F.attr_ValueError.ga.plain PySem.F.entry_bexc_ga ?_);refine sv (L0.andThen L4) (ud Y I L3 c.hm ?_);show wpAny _ _ (handedOut (.ref C)) _ _ _;exact BH (BH h)
theorem uz (c:ExI K C):KitX K (.ref x) (.ref C) (λ h=>InstAt h x (exO (.ref C) vs) C none) where
 ty:=λ _ _ _ I=>I.type
 it:=λ M h Y _=>by
  obtain⟨cd,hc,_⟩:=GJ c.hd;unfold clsIn at hc
  split at hc
  ·rename_i ho
   intro A' Q' E' s' k q;unfold isType loadHead;exact Bc (wpAny_loadPart (k _ _ (Y _ _ ho)) (BH q))
  ·cases hc
 ne:=λ h tp dd its n sl Y htp=>by
  obtain⟨cd,hc,_⟩:=GJ c.hd;refine Bool.eq_false_iff.mpr λ q=>?_
  have e:C=tp:=Value.ref.inj (B9.mp q);subst e;unfold clsIn at hc
  split at hc
  ·rename_i ho
   have z:=(Y _ _ ho).symm.trans htp;cases z
  ·cases hc
 ca:=λ Y I k=>rm c Y I k
section
variable {X:Cx}
noncomputable def z8:Ib->V
 | .ref a=>.ref a
 | .type n=>.ty n
 |_=>.non
theorem i8:dF X (.builtin "isinstance") (λ xs H Q=>∃a C vs c b,xs=[.ref a,z8 c]/\(∃n,c=.ref n\/∃t,c=.type t)/\H a=some (.frz (exO (.ref C) vs) (.own a))/\ExI X.K C/\kitOne X.K (.ref C) c=some b/\Q (.bl b) H):=by
 intro Io s σ H xs us Q I r h;obtain⟨a,C,vs,c,b,rfl,hc,hf,ci,e,q⟩:=h;obtain⟨u,v,rfl,ru,rv⟩:=oS r;cases ru;have ev:v=c:=by
  obtain⟨n,hc|⟨t,hc⟩⟩:=hc
  ·subst hc;exact rv
  ·subst hc;exact rv
 subst ev;obtain⟨g,_⟩:=I.hok a _ hf;exact DA (uz (vs:=vs) ci) I.kIn ⟨g,rfl,rfl,trivial⟩ e (λ z=>nomatch z) λ tk=>⟨.bl b,H,I.tok tk,rfl,q⟩
end
theorem fo {l:HZ}{xs:List V}{n:Nat}{g:TG}{tt:TT}{R:Hp->Prop}(Pv:Nat->List V->Hp->Prop)(h0:Pv 0 [] (upd H1 l (.lst [])))(hl:∀i ys H,i≤xs.length->Pv i ys H->SqL K H a xs)
  (hs:∀i x ys σ H,xs[i]?=some x->Pv i ys H->σ.length=n->g x σ H λ σ3 H3=>tt σ3 H3 λ c H5=>if c=true then te σ3 H5 λ y H4=>H4 l=some (.lst ys)/\ys.length<sizeLine/\σ3.length=n/\Pv (i+1) (ys++[y]) (upd H4 l (.lst (ys++[y]))) else σ3.length=n/\Pv (i+1) ys H5)
  (hd:∀ys H,Pv xs.length ys H->R H) (mg:∀x σ H (A B:St->Hp->Prop),(∀σ' H',A σ' H'->B σ' H')->g x σ H A->g x σ H B) (mtt:∀σ H (A B:Bool->Hp->Prop),(∀v H',A v H'->B v H')->tt σ H A->tt σ H B) (mt:∀σ H (A B:VK),(∀v H',A v H'->B v H')->te σ H A->te σ H B):
  ∃W:Nat->Nat->List V->St->Hp->Prop,(∃m,W 0 m [] (List.replicate n none) (upd H1 l (.lst [])))/\∀i m ys σ' H',W i m ys σ' H'->
   ((Itl K a).stop i H'/\R H')\/((Itl K a).go i H'/\∀x H2,(Itl K a).yld i H' x H2->g x σ' H2 λ σ3 H3=>tt σ3 H3 λ c H5=>if c=true then te σ3 H5 λ y H4=>
    H4 l=some (.lst ys)/\ys.length<sizeLine/\∃m',m'<m/\W (i+1) m' (ys++[y]) σ3 (upd H4 l (.lst (ys++[y]))) else∃m',m'<m/\W (i+1) m' ys σ3 H5):=by
 refine⟨λ i m ys σ H=>m=xs.length-i/\i≤xs.length/\σ.length=n/\Pv i ys H,⟨xs.length,Z6,BX _,C6,h0⟩,?_⟩;rintro i m ys σ H ⟨rfl,hi,hn,p⟩;have q:=hl i ys H hi p;by_cases Ir:i<xs.length
 ·refine .inr ⟨⟨xs,xs[i],q,by simp [Ir]⟩,λ x H' y=>?_⟩;obtain⟨e,y⟩:=y;subst e;refine mg _ _ _ _ _ (λ σ3 H3 z=>mtt _ _ _ _ (λ c H5 z=>?_) z) (hs i x ys σ _ (y xs q) p hn);cases c with
  |true=>
   rw [BM rfl] at z ⊢;exact mt _ _ _ _ (λ y H4 z9=>by obtain⟨z1,z2,z3,z4⟩:=z9;exact⟨z1,z2,xs.length-(i+1),Cy _ _ Ir,rfl,Ir,z3,z4⟩) z
  |false=>
   rw [Bu BL] at z ⊢;exact⟨xs.length-(i+1),Cy _ _ Ir,rfl,Ir,z.1,z.2⟩
 ·have e:i=xs.length:=BI hi (Nat.not_lt.1 Ir);subst e;exact .inl ⟨⟨xs,q,Bh _⟩,hd ys H p⟩
theorem sS (A:Ii)(s:Ic)(a:Str)(t:Tok)(c:Str)(u:Tok):SeqAt.EqAt A s (.str a t) (.str c u) (a==c):=by
 first|exact SeqAt.EqAt.str_str a t c u|exact(MeetsSeq.EqGives.str_str a t c u).at A s
end L2
set_option maxHeartbeats 4000000
namespace L2
open PySem
variable {f:HZ}{mg:Str->Option Ib}{K:Frag}{qual:Str}{base:Ij}{w:Ig}{P:Ie}
theorem xD {CX:CXT}{name:Str}{params:Arguments}{body:List Im}{scope:Scope}{dV kV doc pm Iq ct oc:Ib}{an od:Option HZ}
  {osl:Array (Option Ib)} {N ps:List Str} {sp:Sp} (lk:K.lookup f=some ⟨oc,od,.func (fnOf name qual params body scope dV kV doc pm an Iq ct),osl⟩) (hcd:codeIn K Iq qual=true) (S:FnScope N ps scope)
  (len:∀vs H Q E,sp vs H Q E->vs.length=ps.length)
  (hbody:∀(A:Ii) (outer:List Env) (s:Ic) (H:Hp) (vs:List V) (Q:VK) (E:XK),sp vs H Q E->
   ∃t,PSs (cxOf CX P w K mg base N qual scope f Iq A outer s H E) body t/\t {nx:=λ _ H'=>Q .non H',rt:=Q} (start N vs) H):
  FnOk P w K mg base CX 0 f (fnOf name qual params body scope dV kV doc pm an Iq ct) ps sp:=by
 refine⟨len,λ A outer s H args us vs Q E hr e0 hb r hsp=>?_⟩;have hl:=len _ _ _ _ hsp;have KX:K.In s.heap:=e0.mod.kin.keeps λ b o e=>(e0.bs b o e).1
 have lim:s.heap.NoLimit:=e0.mod.nolimit.keeps λ b o e=>(e0.bs b o e).1
 have hkind:∀y∈ps.zip us,scope.names.lookup y.1=some .local\/(scope.names.lookup y.1=some .cell/\((cellsFrom (s.heap.objs.size+1) scope.names []).lookup y.1).isSome=true):=λ⟨n,v⟩ hy=>by
  rcases S.par n (F3 hy).1 with q|q
  ·exact .inl q
  ·exact .inr ⟨q,Gj _ _ _ (.inl q)⟩
 refine codeAny_call_function hr.depth (KX _ _ lk) rfl S.co S.gen rfl (codeRec_of KX hcd) (hb _ _ _ _ ?_);refine wpAny_newFunctionEnv_cells S.kind hkind λ env he s1 x=>?_
 subst he;refine⟨lim.keeps x.toInCall.keep,codeAny_func ?_⟩;obtain⟨t,ht,hq⟩:=hbody A outer s H vs Q E hsp;have I:Inv (cxOf CX P w K mg base N qual scope f Iq A outer s H E) [] (start N vs) H s1:=ji S e0 hl r x;refine Dj (ht [] s1 (start N vs) H _ I hq) (λ fl s' hs=>?_) λ e s' hs=>hs
 have fin:∀{σ':St} {H':Hp} {v:V} {u:Ib},Inv (cxOf CX P w K mg base N qual scope f Iq A outer s H E) [] σ' H' s'->RelV v u->Q v H'->CE outer P w H s Q u s':=
  λ {σ' H' v u} J rv q=>⟨v,H',J.os,J.bare,J.base,J.hok,rv,q⟩
 cases fl with
 |ret u=>
  obtain⟨v,σ',H',J,rv,q⟩:=hs;exact fin J rv q
 |next=>
  obtain⟨σ',H',J,q⟩:=hs;exact fin (v:=V.non) (u:=Value.none) J rfl q
 |brk=>
  obtain⟨_,_,_,q⟩:=hs;exact False.elim q
 |cont=>
  obtain⟨_,_,_,q⟩:=hs;exact False.elim q
theorem Fun.ok0 {x:Str}{st:Im}{fd:Ih}{N ps:List Str}{sp:Sp}(F:Fun K x qual st f fd)(S:FnScope N ps (ak st))
  (hbody:∀(Iq:Ib) (A:Ii) (outer:List Env) (s:Ic) (H:Hp) (vs:List V) (Q:VK) (E:XK),sp vs H Q E->
   let X:=(cxOf CX0 P w K mg base N qual (ak st) f Iq A outer s H E).nox;∃t,PSs X (aP st) t/\t {nx:=λ _ H'=>Q .non H',rt:=Q} (start N vs) H) (len:autoParam (∀vs H Q E,sp vs H Q E->vs.length=ps.length) ZV):FnOk P w K mg base CX0 0 f fd ps sp:=by
 obtain⟨oc,od,kV,doc,pm,an,Iq,ct,osl,rfl,lk,hcd⟩:=F.ex;refine xD lk hcd S len λ A outer s H vs Q E hsp=>?_
 obtain⟨t,h,q⟩:=hbody Iq A outer s H vs Q E hsp;exact⟨t,h.nox,q⟩
end L2
set_option maxHeartbeats 4000000
namespace L2
open PySem PySem.Spec PyProof.Rows QQ
variable {X:Cx}{H:Hp}
theorem seq_g {t u:TS}{D:Ends}{σ:St}(h:∀R:St->Hp->Prop,(∀σ H,u D σ H->R σ H)->t {D with nx:=R} σ H):zt t u D σ H:=h (u D) λ _ _ z=>z
theorem pA {K:Frag}(hK:X.K=K):IxR X (zh K):=by
 subst hK;exact aZ
def Av (K:Frag):R2:=λ x y H Q=>∃(p q:HZ) (ns ms:List Int),x=.ref p/\y=.ref q/\SqL K H p (ns.map V.int)/\SqL K H q (ms.map V.int)/\Q (.bl (!decide (ns=ms))) H
theorem dD (hu:X.A.units+64<cLine):OpR X (compareOp .NotEq) (Av X.K):=by
 intro Io s σ H x y v u Q I rx ry h;obtain⟨p,q,ns,ms,rfl,rfl,h1,h2,k⟩:=h;cases rx;cases ry;obtain⟨its,rv,pl,hz⟩:=I.list h1;obtain⟨its2,rv2,pl2,hz2⟩:=I.list h2;exact PySem.W.ne_intsK pl.isList (cg rv) pl2.isList (cg rv2) hu ⟨.bl _,H,I,rfl,k⟩
theorem iS (xs:List V)(k:Nat):cutV xs none (some ((k:Nat):Int))=xs.take k:=by
 unfold cutV;rw [HT.sIx_none,HT.sIx_nat,D7,ES];by_cases h:k≤xs.length
 ·rw [CA h]
 ·rw [DD (GK h),Cc,BQ (GK h)]
theorem iE (xs:List V)(k:Nat):cutV xs (some ((k:Nat):Int)) none=xs.drop k:=by
 unfold cutV;rw [HT.sIx_none,HT.sIx_nat];by_cases h:k≤xs.length
 ·rw [CA h,<-By,Cc]
 ·rw [DD (GK h),HI,List.drop_of_length_le (GK h),List.take_nil]
theorem u6 (xs:List V){m n:Nat}(hm:m≤n)(hn:n≤xs.length):cutV xs (some ((m:Nat):Int)) (some ((n:Nat):Int))=(xs.drop m).take (n-m):=by
 unfold cutV;rw [HT.sIx_nat,HT.sIx_nat,CA (show m≤xs.length from Ba hm hn),CA hn]
theorem iL {a x:Str}{b c:HZ}(h:List.lookup x [(a,b)]=some c):x=a/\c=b:=by
 rw [List.lookup_cons] at h;cases hx:x==a with
 |true=>rw [hx] at h;exact⟨eq_of_beq hx,(BU h).symm⟩
 |false=>rw [hx] at h;cases h
theorem none_of {H':Hp}(s:Same H H'){q:HZ}(h:H' q=none):H q=none:=by
 cases e:H q with
 |none=>rfl
 |some o=>rw [s _ _ e] at h;cases h
theorem aj {p:HZ}{o:HO}(h:H p=none):Same H (upd H p o):=λ b u e=>by
 rw [upd_ne (ai e h)];exact e
section
variable {X:Cx}
end
end L2
set_option maxHeartbeats 4000000
namespace QQ
open PySem PyProof.Rows
section
variable {prog:Ie}{w:Ig}{A:Ii}{E:Ib -> Ic -> Prop}{s:Ic}
theorem ka {it l:HZ}{i:Nat}{items}{Q:Ib->Ic->Prop}(hq:Hq A s.heap)
  (hit:s.heap.IsListIter it l i) (hl:s.heap.IsList l items) (hx:items[i]?=none)
  (hE:∀h' e,Heap.ExtBut it s.heap h'->(∃o,h'.get? e=some o/\o.cls=.type "StopIteration")->E (.ref e) {s with heap:=h'}):
  wpAny (model prog w) A (Builtin.SmallTypes.nextOf (.ref it)) Q E s:=by
 obtain⟨o,ho,hc,hd⟩:=id hit;obtain⟨ol,hol,_,nl,hdl⟩:=hl;unfold Builtin.SmallTypes.nextOf;refine Bc (Ei (name:=Str.ofString "__next__") hit.typeIs Gb (FM Gb hit.typeIs entry_listiter_next ?_ (args_listiter_next _)));show wpAny _ _ (field (.ref it) 0>>= _) _ _ s;refine Bc (DB ho hd (x:=.ref l) rfl ?_);show wpAny _ _ (if(Value.ref l==Value.none)=true then _ else _) _ _ s;rw [Bu (show¬((Value.ref l==Value.none)=true) from BL)];show wpAny _ _ (field (.ref it) 1>>= _) _ _ s;refine Bc (DB ho hd (x:=.int i 0) rfl ?_);show wpAny _ _ (seqItems? (.ref l)>>= _) _ _ s;refine Bc (Fz hol hdl ?_);simp only [BO,hx];refine Bc (Fa (Bc (EK ho hd Z6 ?_)));have sb1:=FS (h:=s.heap) it (Obj.mapFields (·.setIfInBounds 0 Value.none));refine dt (A:=A.in1) (hq.keep λ a o' us e d' z'=>sb1.extBut a o' (nK ho hd Z6 e d' z') e) λ h' e k he=>?_
 exact hE _ e (λ b ob hb e1=>k b ob (sb1.extBut b ob hb e1)) he
end
end QQ
namespace L2
open PySem PySem.Spec PyProof.Rows QQ
end L2
namespace QQ
open PySem PyProof.Rows
section
variable {prog:Ie}{w:Ig}{A:Ii}{E:Ib -> Ic -> Prop}{s:Ic}
end
end QQ
namespace L2
open PySem PySem.Spec PyProof.Rows
section
variable {X:Cx}{tg:Ik}
def rJ (lo c:Int)(n:Nat):It:=⟨λ i _=>i<n,λ i H x H'=>H'=H/\x=.int (lo+i*c),λ i _=>n≤i⟩
theorem kY {P:Ie}{w:Ig}{K:Frag}(it:HZ)(lo c:Int)(n:Nat):Turn P w K tg (rJ lo c n) [it] it (λ i h=>IsRangeIter h it (lo+(i:Nat)*c) ((n:Int)-(i:Nat)) c) where
 mem:=Z6
 obj:=λ i h st b hb=>by
  have e:b=it:=by simpa using hb
  subst e;exact⟨_,st,λ v z=>by
   have z':Data.fields _=Data.cell v:=z;cases z'⟩
 keep:=λ i h h' st k=>k it Z6 _ st
 item:=by
  intro X hP hw hK hc i Io s σ H E I hf st hg;subst hP hw hK;obtain⟨f0,f1,f2,f3,f4,f5⟩:=hf it Z6;refine wpAny_pyNext_range_item st (by have:i<n:=hg;omega) λ h' st1 sb=>?_
  have st':IsRangeIter h' it (lo+((i+1:Nat):Int)*c) ((n:Int)-((i+1:Nat):Int)) c:=by
   have e1:lo+((i+1:Nat):Int)*c=lo+(i:Int)*c+c:=by rw [show((i+1:Nat):Int)=(i:Int)+1 from rfl,Int.add_mul];lia
   have e2:(n:Int)-((i+1:Nat):Int)=(n:Int)-(i:Int)-1:=Z5;rw [e1,e2];exact st1
  have I1:Inv X Io σ H {s with heap:=h',toks:=s.toks+1}:=I.turned (λ b o hb e=>sb.extBut b o hb e) f0 f1 f3 f4 f5;exact⟨_,rfl,oK (s:={s with heap:=h',toks:=s.toks+1}) (n:="range_iterator") st' rfl rfl Z9 ⟨.int (lo+i*c),H,I1,⟨s.toks,rfl⟩,⟨rfl,rfl⟩,st',λ b hb=>(hf b hb).1⟩⟩
 done:=by
  intro X hP hw hK hc i Io s σ H E I hf st hg;subst hP hw hK;obtain⟨f0,f1,f2,f3,f4,f5⟩:=hf it Z6;exact QQ.range_end_q I.hq st (by have:n≤i:=hg;lia) λ h' eb=>⟨rfl,I.turned (t':=s.toks) (λ b o hb e=>eb b o hb e) f0 f1 f3 f4 f5⟩
 self:=λ _ _ _ _ _ st h=>wpAny_pyIter_rangeiter st h
def zR (ta:TA):TI:=λ σ H R=>ta σ H λ vs H1=>∃(i j c:Int) (n:Nat),vs=[.int i,.int j,.int c]/\c≠0/\Builtin.Range.small i j c=true/\Builtin.Range.rangeSize i j c=(n:Int)/\Builtin.divisionGoesByPylong (j-i) c=false/\R (rJ i c n) H1
theorem jq {a b c:Ik}{ta:TA}{p pos:Pos}(hg:Gl X "range")(hm:X.mg "range"=none)(ha:PA X [a,b,c] ta)(hs:autoParam (starEach [a,b,c] X.env=[(false,eval a X.env),(false,eval b X.env),(false,eval c X.env)]) Z0)(hs2:autoParam (starEach [b,c] X.env=[(false,eval b X.env),(false,eval c X.env)]) Z0):
  PI X tg (.Call (.Name "range" p) [a,b,c] [] pos) (zR ta):=by
 intro Io s σ H R I h;refine Call_ (ld_blt I hg hm boot_range (DV (thn (ha pos Io s σ H _ I h) λ us s1 z9=>?_) (by rw [hs,hs2]) (by rw [hs2];rfl)));obtain⟨vs,H1,I1,r1,q1⟩:=z9;obtain⟨i,j,c,n,e,h0,h1,h2,h3,q⟩:=q1;subst e;cases r1 with
 |cons r rr=>
  cases rr with
  |cons r' rr=>
   cases rr with
   |cons r'' rr=>
    cases rr;obtain⟨t,rfl⟩:=r;obtain⟨t',rfl⟩:=r';obtain⟨t'',rfl⟩:=r'';refine call_range_3 h0 ?_ (.inl h3);refine wpAny_pyIter_range (IsRange.new ..) h1 ?_;have I2:Inv X Io σ H1 {s1 with heap:=s1.heap.push {cls:=.type "range",data:=.fields #[.int i t,.int j t',.int c t'']},toks:=s1.toks}:=I1.kept λ b o e=>Bi _ e
    refine⟨(s1.heap.push {cls:=.type "range",data:=.fields #[.int i t,.int j t',.int c t'']}).objs.size,[(s1.heap.push {cls:=.type "range",data:=.fields #[.int i t,.int j t',.int c t'']}).objs.size],_,_,H1,rfl,
     I2.kept (t':=s1.toks) λ b o e=>Bi _ e,kY _ i c n,?_,λ b hb=>?_,q⟩
    ·have e1:i+((0:Nat):Int)*c=i:=Z6;have e2:((n:Nat):Int)-((0:Nat):Int)=Builtin.Range.rangeSize i j c:=by rw [h2];lia
     show IsRangeIter _ _ (i+((0:Nat):Int)*c) (((n:Nat):Int)-((0:Nat):Int)) c;rw [e1,e2];exact BY _ rfl
    ·have e:b=(s1.heap.push {cls:=.type "range",data:=.fields #[.int i t,.int j t',.int c t'']}).objs.size:=by simpa using hb
     subst e;exact I2.fpOk (Bh _) (I2.hok.fresh (Bh _))
theorem iN {lo c:Int}{n:Nat}{g:TG}{tb:TS}{D:Ends}{σ:St}{H:Hp}(Pv:Nat->St->Hp->Prop)(h0:Pv 0 σ H)
  (hs:∀i σ H,i<n->Pv i σ H->g (.int (lo+i*c)) σ H λ σ2 H2=>tb {D with nx:=Pv (i+1),ct:=Pv (i+1),bk:=D.nx} σ2 H2) (hd:∀σ H,Pv n σ H->D.nx σ H):
  ∃W:Nat->Nat->St->Hp->Prop,(∃m,W 0 m σ H)/\∀i m σ H,W i m σ H->
   ((rJ lo c n).stop i H/\D.nx σ H)\/((rJ lo c n).go i H/\∃N:St->Hp->Prop,(∀σ' H',N σ' H'->∃m',m'<m/\W (i+1) m' σ' H')/\∀x H',(rJ lo c n).yld i H x H'->g x σ H' λ σ2 H2=>tb {D with nx:=N,ct:=N,bk:=D.nx} σ2 H2):=by
 refine⟨λ i m σ H=>m=n-i/\i≤n/\Pv i σ H,⟨n,Z6,BX _,h0⟩,?_⟩;rintro i m σ H ⟨rfl,hi,p⟩;by_cases Ir:i<n
 ·refine .inr ⟨Ir,Pv (i+1),λ σ' H' p'=>⟨n-(i+1),Cy _ _ Ir,rfl,Ir,p'⟩,λ x H' y=>?_⟩;obtain⟨e,y⟩:=y;subst e y;exact hs i σ _ Ir p
 ·have e:i=n:=BI hi (Nat.not_lt.1 Ir);subst e;exact .inl ⟨Bh _,hd σ H p⟩
end
end L2
set_option maxHeartbeats 4000000
namespace L2
open PySem PySem.Spec PyProof.Rows QQ
variable {X:Cx}
def Au (K:Frag):R2:=λ x y H Q=>∃(p q:HZ),x=.ref p/\y=.ref q/\((∃a b:Str,SqT K H p [.str a]/\SqT K H q [.str b]/\Q (.bl (!(a==b))) H)\/(∃a b:Bool,SqT K H p [.bl a]/\SqT K H q [.bl b]/\Q (.bl (!(a==b))) H))
theorem jU {x:V}{us:List Ib}(r:Vals [x] us):∃u,us=[u]/\RelV x u:=by
 cases r with
 |cons r rr=>cases rr;exact⟨_,rfl,r⟩
theorem jJ (hu:X.A.units<cLine):OpR X (compareOp .NotEq) (Au X.K):=by
 intro Io s σ H x y v u Q I rx ry h;obtain⟨p,q,rfl,rfl,h⟩:=h;cases rx;cases ry;rcases h with⟨a,b,h1,h2,k⟩|⟨a,b,h1,h2,k⟩
 ·obtain⟨its,rv,pl,hz⟩:=I.tuple h1;obtain⟨its2,rv2,pl2,hz2⟩:=I.tuple h2;obtain⟨u1,rfl,t1,rfl⟩:=jU rv;obtain⟨u2,rfl,t2,rfl⟩:=jU rv2;refine SeqAt.RcNeAt.tuples (e:=λ _=>a==b) (show s.heap.IsTuple p _ from pl) (show s.heap.IsTuple q _ from pl2) hu (λ j h1 h2=>?_) _ _ _ _ ?_
  ·have e:j=0:=by simp at h1;assumption
   subst e;exact sS _ _ a t1 b t2
  ·refine⟨.bl (!(a==b)),H,I,?_,k⟩;show Value.bool _=Value.bool _;congr 1;simp
 ·obtain⟨its,rv,pl,hz⟩:=I.tuple h1;obtain⟨its2,rv2,pl2,hz2⟩:=I.tuple h2;obtain⟨u1,rfl,r1⟩:=jU rv;obtain⟨u2,rfl,r2⟩:=jU rv2;cases r1;cases r2;refine SeqAt.RcNeAt.tuples (e:=λ _=>a==b) (show s.heap.IsTuple p _ from pl) (show s.heap.IsTuple q _ from pl2) hu (λ j h1 h2=>?_) _ _ _ _ ?_
  ·have e:j=0:=by simp at h1;assumption
   subst e
   first|exact SeqAt.EqAt.bool_bool a b|exact SeqAt.EqAt.bool_bool _ _
  ·refine⟨.bl (!(a==b)),H,I,?_,k⟩;show Value.bool _=Value.bool _;congr 1;simp
section
variable {X:Cx}{pos:Pos}
end
section
variable {X:Cx}{e e1:Ik}{te t1:TE}{pos p2:Pos}
end
section
variable {X:Cx}{a b:Ik}{rest:List Ik}{ta tb:TE}{pos:Pos}
end
structure MkB (K:Frag)(C:HZ):Prop where
 makes:makesIn K C=true
 init:findIn K (.ref C) "__init__"=some (some (.builtin "object.__init__"))
 kp:keepIn K (.ref C)=true
def yd (C:HZ):TE:=λ _ H Q=>∀x dx,H x=none->H dx=none->dx≠x->Q (.ref x) (upd (upd H dx (.own x)) x (.ins C dx []))
theorem fi {C:HZ}{x:Str}{p pos:Pos}(M:MkB X.K C)(hg:Gl X x)(hm:X.mg x=some (.ref C))(hdb:autoParam ((x==("__debug__":Str))=false) ZZ):PE X (.Call (.Name x p) [] [] pos) (yd C):=by
 intro Io s σ H Q I h;refine DJ (ld_glob I hg hm ?_ hdb);refine Et I.kIn M.kp ?_;have I2:=Inv.made (C:=C) I;have hq:=h (s.heap.objs.size+1) s.heap.objs.size (I.hok.fresh (Es _)) (I.hok.fresh (Bh _)) (Ci (FK _));refine Gp (rj I.kIn M.makes M.init (λ self=>Looks.of_pure (PySem.W.oi_bind self)) ?_);have Y:=HK (M:=model X.prog X.w) I.kIn M.makes;have e2:((s.heap.push emptyDict).push (instObj C s.heap.objs.size)).get? (s.heap.objs.size+1)=some (instObj C s.heap.objs.size):=by
  have:=BY (s.heap.push emptyDict) (o:=instObj C s.heap.objs.size) rfl
  rwa [Fy] at this
 have t1:Looks (model X.prog X.w) ((s.heap.push emptyDict).push (instObj C s.heap.objs.size)) (typeOf (.ref (s.heap.objs.size+1))) (.ref C):=(Looks.ld e2).andThen .now;have t2:Looks (model X.prog X.w) ((s.heap.push emptyDict).push (instObj C s.heap.objs.size)) (isInstance (.ref (s.heap.objs.size+1)) (.type "object")) true:=t1.andThen (Y.top.keeps λ b o e=>Bi _ (Bi _ e));refine codeAny_call_builtin PySem.W.oi_plain PySem.W.entry_oi (@PySem.W.check_slot (model X.prog X.w) _ _ _ "object.__init__" "object" "__init__" (.ref (s.heap.objs.size+1)) [] [] _ PySem.W.oi_kind PySem.W.oi_split t2 (PySem.W.oi_args (.ref (s.heap.objs.size+1))) ?_);rw [oi_run];exact BH (And.intro rfl ⟨.ref (s.heap.objs.size+1),_,I2,rfl,hq⟩)
section
variable {X:Cx}
end
end L2
set_option maxHeartbeats 2000000
namespace L2
open PySem PyProof.Rows
theorem iX (a f:HZ):Builtin.«list.sort» ⟨[.ref a],[(Str.ofString "key",.ref f)]⟩=(do
    let items<-Builtin.List.listItems (.ref a)
    Builtin.List.listUpdate (.ref a) λ _=>#[]
    let before<-seqEpoch a
    let held<-newTuple items.toList
    let keyStore<-newList []
    holding [held,keyStore] do
      rule "list.sort.key"
      for x in items do
        match<-(call (.ref f) [x]).attempt with
        | .ok k=>Builtin.List.listUpdate keyStore (·.push k)
        | .error e=>
          rule "list.sort.key-raised"
          let made<-Builtin.List.listItems keyStore
          Builtin.List.listUpdate keyStore λ _=>#[]
          letGo made.toList.reverse [e]
          Builtin.List.listUpdate (.ref a) λ _=>items;throw e
      let keys<-Builtin.List.listItems keyStore
      let kind<-if items.size<2 then pure general' else keyKind' keys
      let((),s)<-(if items.size<2 then pure () else sortRuns').run (SortSt.mk' kind (keys.zip items) #[] 7 none)
      let sorted:=(arrOf s).map (·.2)
      Builtin.List.listUpdate keyStore λ _=>#[]
      letGo ((arrOf s).map (·.1)).toList (failedOf s).toList
      let touched:=(<-seqEpoch a) !=before
      Builtin.List.listUpdate (.ref a) λ _=>sorted
      if let some e:=failedOf s then rule "list.sort.comparison-raised";throw e
      if touched then rule "list.sort.modified";raiseError "ValueError" "list modified during sort"
      ret .none):=by
  first|rfl|(fail "not by rfl")
theorem eF (a v:Ib):argsOk "list.sort" ⟨[a],[(Str.ofString "key",v)]⟩:=by unfold argsOk;kernel_rfl
theorem gy (a v:Ib):argsOk "sorted" ⟨[a],[(Str.ofString "key",v)]⟩:=by unfold argsOk;kernel_rfl
theorem qk {vs:List Ib}{ns:List Int}{n:Int}{t:Tok}(h:IntsAre vs ns):IntsAre (vs++[.int n t]) (ns++[n]):=by
 induction h with
 |nil=>exact .cons n t .nil
 |cons m u _ ih=>exact .cons m u ih
theorem dy {c:String}{xs:Array Ib}{n:Nat}:∀v,(seqObj c xs n).data≠ .cell v:=λ v h=>by cases h
theorem Inv.turn {X:Cx}{Io:List (HZ×Il)}{σ:St}{H:Hp}{s:Ic}{a:HZ}{g:Il->Il}(I:Inv X Io σ H s)(fa:FpOk X Io H a):Inv X Io σ H {s with heap:=s.heap.update a g}:=
 I.turned (t':=s.toks) (λ b o hb e=>by rw [DP _ _ _ _ hb];exact e) fa.1 fa.2.1 fa.2.2.2.1 fa.2.2.2.2.1 fa.2.2.2.2.2
end L2
set_option maxHeartbeats 2000000
namespace L2
open PySem PyProof.Rows QQ
variable {xs:List V}{m:List (Int×V)}{its:List Ib}{l:List (Ib×Ib)}
theorem Inv.adopt {X:Cx}{Io:List (HZ×Il)}{σ:St}{H:Hp}{s:Ic}{a:HZ}{n:Nat}(I:Inv X Io σ H s)(fa:FpOk X Io H a)(rv:Vals xs its)(hz:xs.length≤sizeLine)
  (ho:s.heap.get? a=some (seqObj "list" its.toArray n)):Inv X Io σ (upd H a (.lst xs)) s:=by
 have hn:=fa.1;refine I.step (h':=s.heap) (g':=s.gens) (d':=s.drawn) (t':=s.toks) (ch:=[a]) (λ b hb=>?_) (λ b o _ _ _ e _=>e) (λ b o _ _ _ e _=>⟨o.slots,e⟩) (λ b o hb e n=>?_)
  (λ b o _ e=>⟨o,e⟩) (λ b ys e=>?_) (λ b o u e=>?_) (λ b ps e=>⟨#[],?_⟩) (λ m hm=>hm) (λ b u e=>?_) I.bare
 ·rw [Bx.mp hb];exact⟨fa.2.2.2.1,fa.2.1,fa.2.2.2.2.1,fa.2.2.2.2.2⟩
 ·rw [upd_ne (λ z=>hb (by simp [z]))];exact n
 ·rw [upd_ne (ai e hn)];exact e
 ·rw [upd_ne (ai e hn)];exact e
 ·rw [upd_ne (ai e hn),e];simp
 ·by_cases hb:b=a
  ·subst hb;rw [ac] at e;cases e;exact⟨hz,its,n,rv,ho⟩
  ·rw [upd_ne hb] at e;exact(I.hok b u e).stay (λ c v _ q=>q) (λ c q=>by rw [upd_ne (ai q hn)];exact q) λ c xs q=>by rw [upd_ne (ai q hn)];exact q
inductive PR:List (Ib×Ib)->List (Int×V)->Prop
 |nil:PR [] []
 |cons {k v:Ib} {n:Int} {x:V} {l:List (Ib×Ib)} {m:List (Int×V)}:(∃t,k=.int n t)->RelV x v->PR l m->PR ((k,v)::l) ((n,x)::m)
theorem yP {kv:List Ib}{ks:List Int}(h:IntsAre kv ks)(g:Vals xs its):PR (kv.zip its) (ks.zip xs):=by
 induction h generalizing xs its with
 |nil=>exact .nil
 |cons n t _ ih=>cases g with
  |nil=>exact .nil
  |cons r rs=>exact .cons ⟨t,rfl⟩ r (ih rs)
theorem wu (h:PR l m):Vals (m.map (·.2)) (l.map (·.2)):=by
 induction h with
 |nil=>exact .nil
 |cons _ r _ ih=>exact .cons r ih
theorem yO (h:PR l m):l.length=m.length:=by
 induction h with
 |nil=>rfl
 |cons _ _ _ ih=>exact congrArg Nat.succ ih
theorem An (h:PR l m):∀{i:Nat} {q:Int×V},m[i]?=some q->∃t v,l[i]?=some (.int q.1 t,v):=by
 induction h with
 |nil=>intro i q hq;cases hq
 |cons e _ _ ih=>
  intro i q hq;cases i with
  |zero=>obtain⟨t,e⟩:=e;cases hq;subst e;exact⟨t,_,rfl⟩
  |succ i=>exact ih (i:=i) hq
section
variable {X:Cx}{k:Nat}{f:HZ}{fd:Ih}{x:Str}{sp:Sp}{e:Ik}{te:TE}{fe:Ik}{p kp pos:Pos}{y:Str}
end
section
variable {X:Cx}
theorem tH {ys:Array (Int×Tok)}{ns:List Int}(e1:ns=ys.toList.map (·.1)){i:Nat}(h:i<ns.length):numAt ys i=ns[i]:=by
 subst e1;rw [A9,CY] at h;simp [numAt,h]
theorem rq (hc:X.A.handled=none):dF X (.builtin "max") (λ xs H Q=>∃(p:HZ) (ns:List Int),xs=[.ref p]/\SqL X.K H p (ns.map V.int)/\0<ns.length/\∀n∈ns,(∀m∈ns,m≤n)->Q (.int n) H):=by
 intro Io s σ H xs us Q I r h;obtain⟨p,ns,rfl,hq,hne,q⟩:=h;obtain⟨u,rfl,rx⟩:=fk r;cases rx;obtain⟨its,rv,pl,hz⟩:=I.list hq;have hi:=cg rv;obtain⟨ys,hx⟩:=hi.allInts.items;have hl:s.heap.IsList p (intItems ys):=hx▸pl.isList;have e1:ns=ys.toList.map (·.1):=by
  rw [<-nums_intItems,<-hx];exact(show numsOf its.toArray.toList=ns from hi.numsOf).symm
 have hsz:ns.length=ys.size:=by rw [e1];simp
 refine max_intList hc hl (Bn hne hsz) λ v h' tk hv hk=>?_
 obtain⟨t,rfl⟩:=intItems_at hv;obtain⟨h1,h2⟩:=argBest_gt (numAt ys) (ys.size-1);generalize argBest (λ i j=>decide (numAt ys i>numAt ys j)) (ys.size-1)=b at*;have hb:b<ns.length:=Z5;have eb:=tH e1 hb;refine⟨.int ns[b],H,I.kept (t':=tk) hk,⟨t,by rw [eb]⟩,q _ (Dn hb) λ m hm=>?_⟩;obtain⟨j,hj,rfl⟩:=List.getElem_of_mem hm;have:=h2 j (DZ (Bn hj hsz));rw [tH e1 hj,eb] at this;exact this
end
end L2
set_option maxHeartbeats 4000000
namespace L2
open PySem PySem.Spec PyProof.Rows QQ
section
variable {X:Cx}
end
end L2
namespace W16
variable {b m p:Nat}{S:List Nat}
inductive Pc where
 |sg (s:Nat)
 |cp (b z:Nat)
deriving DecidableEq
def Pc.size:Pc->Nat
 | .sg _=>1
 | .cp _ z=>z
noncomputable def al (S:List Nat) (p b:Nat):Nat->Nat
 |0=>0
 |m+1=>if al S p b m=m/\S[p+m]?=S[p+m-b]? then m+1 else al S p b m
theorem pH (S:List Nat)(p b:Nat):∀m,al S p b m≤m
 |0=>Bh _
 |m+1=>by
  unfold al;have:=pH S p b m
  split<;>lia
theorem al_all:∀{m:Nat},∀i<al S p b m,S[p+i]?=S[p+i-b]?
 |0,i,h=>by simp [al] at h
 |m+1,i,h=>by
  unfold al at h
  split at h
  ·rename_i c
   by_cases e:i=m
   ·subst e;exact c.2
   ·exact al_all (m:=m) i (by rw [c.1];exact Cn (CM h) e)
  ·exact al_all (m:=m) i h
theorem tU:∀{m:Nat},(∀i<m,S[p+i]?=S[p+i-b]?)->al S p b m=m
 |0,_=>rfl
 |m+1,h=>by
  unfold al;rw [BM ⟨tU λ i hi=>h i (HM 1 hi),h m (Gr _)⟩]
theorem uS {r:Nat}(h:∀i<r,S[p+i]?=S[p+i-b]?)(hn:S[p+r]?≠S[p+r-b]?):∀m,r≤m->al S p b m=r
 |0,hm=>by
  have:r=0:=Z5;subst this;rfl
 |m+1,hm=>by
  by_cases e:r=m+1
  ·subst e;exact tU h
  ·have ih:=uS h hn m Z5;unfold al;rw [ih]
   split
   ·rename_i c
    rw [<-c.1] at c;exact absurd c.2 hn
   ·rfl
theorem wG (h:al S p b m<m):S[p+al S p b m]?≠S[p+al S p b m-b]?:=by
 induction m with
 |zero=>simp [al] at h
 |succ m ih=>
  by_cases c:al S p b m=m/\S[p+m]?=S[p+m-b]?
  ·have e:al S p b (m+1)=m+1:=by unfold al;rw [BM c]
   lia
  ·have e:al S p b (m+1)=al S p b m:=by rw [al,Bu c]
   rw [e];by_cases q:al S p b m=m
   ·rw [q];exact λ z=>c ⟨q,z⟩
   ·exact ih (by have:=pH S p b m;lia)
noncomputable def lc (S:List Nat) (p m:Nat):Nat->Nat×Nat
 |0=>(0,0)
 |n+1=>if(lc S p m n).2<al S p (n+1) m then(n+1,al S p (n+1) m) else lc S p m n
theorem pB (S:List Nat)(p m:Nat):∀n,(lc S p m n).2≤m
 |0=>BX _
 |n+1=>by
  unfold lc
  split
  ·exact pH ..
  ·exact pB S p m n
theorem px {k:Nat}(h:(lc S p m k).2=m):∀n,k≤n->lc S p m n=lc S p m k
 |0,hk=>by
  have:k=0:=Z5;subst this;rfl
 |n+1,hk=>by
  by_cases e:k=n+1
  ·subst e;rfl
  ·have ih:=px h n Z5;rw [lc,ih,h,Bu];have:=pH S p (n+1) m;exact Hx.mpr this
theorem vm {n:Nat}(h:S[p+(lc S p m n).2]?≠S[p+(lc S p m n).2-(n+1)]?):lc S p m (n+1)=lc S p m n:=by
 rw [lc,Bu];intro c;exact h (al_all _ c)
theorem oZ:∀{n:Nat},0<(lc S p m n).2->1≤(lc S p m n).1/\(lc S p m n).1≤n/\(lc S p m n).2=al S p (lc S p m n).1 m
 |0,h=>by simp [lc] at h
 |n+1,h=>by
  unfold lc at h ⊢
  split
  ·exact⟨Ew (BX _),Bh _,rfl⟩
  ·rename_i c
   rw [Bu c] at h;obtain⟨a,b,e⟩:=oZ h;exact⟨a,CV b,e⟩
def most (S:List Nat)(p:Nat):Nat:=min 18 (S.length-p)
def far (p:Nat):Nat:=min 255 p
def lcAt (S:List Nat)(p:Nat):Nat×Nat:=lc S p (most S p) (far p)
def pcAt (S:List Nat)(p:Nat):Pc:=if 3≤(lcAt S p).2 then .cp (lcAt S p).1 (lcAt S p).2 else .sg (S.getD p 0)
def Walk (S:List Nat):Nat->List Pc->Nat->Prop
 |p,[],q=>p=q
 |p,x::xs,q=>p<S.length/\x=pcAt S p/\Walk S (p+x.size) xs q
theorem cN:∀{P:List Pc} {p q:Nat},Walk S p P q->q<S.length->Walk S p (P++[pcAt S q]) (q+(pcAt S q).size)
 | [],p,q,h,hq=>by
  cases h;exact⟨hq,rfl,rfl⟩
 |x::P,p,q,h,hq=>⟨h.1,h.2.1,cN h.2.2 hq⟩
theorem fV (h:p<S.length):1≤(pcAt S p).size/\p+(pcAt S p).size≤S.length:=by
 unfold pcAt
 split
 ·rename_i c
  have:=pB S p (most S p) (far p);show 1≤(lcAt S p).2/\p+(lcAt S p).2≤S.length;unfold lcAt at c ⊢;unfold most at this c ⊢;lia
 ·show 1≤1/\p+1≤S.length;exact if_false_right.mp h
theorem cz:∀{P:List Pc} {p q:Nat},Walk S p P q->p+P.length≤q
 | [],p,q,h=>by cases h;simp
 |x::P,p,q,h=>by
  have:=cz h.2.2;have h1:=(fV h.1).1;rw [<-h.2.1] at h1;simp;lia
theorem wO {z:Nat}(hp:p<S.length)(h:pcAt S p=.cp b z):1≤b/\b≤p/\b≤255/\3≤z/\z≤18/\p+z≤S.length/\(∀i<z,S[p+i]?=S[p+i-b]?)/\(z<18->p+z<S.length->S[p+z]?≠S[p+z-b]?):=by
 unfold pcAt at h
 split at h
 ·rename_i c
  have e1:(lcAt S p).1=b:=by injection h
  have e2:(lcAt S p).2=z:=by injection h
  rw [e2] at c;have g:=oZ (S:=S) (p:=p) (m:=most S p) (n:=far p) (by show 0<(lcAt S p).2;lia);have l:=pB S p (most S p) (far p);change 1≤(lcAt S p).1/\(lcAt S p).1≤far p/\(lcAt S p).2=al S p (lcAt S p).1 (most S p) at g;change (lcAt S p).2≤most S p at l;rw [e1,e2] at g;rw [e2] at l;have hf:far p≤255/\far p≤p:=by unfold far;exact⟨Da _ _,Di _ _⟩
  have hm:most S p≤18/\most S p≤S.length-p/\(most S p=18\/most S p=S.length-p):=by unfold most;lia
  refine⟨g.1,Ba g.2.1 hf.2,Ba g.2.1 hf.1,c,Ba l hm.1,Z5,λ i hi=>al_all (m:=most S p) i (Bf hi (Bz g.2.2)),λ h1 h2=>?_⟩;have:=wG (S:=S) (p:=p) (b:=b) (m:=most S p) (by rw [<-g.2.2];lia);rw [<-g.2.2] at this;exact this
 ·cases h
theorem wk {s:Nat}(hp:p<S.length)(h:pcAt S p=.sg s):S[p]?=some s:=by
 unfold pcAt at h
 split at h
 ·cases h
 ·injection h with h
  rw [<-h];simp [List.getD,hp]
end W16
namespace BP
variable {N k r:Nat}
def val (B:List Nat):Nat:=B.foldl (λ a b=>a*256+b) 0
theorem qz (B:List Nat):∀a,B.foldl (λ a b=>a*256+b) a=a*256^B.length+val B:=by
 induction B with
 |nil=>intro a;simp [val]
 |cons b B ih=>
  intro a;have h0:val (b::B)=b*256^B.length+val B:=by
   show B.foldl (λ a b=>a*256+b) (0*256+b)=_;rw [ih,Nat.zero_mul,C5]
  show B.foldl (λ a b=>a*256+b) (a*256+b)=_;rw [ih,h0,Bq,Df,Gm,CN,Dt 256,CI]
theorem iA (b:Nat)(B:List Nat):val (b::B)=b*256^B.length+val B:=by
 show B.foldl (λ a b=>a*256+b) (0*256+b)=_;rw [qz,Nat.zero_mul,C5]
theorem val_snoc (A:List Nat)(b:Nat):val (A++[b])=val A*256+b:=by
 show(A++[b]).foldl (λ a b=>a*256+b) 0=_;rw [Hu];rfl
theorem val_lt {B:List Nat}(h:∀b∈B,b<256):val B<256^B.length:=by
 induction B with
 |nil=>simp [val]
 |cons b B ih=>
  rw [iA,Bq,Df];have h1:=ih λ x hx=>h x (Bw _ hx)
  have h2:b<256:=h b BF;have h3:b*256^B.length≤255*256^B.length:=Nat.mul_le_mul_right _ (CM h2);lia
theorem pow256 (n:Nat):256^n=2^(8*n):=by rw [Nat.pow_mul]
theorem pow_pos2 (n:Nat):0<2^n:=DG Z9
structure BR (N T:Nat)(B:List Nat)(r k:Nat):Prop where
 tot:T=8*B.length+k
 num:N=val B*2^k+r
 low:r<2^k
 byt:∀b∈B,b<256
theorem BR.init:BR 0 0 [] 0 0:=⟨rfl,rfl,Z9,λ _ h=>nomatch h⟩
theorem BR.put {T:Nat}{B:List Nat}(h:BR N T B r k){n s:Nat}(hn:n<2^s):BR (N*2^s+n) (T+s) B (r*2^s+n) (k+s):=by
 refine⟨by rw [h.tot];exact CI _ _ _,?_,?_,h.byt⟩
 ·rw [h.num,Ee,Gm,CN,CI]
 ·have h1:r+1≤2^k:=h.low;have h2:(r+1)*2^s≤2^k*2^s:=Nat.mul_le_mul_right _ h1;rw [Gm,Nat.one_mul] at h2;rw [Ee];exact Bf (Em hn _) h2
theorem BR.move {T:Nat}{B:List Nat}(h:BR N T B r (k+8)):BR N T (B++[r/2^k]) (r%2^k) k:=by
 have e:=FV r (2^k);refine⟨by rw [h.tot,Bb,Ex];lia,?_,DK _ (pow_pos2 k),λ b hb=>?_⟩
 ·rw [h.num,val_snoc,Gm,Ee];have:val B*(2^k*2^8)=val B*256*2^k:=by rw [Dt (2^k),<-CN]
  rw [this,CI];rw [Dt (r/2^k),e]
 ·rcases Br.mp hb with hb|hb
  ·exact h.byt b hb
  ·rw [Bx.mp hb];have:=h.low;rw [Ee] at this;exact GU this
structure RowOf (N T:Nat)(R:List Nat):Prop where
 len:R.length=(T+7)/8
 byt:∀b∈R,b<256
 num:val R=N*2^(8*R.length-T)
theorem BR.row0 {T:Nat}{B:List Nat}(h:BR N T B r 0):RowOf N T B:=by
 have h1:=h.low;refine⟨by rw [h.tot];lia,h.byt,?_⟩;rw [h.num,h.tot];have:r=0:=by simpa using h1
 subst this;simp
theorem BR.row1 {T:Nat}{B:List Nat}(h:BR N T B r k)(h0:0<k)(h8:k<8):RowOf N T (B++[r*2^(8-k)]):=by
 refine⟨by rw [h.tot,Bb,Ex];lia,λ b hb=>?_,?_⟩
 ·rcases Br.mp hb with hb|hb
  ·exact h.byt b hb
  ·rw [Bx.mp hb];have h2:r*2^(8-k)<2^k*2^(8-k):=(EM (pow_pos2 _)).mpr h.low;rw [<-Ee] at h2;have:k+(8-k)=8:=Cf (B7 h8);rw [this] at h2;exact h2
 ·have e:8*(B++[r*2^(8-k)]).length-T=8-k:=by rw [h.tot,Bb,Ex];lia
  have e2:256=2^k*2^(8-k):=by
   rw [<-Ee];have:k+(8-k)=8:=Z5;rw [this]
  rw [e,val_snoc,h.num,Gm,CN,<-e2]
noncomputable def dJ:List (Nat×Nat)->Nat->Nat
 | [],N=>N
 |p::ps,N=>dJ ps (N*2^p.2+p.1)
def tots (ps:List (Nat×Nat)):Nat:=(ps.map (·.2)).sum
theorem bG (a b:List (Nat×Nat))(N:Nat):dJ (a++b) N=dJ b (dJ a N):=by
 induction a generalizing N with
 |nil=>rfl
 |cons p a ih=>exact ih _
theorem aX (a b:List (Nat×Nat)):tots (a++b)=tots a+tots b:=by simp [tots,Bm,Eo]
theorem fK (p:Nat×Nat)(b:List (Nat×Nat)):tots (p::b)=p.2+tots b:=by simp [tots]
def Good (ps:List (Nat×Nat)):Prop:=∀p∈ps,p.1<2^p.2
theorem oJ:∀{A B:List Nat},(∀b∈A,b<256)->(∀b∈B,b<256)->A.length=B.length->val A=val B->A=B
 | [],[],_,_,_,_=>rfl
 | [],_::_,_,_,h,_=>by cases h
 |_::_,[],_,_,h,_=>by cases h
 |a::A,b::B,hA,hB,hl,hv=>by
  have hl':A.length=B.length:=by simpa using hl
  rw [iA,iA,hl'] at hv;have h1:val A<256^B.length:=by rw [<-hl'];exact val_lt λ x hx=>hA x (Bw _ hx)
  have h2:val B<256^B.length:=val_lt λ x hx=>hB x (Bw _ hx)
  have p:0<256^B.length:=DG Z9;have e1:a=b:=by
   have q1:(a*256^B.length+val A)/256^B.length=a:=by rw [Dt,Nat.mul_add_div p,HF h1,Ey]
   have q2:(b*256^B.length+val B)/256^B.length=b:=by rw [Dt,Nat.mul_add_div p,HF h2,Ey]
   rw [<-q1,hv,q2]
  subst e1;rw [oJ (λ x hx=>hA x (Bw _ hx)) (λ x hx=>hB x (Bw _ hx)) hl' (Nat.add_left_cancel hv)]
theorem RowOf.uniq {T:Nat}{R R':List Nat}(h:RowOf N T R)(h':RowOf N T R'):R=R':=by
 have e:R.length=R'.length:=by rw [h.len,h'.len]
 exact oJ h.byt h'.byt e (by rw [h.num,h'.num,e])
end BP
namespace W13
variable {L:List Nat}{a p:Nat}
noncomputable def run (a:Nat):List Nat->Nat
 | []=>0
 |x::xs=>if x=a then run a xs+1 else 0
theorem iG (a:Nat):∀L:List Nat,run a L≤L.length
 | []=>Bh _
 |x::xs=>by
  unfold run;have:=iG a xs
  split<;>simp<;>assumption
theorem mY:∀{L:List Nat} {i:Nat},i<run a L->L[i]?=some a
 | [],i,h=>by simp [run] at h
 |x::xs,0,h=>by
  unfold run at h
  split at h
  ·rename_i c;simp [c]
  ·lia
 |x::xs,i+1,h=>by
  unfold run at h
  split at h
  ·simpa using mY (L:=xs) (i:=i) (Nat.succ_lt_succ_iff.mp h)
  ·lia
theorem oi:∀{L:List Nat} {n:Nat},(∀i<n,L[i]?=some a)->n≤run a L
 | [],0,_=>BX _
 | [],n+1,h=>by simpa using h 0 Z5
 |x::xs,0,_=>BX _
 |x::xs,n+1,h=>by
  have h0:x=a:=by simpa using h 0 Z5
  rw [run,BM h0];have:=oi (L:=xs) (n:=n) (λ i hi=>by simpa using h (i+1) (Nat.add_lt_add_right hi 1));exact CZ this 1
theorem rR {n:Nat}(h:∀i<n,L[i]?=some a)(hn:L[n]?≠some a):run a L=n:=by
 have h1:=oi h;rcases Dm n (run a L) with h2|h2
 ·exact absurd (mY h2) hn
 ·exact BI h2 h1
inductive Itm where
 |one (x:Nat)
 |rep (r:Nat)
def Itm.size:Itm->Nat
 | .one _=>1
 | .rep r=>r
def Itm.cost:Itm->Nat
 | .one _=>3
 | .rep _=>9
def Itm.next (a:Nat):Itm->Nat
 | .one x=>x
 | .rep _=>a
noncomputable def Itm.puts:Itm->List (Nat×Nat)
 | .one x=>[(x,3)]
 | .rep r=>[(7,3),(r-3,6)]
def stAt (L:List Nat)(p a:Nat):Itm:=if 3≤min 66 (run a (L.drop p)) then .rep (min 66 (run a (L.drop p))) else .one (L.getD p 0)
def Walk (L:List Nat):Nat->Nat->List Itm->Nat->Nat->Prop
 |p,a,[],q,b=>p=q/\a=b
 |p,a,x::xs,q,b=>p<L.length/\x=stAt L p a/\Walk L (p+x.size) (x.next a) xs q b
theorem cN:∀{P:List Itm} {p a q b:Nat},Walk L p a P q b->q<L.length->Walk L p a (P++[stAt L q b]) (q+(stAt L q b).size) ((stAt L q b).next b)
 | [],p,a,q,b,h,hq=>by
  obtain⟨rfl,rfl⟩:=h;exact⟨hq,rfl,rfl,rfl⟩
 |x::P,p,a,q,b,h,hq=>⟨h.1,h.2.1,cN h.2.2 hq⟩
theorem ju (h:p<L.length):1≤(stAt L p a).size/\p+(stAt L p a).size≤L.length:=by
 unfold stAt
 split
 ·rename_i c
  have:=iG a (L.drop p);rw [By] at this;show 1≤min 66 (run a (L.drop p))/\p+min 66 (run a (L.drop p))≤L.length;lia
 ·show 1≤1/\p+1≤L.length;exact if_false_right.mp h
theorem cz:∀{P:List Itm} {p a q b:Nat},Walk L p a P q b->p+P.length≤q
 | [],p,a,q,b,h=>by obtain⟨rfl,rfl⟩:=h;simp
 |x::P,p,a,q,b,h=>by
  have h1:=cz h.2.2;have h2:=(ju (a:=a) h.1).1;rw [<-h.2.1] at h2;simp;lia
theorem pX (hp:p<L.length):(∀x,stAt L p a=.one x->L.take (p+1)=L.take p++[x]/\L[p]?=some x)/\(∀r,stAt L p a=.rep r->3≤r/\r≤66/\p+r≤L.length/\L.take (p+r)=L.take p++List.replicate r a):=by
 have hle:=iG a (L.drop p);rw [By] at hle;unfold stAt
 split
 ·rename_i c
  refine⟨λ x h=>(by cases h),λ r h=>?_⟩;injection h with h
  have hr:r≤run a (L.drop p):=Z5;refine⟨Gs c h,Z5,GA (B7 hp) (Ba hr hle),?_⟩;rw [F1];congr 1;apply Dq;intro i;rw [EB,EV]
  split
  ·rename_i hi
   exact mY (Bf hi hr)
  ·rfl
 ·refine⟨λ x h=>?_,λ r h=>(by cases h)⟩;injection h with h
  have e:L[p]?=some x:=by rw [<-h];simp [List.getD,hp]
  exact⟨by rw [CQ,e];rfl,e⟩
noncomputable def decL (a:Nat):List Itm->List Nat
 | []=>[]
 | .one x::P=>x::decL x P
 | .rep r::P=>List.replicate r a++decL a P
def StOk:Itm->Prop
 | .one x=>x≤6
 | .rep r=>3≤r/\r≤66
theorem walk_dec:∀{P:List Itm} {p a q b:Nat},Walk L p a P q b->L.take q=L.take p++decL a P
 | [],p,a,q,b,h=>by obtain⟨rfl,rfl⟩:=h;simp [decL]
 |x::P,p,a,q,b,h=>by
  obtain⟨hp,hx,hw⟩:=h;have ih:=walk_dec hw;have ht:=pX (a:=a) hp;rw [ih];cases x with
  |one y=>
   have h1:=(ht.1 y hx.symm).1;show L.take (p+1)++decL y P=L.take p++y::decL y P;rw [h1];simp
  |rep r=>
   have h1:=(ht.2 r hx.symm).2.2.2;show L.take (p+r)++decL a P=L.take p++(List.replicate r a++decL a P);rw [h1,Be]
theorem walk_ok (hL:∀b∈L,b≤6):∀{P:List Itm} {p a q b:Nat},Walk L p a P q b->∀x∈P,StOk x
 | [],p,a,q,b,h,x,hx=>by simp at hx
 |y::P,p,a,q,b,h,x,hx=>by
  rcases BA.mp hx with rfl|hx
  ·have ht:=pX (a:=a) h.1;cases x with
   |one y=>exact hL _ (Cm (ht.1 y h.2.1.symm).2)
   |rep r=>have:=ht.2 r h.2.1.symm;exact⟨this.1,this.2.1⟩
  ·exact walk_ok hL h.2.2 x hx
noncomputable def puts (P:List Itm):List (Nat×Nat):=P.flatMap Itm.puts
theorem gu (P Q:List Itm):puts (P++Q)=puts P++puts Q:=by simp [puts]
theorem gl:∀P:List Itm,((puts P).map (·.2)).sum=(P.map Itm.cost).sum
 | []=>rfl
 | .one x::P=>by
  show((Itm.puts (.one x)++puts P).map (·.2)).sum=_;rw [Bm,Eo,gl P];simp [Itm.puts,Itm.cost]
 | .rep r::P=>by
  show((Itm.puts (.rep r)++puts P).map (·.2)).sum=_;rw [Bm,Eo,gl P];simp [Itm.puts,Itm.cost]
theorem puts_good {P:List Itm}(h:∀x∈P,StOk x):∀q∈puts P,q.1<2^q.2:=by
 intro q hq;obtain⟨x,hx,hq⟩:=HJ.mp hq;have ok:=h x hx;cases x with
 |one y=>
  have:y≤6:=ok;simp [Itm.puts] at hq;subst hq;show y<2^3;exact B0 this Z9
 |rep r=>
  obtain⟨h1,h2⟩:3≤r/\r≤66:=ok;simp [Itm.puts] at hq;rcases hq with rfl|rfl
  ·decide
  ·show r-3<2^6;omega
end W13
namespace W17
open BP W13
variable {a:Nat}
noncomputable def rlF:Nat->List Nat->List (Nat×Nat)
 |0,_=>[]
 |_+1,[]=>[]
 |n+1,a::L=>(a,1+run a L)::rlF n (L.drop (run a L))
theorem iI:∀{n m:Nat} {L:List Nat},L.length≤n->L.length≤m->rlF n L=rlF m L
 |0,0,_,_,_=>rfl
 |0,m+1,[],_,_=>rfl
 |0,_+1,_::_,h,_=>by simp at h
 |n+1,0,[],_,_=>rfl
 |_+1,0,_::_,_,h=>by simp at h
 |n+1,m+1,[],_,_=>rfl
 |n+1,m+1,a::L,h1,h2=>by
  have h1':L.length≤n:=by simpa using h1
  have h2':L.length≤m:=by simpa using h2
  show(a,1+run a L)::rlF n (L.drop (run a L))=(a,1+run a L)::rlF m (L.drop (run a L));rw [iI (n:=n) (m:=m) (by rw [By];exact Ba (Ek _ _) h1') (by rw [By];lia)]
def rl (L:List Nat):List (Nat×Nat):=rlF L.length L
theorem xT:rl []=[]:=rfl
theorem wo (a:Nat)(L:List Nat):rl (a::L)=(a,1+run a L)::rl (L.drop (run a L)):=by
 show(a,1+run a L)::rlF L.length (L.drop (run a L))=_;rw [iI (n:=L.length) (m:=(L.drop (run a L)).length) (by rw [By];exact Ek _ _) (Bh _)];rfl
theorem uZ {T:List Nat}{b e:Nat}(hbe:b<e)(heT:e≤T.length)(hal:∀j,b≤j->j<e->T[j]?=some a)(hend:T[e]?≠some a):rl (T.drop b)=(a,e-b)::rl (T.drop e):=by
 have hb:b<T.length:=Bf hbe heT;have e1:T.drop b=a::T.drop (b+1):=by
  have:=hal b (Bh _) hbe;rw [Bg hb] at this;rw [Dr hb,BU this]
 have e2:run a (T.drop (b+1))=e-(b+1):=by
  refine rR (λ i hi=>?_) ?_
  ·rw [ED];exact hal _ Z5 (Dc hi)
  ·rw [ED,show b+1+(e-(b+1))=e from Cf hbe];exact hend
 rw [e1,wo,e2,EI,show b+1+(e-(b+1))=e from Cf hbe,show 1+(e-(b+1))=e-b by lia]
def exp (rs:List (Nat×Nat)):List Nat:=rs.flatMap λ q=>List.replicate q.2 q.1
theorem oQ:∀L:List Nat,L=List.replicate (run a L) a++L.drop (run a L)
 | []=>rfl
 |x::L=>by
  by_cases h:x=a
  ·have e:run a (x::L)=run a L+1:=by rw [run,BM h]
   rw [e,CF,List.drop_succ_cons,List.cons_append,<-oQ L,h]
  ·have e:run a (x::L)=0:=by rw [run,Bu h]
   rw [e];rfl
theorem pc:∀{n:Nat} {L:List Nat},L.length≤n->exp (rlF n L)=L
 |0,[],_=>rfl
 |0,_::_,h=>by simp at h
 |n+1,[],_=>rfl
 |n+1,a::L,h=>by
  have h':L.length≤n:=by simpa using h
  show List.replicate (1+run a L) a++exp (rlF n (L.drop (run a L)))=_;rw [pc (by rw [By];exact Ba (Ek _ _) h'),Fh,CF,List.cons_append,<-oQ]
theorem sf (L:List Nat):exp (rl L)=L:=pc (Bh _)
theorem oG:∀{n:Nat} {L:List Nat},∀q∈rlF n L,1≤q.2/\q.2≤L.length/\q.1∈L
 |0,_,q,h=>by cases h
 |n+1,[],q,h=>by cases h
 |n+1,a::L,q,h=>by
  have hr:=iG a L;rcases BA.mp (show q∈(a,1+run a L)::rlF n (L.drop (run a L)) from h) with rfl|h
  ·exact⟨by show 1≤1+run a L;exact B1 1 _,by show 1+run a L≤(a::L).length;rw [Bq];lia,BF⟩
  ·obtain⟨h1,h2,h3⟩:=oG q h;rw [By] at h2;exact⟨h1,by rw [Bq];omega,Bw _ (Cs h3)⟩
theorem oa {L:List Nat}{q:Nat×Nat}(h:q∈rl L):1≤q.2/\q.2≤L.length/\q.1∈L:=oG q h
theorem ua (q:Nat×Nat)(b:List (Nat×Nat)):exp (q::b)=List.replicate q.2 q.1++exp b:=by simp [exp]
def pR (rs:List (Nat×Nat)):List (Nat×Nat):=rs.flatMap λ q=>[(q.2-1,6),(q.1,8)]
theorem qV (a b:List (Nat×Nat)):pR (a++b)=pR a++pR b:=by simp [pR]
theorem vk (q:Nat×Nat)(b:List (Nat×Nat)):pR (q::b)=(q.2-1,6)::(q.1,8)::pR b:=by simp [pR]
noncomputable def pf:Bool->List Nat->List (Nat×Nat)
 |false,T=>T.map λ s=>(s,8)
 |true,T=>pR (rl T)
theorem eE:∀{rs:List (Nat×Nat)},(∀q∈rs,1≤q.2)->rs.length≤(exp rs).length
 | [],_=>Bh _
 |q::rs,h=>by
  have h1:=h q BF;have ih:=eE (rs:=rs) λ z hz=>h z (Bw _ hz)
  rw [ua,Bb,C6,Bq];lia
theorem gF:∀rs:List (Nat×Nat),tots (pR rs)=14*rs.length
 | []=>rfl
 |q::rs=>by rw [vk,fK,fK,gF rs,Bq];show 6+(8+14*rs.length)=_;lia
theorem dU:∀T:List Nat,tots (pf false T)=8*T.length
 | []=>rfl
 |s::T=>by
  show tots ((s,8)::pf false T)=_;rw [fK,dU T,Bq];show 8+8*T.length=_;lia
theorem pp (u:Bool)(T:List Nat):tots (pf u T)≤14*T.length:=by
 cases u with
 |false=>rw [dU];lia
 |true=>
  show tots (pR (rl T))≤_;rw [gF];have:=eE (rs:=rl T) λ q hq=>(oa hq).1
  rw [sf] at this;exact Dz 14 this
theorem wM {rs:List (Nat×Nat)}(h:∀q∈rs,1≤q.2/\q.2≤64/\q.1<256):Good (pR rs):=by
 intro z hz;obtain⟨q,hq,hz⟩:=HJ.mp hz;obtain⟨h1,h2,h3⟩:=h q hq;simp at hz;rcases hz with rfl|rfl
 ·show q.2-1<2^6;omega
 ·show q.1<2^8;assumption
theorem xb {T:List Nat}(hT:T.length≤64)(hb:∀b∈T,b<256):∀q∈rl T,1≤q.2/\q.2≤64/\q.1<256:=λ q hq=>by
 obtain⟨h1,h2,h3⟩:=oa hq;exact⟨h1,Ba h2 hT,hb _ h3⟩
theorem oP (u:Bool){T:List Nat}(hT:T.length≤64)(hb:∀b∈T,b<256):Good (pf u T):=by
 cases u with
 |false=>
  intro z hz;obtain⟨s,hs,rfl⟩:=DI.mp hz;exact hb s hs
 |true=>exact wM (xb hT hb)
end W17
set_option maxHeartbeats 4000000
namespace K24
open PySem L2 QQ W17 W16
seal PE PA PS PSs PT PW PG PI
variable {fd fdO fdW:Ih}{f:HZ}{n:Nat}
noncomputable def top (i:Nat):Im:=PySem.Challenge.pw_balepress_k24_pressers.main.body.getD i (.Pass ⟨0,0,0,0⟩)
abbrev gE:Im:=top 23
abbrev bE:Im:=top 24
abbrev bK:Im:=top 25
abbrev eG:Im:=top 26
abbrev bY:Im:=top 27
abbrev dY:Im:=top 30
abbrev kG:Im:=top 31
abbrev dO:Im:=top 71
abbrev kj:Im:=top 72
abbrev iy:Im:=top 73
abbrev gm:Im:=top 74
abbrev dw:Im:=top 80
abbrev eM:Im:=top 81
abbrev eg:Im:=top 46
abbrev pN:Im:=top 47
abbrev fz:Im:=top 48
abbrev iK:Im:=top 49
abbrev jW:Im:=top 50
abbrev ir:Im:=top 51
abbrev tZ:Im:=top 53
abbrev fq:Im:=top 54
abbrev iu:Im:=top 55
abbrev dE:Im:=top 62
abbrev jB:Im:=top 63
abbrev fZ:Im:=top 64
abbrev iD:Im:=top 83
abbrev gc:Im:=top 84
abbrev oz:Im:=aO (top 32) 0
abbrev yx:Im:=aO (top 32) 1
abbrev oO:Im:=aO (top 32) 2
abbrev rW:Im:=aO (top 32) 3
abbrev jZ:Im:=aO (top 32) 4
abbrev sD:Im:=aO (top 90) 3
abbrev jO:Im:=aO (top 94) 1
abbrev gn:Im:=aO (top 94) 0
abbrev fG:Im:=top 82
abbrev eu:Im:=aO (top 91) 0
abbrev gY:Im:=aO (top 91) 1
abbrev eI:Im:=aO (top 92) 0
abbrev ie:Im:=aO (top 92) 1
abbrev dX:Im:=aO (top 93) 0
abbrev f9:Im:=aO (top 93) 1
abbrev uH:Im:=top 95
abbrev gU:Im:=top 96
abbrev vN (n:Nat):V:=.int ((n:Nat):Int)
structure Txt (K:Frag)(mg:Str->Option Ib):Prop where
 isi:mg "isinstance"=none
 bool:mg "bool"=none
 int:mg "int"=none
 list:mg "list"=none
 len:mg "len"=none
 range:mg "range"=none
 max:mg "max"=none
 min:mg "min"=none
 great:∃t,mg "GREATEST"=some (.int 255 t)
 most:∃t,mg "MOST_SIZE"=some (.int 24 t)
 signs:∃t,mg "MOST_SIGNS"=some (.int 64 t)
 ahead:∃t,mg "MOST_AHEAD"=some (.int 192 t)
 far:∃t,mg "FARTHEST"=some (.int 255 t)
 least:∃t,mg "LEAST_COPIED"=some (.int 3 t)
 mostC:∃t,mg "MOST_COPIED"=some (.int 18 t)
 sum:mg "sum"=none
 enum:mg "enumerate"=none
 sort:mg "sorted"=none
 bits:∃t,mg "MOST_BITS"=some (.int 6 t)
 mlen:∃t,mg "MOST_LENGTH"=some (.int 12 t)
 things:∃t,mg "MOST_THINGS"=some (.int 300 t)
 count:∃t,mg "MOST_COUNT"=some (.int 1000000 t)
 many:∃t,mg "MANY"=some (.int 272 t)
 again:∃t,mg "AGAIN"=some (.int 7 t)
 leastA:∃t,mg "LEAST_AGAIN"=some (.int 3 t)
 mostA:∃t,mg "MOST_AGAIN"=some (.int 66 t)
 first:∃t,mg "FIRST_COPY"=some (.int 256 t)
 isnumb:∃(f:HZ) (fd:Ih),Fun K "is_number" "is_number" gE f fd/\mg "is_number"=some (.ref f)/\Binds K fd ["thing"] []
structure Fn (K:Frag)(mg:Str->Option Ib)(x:Str)(st:Im)(ps:List Str)(f:HZ)(fd:Ih):Prop where
 F:Fun K x x st f fd
 m:mg x=some (.ref f)
 b:Binds K fd ps []
structure Me (K:Frag)(C:HZ)(x qual:Str)(st:Im)(ps:List Str)(f:HZ)(fd:Ih):Prop where
 F:Fun K x qual st f fd
 m:Meth K C x f
 b:Binds K fd ps []
section
variable (K:Frag)
theorem tS:kitOne K (.type "int") (.type "bool")=some false:=by
 show(if(Value.type "int"==Value.type "bool")=true then some true else if kitMeta "bool"=true then(fastBuiltinMro "int").map (·.contains (.type "bool")) else none)=some false;decide+kernel
theorem ut:kitOne K (.type "int") (.type "int")=some true:=by
 show(if(Value.type "int"==Value.type "int")=true then some true else if kitMeta "int"=true then(fastBuiltinMro "int").map (·.contains (.type "int")) else none)=some true;decide+kernel
theorem jE:kitOne K (.type "list") (.type "list")=some true:=by
 show(if(Value.type "list"==Value.type "list")=true then some true else if kitMeta "list"=true then(fastBuiltinMro "list").map (·.contains (.type "list")) else none)=some true;decide+kernel
end
theorem vN_inj {x y:Nat}:vN x=vN y<->x=y:=by
 constructor
 ·intro h;injection h with h
  exact G0.mp h
 ·rintro rfl;rfl
theorem cU {S:List Nat}{i:Nat}(h:i<S.length):(S.map vN)[i]?=some (vN S[i]):=by simp [h]
theorem cj {B:List Nat}{i:Nat}{y:V}(h:(B.map vN)[i]?=some y):∃b,B[i]?=some b/\y=vN b:=by
 rw [B4] at h;cases e:B[i]? with
 |none=>rw [e] at h;cases h
 |some z=>rw [e] at h;exact⟨z,rfl,(BU h).symm⟩
theorem cM {B:List Nat}{i b:Nat}(h:B[i]?=some b):B.take (i+1)=B.take i++[b]:=by rw [CQ,h];rfl
theorem bj (h:n≤2000):n≤sizeLine:=Ba h Z9
theorem bF (h:n≤2000):n<sizeLine:=B0 h Z9
section
def cZ:Sp:=λ vs H Q _=>∃(i lo hi:Int),vs=[.int i,.int lo,.int hi]/\Q (.bl (decide (lo≤i)&&decide (i≤hi))) H
theorem p7:FnScope ["thing","least","most"] ["thing","least","most"] (ak bE):=scK Z8
def on:Sp:=λ vs H Q _=>∃(x:V) (b:Bool),vs=[x]/\((∃i,x=.int i)/\b=true)/\Q (.bl b) H
theorem rQ:FnScope ["thing"] ["thing"] (ak gE):=scK Z8
theorem ki (F:Fun K "is_number" "is_number" gE f fd)(T:Txt K mg):FnOk P w K mg base CX0 0 f fd ["thing"] on:=by
 refine F.ok0 rQ λ Iq A outer s H vs Q E h=>?_
 intro _;obtain⟨x,b,rfl,hw,k⟩:=h;refine⟨_,ag (ax (gP (az cx Z7 T.isi Cu (aa (pv 0) (aa (cJ (v:=.ty "int") Z7 T.int EA rfl) ae))) (io (ux (az cx Z7 T.isi Cu (aa (pv 0) (aa (cJ (v:=.ty "bool") Z7 T.bool PyProof.Rows.boot_bool rfl) ae))))))),?_⟩;obtain⟨⟨i,rfl⟩,rfl⟩:=hw;refine⟨_,rfl,_,_,_,_,rfl,.int _,ut K,_,rfl,gi ?_⟩;exact⟨_,rfl,_,_,_,_,rfl,.int _,tS K,_,rfl,k⟩
theorem cT (F:Fn K mg "is_whole" bE ["thing","least","most"] f fd)(T:Txt K mg):FnOk P w K mg base CX0 1 f fd ["thing","least","most"] cZ:=by
 obtain⟨fN,fdN,NF,Nm,Nb⟩:=T.isnumb;refine F.F.ok p7 λ Iq A outer s H vs Q E hr h=>?_
 intro _;obtain⟨i,lo,hi,rfl,k⟩:=h;refine⟨_,ag (ax (gP (aq (ki NF T) hr Z7 Nm NF.kp Nb .nil aw (aa (pv 0) ae)) (io (iC i7 i7 (pv 1) (pv 0) (pv 2))))),?_⟩;refine⟨_,rfl,_,true,rfl,⟨⟨i,rfl⟩,rfl⟩,_,rfl,gi ?_⟩;refine⟨_,rfl,_,rfl,_,_,rfl,rfl,_,rfl,?_⟩;refine bd (λ h1=>?_) (λ h1=>?_)
 ·refine⟨_,rfl,_,_,rfl,rfl,?_⟩;rw [h1,Bool.true_and] at k;exact k
 ·have h2:decide (lo≤i)=false:=by simpa using h1
  rw [h2,Hs] at k;exact k
def eJ:Sp:=λ vs H Q _=>∃(a:HZ) (B:List Nat) (lo hi:Int),vs=[.ref a,.int lo,.int hi]/\H a=some (.lst (B.map vN))/\(∀b∈B,lo≤((b:Nat):Int)/\((b:Nat):Int)≤hi)/\Q (.bl true) H
theorem scAreWhole:FnScope ["thing","least","most","number"] ["thing","least","most"] (ak bK):=scK Z8
theorem cy {fW:HZ}(F:Fn K mg "are_whole" bK ["thing","least","most"] f fd)(W:Fn K mg "is_whole" bE ["thing","least","most"] fW fdW)(T:Txt K mg):FnOk P w K mg base CX0 2 f fd ["thing","least","most"] eJ:=by
 have GW:FnOk P w K mg base CX0 1 fW fdW ["thing","least","most"] cZ:=cT W T;refine F.F.ok scAreWhole λ Iq A outer s H vs Q E hr h=>?_
 intro _;obtain⟨a,B,lo,hi,rfl,hB,hb,k⟩:=h;refine⟨_,ad (aL (bM (bq (az cx Z7 T.isi Cu (aa (pv 0) (aa (cJ (v:=.ty "list") Z7 T.list C7 rfl) ae))))) (ag (ax bU)) aD)
  (ad (bf BW rfl (bi (pv 0)) (aJ (i:=3) scAreWhole.nd)
   (ag (aL (bM (bq (aq GW hr Z7 W.m W.F.kp W.b .nil aw (aa (pv 3) (aa (pv 1) (aa (pv 2) ae)))))) (ag (ax bU)) aD)))
  (ag (ax bU))),?_⟩
 refine⟨_,rfl,_,_,_,_,rfl,.lst hB,jE K,_,rfl,bV ?_⟩;refine⟨_,rfl,a,rfl,⟨_,SqL.of hB⟩,bx (D:=⟨_,_,λ _ _=>False,λ _ _=>False⟩) (K:=K) (a:=a) (xs:=B.map vN) (λ i σ H2=>∃v:Option V,σ=[some (.ref a),some (.int lo),some (.int hi),v]/\H2=H)
  ⟨none,rfl,rfl⟩ (λ i σ H2 _ z9=>by obtain⟨_,_,e⟩:=z9;exact by rw [e];exact SqL.of hB) ?_ ?_⟩
 ·rintro i y σ H2 hi ⟨v,rfl,rfl⟩;obtain⟨b,hb1,rfl⟩:=cj hi;obtain⟨h2,h3⟩:=hb b (Cm hb1);refine⟨_,rfl,_,rfl,_,rfl,_,_,_,rfl,_,rfl,?_⟩;rw [Bj h2,Bj h3];exact bV ⟨_,rfl,rfl⟩
 ·rintro σ H2 ⟨v,rfl,rfl⟩;exact k
def spIsRow:Sp:=λ vs H Q _=>∃(a:HZ) (B:List Nat),vs=[.ref a]/\H a=some (.lst (B.map vN))/\(∀b∈B,b<256)/\Q (.bl true) H
theorem pd:FnScope ["thing"] ["thing"] (ak eG):=scK Z8
structure Rows (K:Frag)(mg:Str->Option Ib):Prop where
 X:Txt K mg
 whole:∃f fd,Fn K mg "is_whole" bE ["thing","least","most"] f fd
 arewhole:∃f fd,Fn K mg "are_whole" bK ["thing","least","most"] f fd
 isrow:∃f fd,Fn K mg "is_row" eG ["thing"] f fd
theorem gW (F:Fn K mg "is_row" eG ["thing"] f fd)(Y:Rows K mg):FnOk P w K mg base CX0 3 f fd ["thing"] spIsRow:=by
 obtain⟨T,⟨_,_,W⟩,⟨_,_,AW⟩,_⟩:=Y;obtain⟨tg,hg⟩:=T.great;refine F.F.ok pd λ Iq A outer s H vs Q E hr h=>?_
 intro _;obtain⟨a,B,rfl,hB,hb,k⟩:=h;refine⟨_,ag (ax (aq (cy AW W T) hr Z7 AW.m AW.F.kp AW.b .nil aw (aa (pv 0) (aa af (aa (aH (v:=.int 255) Z7 hg ⟨tg,rfl⟩) ae))))),?_⟩;exact⟨_,rfl,a,B,0,255,rfl,hB,λ b z=>by have:=hb b z;lia,k⟩
def spNeedRow:Sp:=λ vs H Q _=>∃(a:HZ) (B:List Nat),vs=[.ref a]/\H a=some (.lst (B.map vN))/\(∀b∈B,b<256)/\∀l,H l=none->Q (.ref l) (upd H l (.lst (B.map vN)))
theorem jj:FnScope ["thing"] ["thing"] (ak bY):=scK Z8
theorem ok_needrow (F:Fn K mg "need_row" bY ["thing"] f fd)(Y:Rows K mg):FnOk P w K mg base CX0 4 f fd ["thing"] spNeedRow:=by
 obtain⟨fR,fdR,R⟩:=Y.isrow;have T:=Y.X;refine F.F.ok jj λ Iq A outer s H vs Q E hr h=>?_
 intro _;obtain⟨a,B,rfl,hB,hb,k⟩:=h;refine⟨_,ad (aL (bM (bq (aq (gW R Y) hr Z7 R.m R.F.kp R.b .nil aw (aa (pv 0) ae)))) (ag bD) aD)
  (ag (ax (bw bC Z7 T.list C7 (aa (pv 0) ae)))),?_⟩
 refine⟨_,rfl,a,B,rfl,hB,hb,_,rfl,bV ?_⟩;exact⟨_,rfl,a,_,rfl,.inl (SqL.of hB),k⟩
def spNeedSize:Sp:=λ vs H Q _=>∃s:Nat,vs=[vN s]/\s≤24/\Q .non H
theorem mK:FnScope ["size"] ["size"] (ak dY):=scK Z8
theorem kZ {fW:HZ}(F:Fn K mg "need_size" dY ["size"] f fd)(W:Fn K mg "is_whole" bE ["thing","least","most"] fW fdW)(T:Txt K mg):FnOk P w K mg base CX0 2 f fd ["size"] spNeedSize:=by
 have GW:FnOk P w K mg base CX0 1 fW fdW ["thing","least","most"] cZ:=cT W T;obtain⟨tg,hg⟩:=T.most;refine F.F.ok mK λ Iq A outer s H vs Q E hr h=>?_
 intro _;obtain⟨z,rfl,hz,k⟩:=h;refine⟨_,ag (aL (bM (bq (aq GW hr Z7 W.m W.F.kp W.b .nil aw (aa (pv 0) (aa af (aa (aH (v:=.int 24) Z7 hg ⟨tg,rfl⟩) ae)))))) (ag bD) aD),?_⟩;refine⟨_,rfl,_,_,_,rfl,_,rfl,?_⟩;have e1:(decide ((0:Int)≤(z:Int))&&decide ((z:Int)≤24))=true:=by
  rw [Bj Z5,Bj (by exact HR rfl rfl hz)];rfl
 rw [e1];exact bV k
def spOnes:Sp:=λ vs H Q _=>∃s:Nat,vs=[vN s]/\s≤1000/\Q (vN (2^s-1)) H
theorem xS:FnScope ["size"] ["size"] (ak kG):=scK Z8
theorem pk (F:Fn K mg "ones" kG ["size"] f fd):FnOk P w K mg base CX0 1 f fd ["size"] spOnes:=by
 refine F.F.ok xS λ Iq A outer s H vs Q E hr h=>?_
 intro _;obtain⟨z,rfl,hz,k⟩:=h;refine⟨_,ag (ax (am aY (am b8 af (pv 0)) af)),?_⟩;refine⟨_,rfl,_,_,rfl,rfl,⟨BZ _,Z5,Z9⟩,_,_,rfl,rfl,?_⟩;have e1:(1:Int)*2^((z:Nat):Int).toNat-1=((2^z-1:Nat):Int):=by
  have:=BP.pow_pos2 z;rw [BO,Int.one_mul];have e2:((2^z:Nat):Int)=(2:Int)^z:=Z6;exact(Eh this).symm
 dsimp only;rw [e1];exact k
end
theorem ll (a b k:Nat)(h:b<2^k):(a*2^k)&&& b=0:=by
 have e1:b&&& (2^k-1)=b:=by rw [ET,FG h]
 have e2:(a*2^k)&&& (2^k-1)=0:=by rw [ET,Nat.mul_mod_left]
 have e3:(a*2^k)&&& (b&&& (2^k-1))=((a*2^k)&&& (2^k-1))&&& b:=by rw [Nat.and_comm b,Nat.and_assoc]
 rw [e1,e2,Nat.zero_and] at e3;exact e3
theorem iU (k:Nat):((2^k:Nat):Int)=(2:Int)^k:=Z6
theorem xG (a b k:Nat)(h:b<2^k):Builtin.bitOr ((a:Int)*2^((k:Nat):Int).toNat) (b:Int)=((a*2^k+b:Nat):Int):=by
 have e0:(a:Int)*2^((k:Nat):Int).toNat=((a*2^k:Nat):Int):=by rw [BO,Int.natCast_mul,iU]
 rw [e0,PyProof.Rows.bitOr_and,Ge (BZ (_*2^_)) (BZ _),BO,BO,ll a b k h];exact DR ((λ {a b}=>Int.neg_inj.mp) rfl)
theorem dQ (x k:Nat):Builtin.bitAnd (x:Int) ((2^k-1:Nat):Int)=((x%2^k:Nat):Int):=by
 rw [Ge (BZ _) Z5,BO,BO,ET]
theorem jN (x k:Nat):(x:Int)/2^((k:Nat):Int).toNat=((x/2^k:Nat):Int):=by
 rw [BO,<-iU];rfl
theorem du (x k:Nat):(x:Int)*2^((k:Nat):Int).toNat=((x*2^k:Nat):Int):=by
 rw [BO,Int.natCast_mul,iU]
section
end
theorem rS:¬(("whole_bytes":Str)="rest"):=Z8
theorem lD:¬(("whole_bytes":Str)="rest_size"):=Z8
theorem vU:¬(("rest":Str)="rest_size"):=Z8
noncomputable def fW (d:HZ) (r k:Nat):List (Str×V):=[("whole_bytes",.ref d),("rest",vN r),("rest_size",vN k)]
theorem xf (d:HZ):putF "rest_size" (.int 0) (putF "rest" (.int 0) (putF "whole_bytes" (.ref d) []))=fW d 0 0:=by
 show(putF "rest_size" (.int 0) (if("whole_bytes":Str)="rest" then _ else(("whole_bytes":Str),V.ref d):: [("rest",V.int 0)]))=_;rw [Bu rS];show(if("whole_bytes":Str)="rest_size" then _ else(("whole_bytes":Str),V.ref d)::(if("rest":Str)="rest_size" then _ else(("rest":Str),V.int 0):: [("rest_size",V.int 0)]))=_;rw [Bu lD,Bu vU];rfl
theorem pW (d:HZ)(r k r':Nat):putF "rest" (vN r') (fW d r k)=fW d r' k:=by
 show(if("whole_bytes":Str)="rest" then _ else(("whole_bytes":Str),V.ref d)::(if("rest":Str)="rest" then(("rest":Str),vN r'):: [("rest_size",vN k)] else _))=_;rw [Bu rS,BM rfl];rfl
theorem oV (d:HZ)(r k k':Nat):putF "rest_size" (vN k') (fW d r k)=fW d r k':=by
 show(if("whole_bytes":Str)="rest_size" then _ else(("whole_bytes":Str),V.ref d)::(if("rest":Str)="rest_size" then _ else(("rest":Str),vN r)::(if("rest_size":Str)="rest_size" then [(("rest_size":Str),vN k')] else _)))=_;rw [Bu lD,Bu vU,BM rfl];rfl
theorem pU (d:HZ)(r k:Nat):fW d r k=putF "rest_size" (vN k) (putF "rest" (vN r) (putF "whole_bytes" (.ref d) [])):=by
 have h:=xf d;have h2:putF "rest" (vN r) (putF "whole_bytes" (.ref d) [])=[(("whole_bytes":Str),V.ref d),("rest",vN r)]:=by
  show(if("whole_bytes":Str)="rest" then _ else(("whole_bytes":Str),V.ref d):: [("rest",vN r)])=_;rw [Bu rS]
 rw [h2];show _=(if("whole_bytes":Str)="rest_size" then _ else(("whole_bytes":Str),V.ref d)::(if("rest":Str)="rest_size" then _ else(("rest":Str),vN r):: [("rest_size",vN k)]));rw [Bu lD,Bu vU];rfl
theorem ip (d:HZ)(r k:Nat):(fW d r k).lookup ("whole_bytes":Str)=some (.ref d):=by
 rw [pU,ao,Bu lD,ao,Bu rS,ao,BM rfl]
theorem fj (d:HZ)(r k:Nat):(fW d r k).lookup ("rest":Str)=some (vN r):=by
 rw [pU,ao,Bu vU,ao,BM rfl]
theorem cD (d:HZ)(r k:Nat):(fW d r k).lookup ("rest_size":Str)=some (vN k):=by
 rw [pU,ao,BM rfl]
theorem cY (d:HZ)(r k:Nat){m:Str}(h1:autoParam (¬m="rest_size") ZY)(h2:autoParam (¬m="rest") ZY)(h3:autoParam (¬m="whole_bytes") ZY):(fW d r k).lookup m=none:=by
 rw [pU,ao,Bu h1,ao,Bu h2,ao,Bu h3];rfl
theorem jD (d:HZ)(r k:Nat):(fW d r k).length<1000:=by show 3<1000;decide
def BitsAt (C:HZ)(H:Hp)(p d:HZ)(N T:Nat):Prop:=∃(dx:HZ) (B:List Nat) (r k:Nat),H p=some (.ins C dx (fW d r k))/\H d=some (.lst (B.map vN))/\BP.BR N T B r k/\k<8
structure CB (K:Frag)(mg:Str->Option Ib)(C:HZ):Prop where
 cl:Cls K C
 nW:NoAttr K C "whole_bytes"
 nR:NoAttr K C "rest"
 nS:NoAttr K C "rest_size"
section
variable {C:HZ}
def vf (C:HZ):Sp:=λ vs H Q _=>∃(p dx:HZ),vs=[.ref p]/\H p=some (.ins C dx [])/\∀(d:HZ) (H':Hp),H d=none->BitsAt C H' p d 0 0->(∀b o,H b=some o->b≠p->H' b=some o)->Q .non H'
theorem vh:FnScope ["self"] ["self"] (ak oz):=scK Z8
theorem kU (F:Fun K "__init__" "BitRow.__init__" oz f fd)(T:CB K mg C):FnOk P w K mg base CX0 1 f fd ["self"] (vf C):=by
 refine F.ok vh λ Iq A outer s H vs Q E hr h=>?_
 intro _;obtain⟨p,dx,rfl,hp,k⟩:=h;refine⟨_,ad (aU (pv 0) (aE ae) rfl) (ad (aU (pv 0) af rfl) (ag (aU (pv 0) af rfl))),?_⟩;refine⟨BX _,λ d hd=>?_⟩;have npd:p≠d:=ai hp hd;refine⟨_,rfl,p,C,dx,[],rfl,(by rw [upd_ne npd];exact hp),T.cl,T.nW,(by show 0<1000;decide),_,rfl,p,C,dx,_,rfl,ac,T.cl,T.nR,(by show 1<1000;decide),?_⟩;refine⟨_,rfl,p,C,dx,_,rfl,ac,T.cl,T.nS,?_,?_⟩
 ·show(if("whole_bytes":Str)="rest" then _ else(("whole_bytes":Str),V.ref d):: [("rest",V.int 0)]).length<1000
  try dsimp only
  rw [Bu rS];show 2<1000;decide
 refine k d _ hd ⟨dx,[],0,0,Eq.trans ac (congrArg (λ l=>some (HO.ins C dx l)) (xf d)),by rw [upd_ne npd.symm,upd_ne npd.symm,upd_ne npd.symm,ac];rfl,BP.BR.init,Z9⟩ λ b o e hb=>?_
 rw [upd_ne hb,upd_ne hb,upd_ne hb,upd_ne (ai e hd)];exact e
def spMove (C:HZ):Sp:=λ vs H Q _=>∃(p d dx:HZ) (B:List Nat) (r k:Nat),vs=[.ref p]/\H p=some (.ins C dx (fW d r (k+8)))/\H d=some (.lst (B.map vN))/\B.length≤1000/\k≤100/\
 ∀H',H' p=some (.ins C dx (fW d (r%2^k) k))->H' d=some (.lst ((B++[r/2^k]).map vN))->(∀c o,H c=some o->c≠p->c≠d->H' c=some o)->Q .non H'
theorem xA:FnScope ["self"] ["self"] (ak oO):=scK Z8
theorem ve {fO:HZ}(F:Fun K "move_byte" "BitRow.move_byte" oO f fd)(O:Fn K mg "ones" kG ["size"] fO fdO)(T:CB K mg C):FnOk P w K mg base CX0 2 f fd ["self"] (spMove C):=by
 have GO:FnOk P w K mg base CX0 1 fO fdO ["size"] spOnes:=pk O;refine F.ok xA λ Iq A outer s H vs Q E hr h=>?_
 intro _;obtain⟨p,d,dx,B,r,k,rfl,hp,hd,hB,hk,q⟩:=h;have npd:p≠d:=ne_of hp hd (by intro z;cases z);refine⟨_,ad (aU (pv 0) (am aY (aN (pv 0) rfl) af) rfl)
  (ad (aF (dI Cj CD CS bv (aN (pv 0) rfl) (aa (am il (aN (pv 0) rfl) (aN (pv 0) rfl)) ae)))
  (ag (aU (pv 0) (am hG (aN (pv 0) rfl) (aq GO hr Z7 O.m O.F.kp O.b .nil aw (aa (aN (pv 0) rfl) ae))) rfl))),?_⟩
 have e1:(((k+8:Nat)):Int)-8=(k:Int):=Int.sub_eq_iff_eq_add.mpr rfl;refine⟨_,rfl,p,C,dx,_,_,rfl,hp,T.cl,T.nS,cD _ _ _,_,_,rfl,rfl,_,rfl,p,C,dx,_,rfl,hp,T.cl,T.nS,jD _ _ _,?_⟩
 try dsimp only
 rw [e1,oV];have hp1:(upd H p (.ins C dx (fW d r k))) p=some (.ins C dx (fW d r k)):=ac;have hd1:(upd H p (.ins C dx (fW d r k))) d=some (.lst (B.map vN)):=by rw [upd_ne npd.symm];exact hd
 refine⟨_,rfl,p,C,dx,_,_,rfl,hp1,T.cl,T.nW,ip _ _ _,.inl ⟨rfl,_,SqL.of hd1⟩,?_⟩;refine⟨_,rfl,p,C,dx,_,_,rfl,hp1,T.cl,T.nR,fj _ _ _,_,rfl,p,C,dx,_,_,rfl,hp1,T.cl,T.nS,cD _ _ _,_,_,rfl,rfl,Z4,?_⟩;refine⟨d,_,_,rfl,rfl,hd1,jr (by rw [A9];exact hB),?_⟩
 try dsimp only
 rw [jN];generalize hH2:upd (upd H p (.ins C dx (fW d r k))) d (.lst (B.map vN++[vN (r/2^k)]))=H2;have hp2:H2 p=some (.ins C dx (fW d r k)):=by rw [<-hH2,upd_ne npd];exact hp1
 have hd2:H2 d=some (.lst ((B++[r/2^k]).map vN)):=by rw [<-hH2,ac,Bm];rfl
 have oth:∀c o,H c=some o->c≠p->c≠d->H2 c=some o:=λ c o e n1 n2=>by rw [<-hH2,upd_ne n2,upd_ne n1];exact e
 refine⟨_,rfl,p,C,dx,_,_,rfl,hp2,T.cl,T.nR,fj _ _ _,_,rfl,p,C,dx,_,_,rfl,hp2,T.cl,T.nS,cD _ _ _,k,rfl,Ba hk Z9,_,_,rfl,rfl,?_⟩
 try dsimp only
 rw [dQ];refine⟨_,rfl,p,C,dx,_,rfl,hp2,T.cl,T.nR,jD _ _ _,?_⟩
 try dsimp only
 rw [pW];refine q _ ac (by rw [upd_ne npd.symm];exact hd2) λ c o e n1 n2=>?_
 rw [upd_ne n1];exact oth c o e n1 n2
def zv (C:HZ):Sp:=λ vs H Q _=>∃(p d:HZ) (N T n s:Nat),vs=[.ref p,vN n,vN s]/\BitsAt C H p d N T/\T≤4000/\s≤24/\n<2^s/\
 ∀H',BitsAt C H' p d (N*2^s+n) (T+s)->(∀c o,H c=some o->c≠p->c≠d->H' c=some o)->Q .non H'
theorem Ak:FnScope ["self","number","size"] ["self","number","size"] (ak yx):=scK Z8
theorem ii {fO fW' fS fM:HZ}{fdS fdM:Ih}(F:Fun K "put" "BitRow.put" yx f fd)(S:Fn K mg "need_size" dY ["size"] fS fdS)(W:Fn K mg "is_whole" bE ["thing","least","most"] fW' fdW)
  (O:Fn K mg "ones" kG ["size"] fO fdO) (M:Me K C "move_byte" "BitRow.move_byte" oO ["self"] fM fdM) (T:CB K mg C) (X:Txt K mg):FnOk P w K mg base CX0 3 f fd ["self","number","size"] (zv C):=by
 have GO:FnOk P w K mg base CX0 1 fO fdO ["size"] spOnes:=pk O;have GW:FnOk P w K mg base CX0 1 fW' fdW ["thing","least","most"] cZ:=cT W X;have GS:FnOk P w K mg base CX0 2 fS fdS ["size"] spNeedSize:=kZ S W X;have GM:FnOk P w K mg base CX0 2 fM fdM ["self"] (spMove C):=ve M.F O T;refine F.ok Ak λ Iq A outer st H vs Q E hr h=>?_
 intro _;obtain⟨p,d,N,T',n,s,rfl,⟨dx,B,r,k,hp,hd,br,hk8⟩,hT,hs,hn,q⟩:=h;have npd:p≠d:=ne_of hp hd (by intro z;cases z);have hr1:Room 1 _:=hr.mono Z9;refine⟨_,ad (aF (aq GS hr Z7 S.m S.F.kp S.b .nil aw (aa (pv 2) ae)))
  (ad (aL (bM (bq (aq GW hr1 Z7 W.m W.F.kp W.b .nil aw (aa (pv 1) (aa af (aa (aq GO hr1 Z7 O.m O.F.kp O.b .nil aw (aa (pv 2) ae)) ae)))))) (ag bD) aD)
  (ad (aU (pv 0) (am zP (am b8 (aN (pv 0) rfl) (pv 2)) (pv 1)) rfl)
  (ad (aU (pv 0) (am aK (aN (pv 0) rfl) (pv 2)) rfl)
  (ag (cX BW (aA pG (aN (pv 0) rfl) af (aC _)) (ag (aF (a8 (pv 0) T.cl M.m GM hr M.b .nil aw)))))))),?_⟩
 refine⟨_,rfl,s,rfl,hs,?_⟩;refine⟨_,rfl,_,rfl,s,rfl,Z5,_,_,_,rfl,_,rfl,?_⟩;have e1:(decide ((0:Int)≤(n:Int))&&decide ((n:Int)≤((2^s-1:Nat):Int)))=true:=by
  rw [Bj (BZ _),Bj Z5];rfl
 try dsimp only
 rw [e1];refine bV ?_;have hr128:r<128:=Bf br.low ((Du Z9 (CM hk8):2^k≤2^7));refine⟨_,rfl,p,C,dx,_,_,rfl,hp,T.cl,T.nR,fj _ _ _,_,rfl,_,_,rfl,rfl,⟨BZ _,Z5,Z4⟩,_,rfl,_,_,rfl,rfl,?_⟩
 try dsimp only
 rw [xG r n s hn];refine⟨_,rfl,p,C,dx,_,rfl,hp,T.cl,T.nR,jD _ _ _,?_⟩
 try dsimp only
 rw [pW];have hp1:∀o,(upd H p o) p=some o:=λ _=>ac
 refine⟨_,rfl,p,C,dx,_,_,rfl,hp1 _,T.cl,T.nS,cD _ _ _,_,rfl,_,_,rfl,rfl,_,rfl,p,C,dx,_,rfl,hp1 _,T.cl,T.nS,jD _ _ _,?_⟩;have e2:(k:Int)+(s:Int)=((k+s:Nat):Int):=Z5
 try dsimp only
 rw [e2,oV];have br1:=br.put hn;generalize hH1:upd (upd H p (.ins C dx (fW d (r*2^s+n) k))) p (.ins C dx (fW d (r*2^s+n) (k+s)))=H1;have hpA:H1 p=some (.ins C dx (fW d (r*2^s+n) (k+s))):=by rw [<-hH1];exact ac
 have hdA:H1 d=some (.lst (B.map vN)):=by rw [<-hH1,upd_ne npd.symm,upd_ne npd.symm];exact hd
 have oth:∀c o,H c=some o->c≠p->c≠d->H1 c=some o:=λ c o e n1 _=>by rw [<-hH1,upd_ne n1,upd_ne n1];exact e
 refine⟨λ m σ H2=>σ=[some (.ref p),some (vN n),some (vN s)]/\∃B2 r2,H2 p=some (.ins C dx (fW d r2 m))/\H2 d=some (.lst (B2.map vN))/\BP.BR (N*2^s+n) (T'+s) B2 r2 m/\m≤40/\(∀c o,H c=some o->c≠p->c≠d->H2 c=some o),
  ⟨k+s,rfl,B,_,hpA,hdA,br1,Z5,oth⟩,?_⟩
 rintro m σ H2 ⟨rfl,B2,r2,hp2,hd2,br2,hm,oth2⟩;refine⟨_,rfl,p,C,dx,_,_,rfl,hp2,T.cl,T.nS,cD _ _ _,_,_,rfl,rfl,_,rfl,?_⟩;refine bd (λ h1=>?_) (λ h1=>?_)
 ·have h8:8≤m:=by have:=Bp h1;lia
  obtain⟨m',rfl⟩:∃m',m=m'+8:=⟨m-8,Z5⟩;have hBl:B2.length≤1000:=by have:=br2.tot;lia
  refine⟨_,λ σ' H' h=>h,_,rfl,p,dx,_,rfl,hp2,cY _ _ _,p,d,dx,B2,r2,m',rfl,hp2,hd2,hBl,Z5,λ H3 hp3 hd3 oth3=>?_⟩;exact⟨m',Z5,rfl,_,_,hp3,hd3,br2.move,Z5,λ c o e n1 n2=>oth3 c o (oth2 c o e n1 n2) n1 n2⟩
 ·have h8:m<8:=by
   have h1':decide ((8:Int)≤(m:Int))≠true:=h1;by_cases h:(8:Int)≤(m:Int)
   ·exact absurd (Bj h) h1'
   ·lia
  exact q H2 ⟨dx,B2,r2,m,hp2,hd2,br2,h8⟩ oth2
def xy (C:HZ):Sp:=λ vs H Q _=>∃(p d:HZ) (N T:Nat),vs=[.ref p]/\BitsAt C H p d N T/\Q (vN T) H
theorem yn:FnScope ["self"] ["self"] (ak rW):=scK Z8
theorem uW (F:Fun K "many" "BitRow.many" rW f fd)(T:CB K mg C)(X:Txt K mg):FnOk P w K mg base CX0 1 f fd ["self"] (xy C):=by
 refine F.ok yn λ Iq A outer st H vs Q E hr h=>?_
 intro _;obtain⟨p,d,N,T',rfl,⟨dx,B,r,k,hp,hd,br,hk8⟩,q⟩:=h;refine⟨_,ag (ax (am aK (am bZ af (az ay Z7 X.len BV (aa (aN (pv 0) rfl) ae))) (aN (pv 0) rfl))),?_⟩;refine⟨_,rfl,p,C,dx,_,_,rfl,hp,T.cl,T.nW,ip _ _ _,d,_,rfl,.inl (SqL.of hd),_,_,rfl,rfl,.inl ⟨Z9,Z9⟩,?_⟩;refine⟨_,rfl,p,C,dx,_,_,rfl,hp,T.cl,T.nS,cD _ _ _,_,_,rfl,rfl,?_⟩;have e:(8:Int)*((B.map vN).length:Int)+(k:Int)=(T':Int):=by rw [A9,br.tot];lia
 try dsimp only
 rw [e];exact q
def ur (C:HZ):Sp:=λ vs H Q _=>∃(p d:HZ) (N T:Nat),vs=[.ref p]/\BitsAt C H p d N T/\T≤4000/\∀(l:HZ) (R:List Nat) (H':Hp),H l=none->H' l=some (.lst (R.map vN))->BP.RowOf N T R->Same H H'->Q (.ref l) H'
theorem scRowOut:FnScope ["self","told"] ["self"] (ak jZ):=scK Z8
theorem qi (F:Fun K "row" "BitRow.row" jZ f fd)(T:CB K mg C)(X:Txt K mg):FnOk P w K mg base CX0 1 f fd ["self"] (ur C):=by
 refine F.ok scRowOut λ Iq A outer st H vs Q E hr h=>?_
 intro _;obtain⟨p,d,N,T',rfl,⟨dx,B,r,k,hp,hd,br,hk8⟩,hT,q⟩:=h;refine⟨_,ad (ar (i:=1) scRowOut.nd (bw bC Z7 X.list C7 (aa (aN (pv 0) rfl) ae)))
  (ad (aL (aA dH (aN (pv 0) rfl) af (aC _))
   (ag (aF (dI Cj CD CS bv (pv 1) (aa (am b8 (aN (pv 0) rfl) (am aY af (aN (pv 0) rfl))) ae)))) aD)
  (ag (ax (pv 1)))),?_⟩
 refine⟨_,rfl,p,C,dx,_,_,rfl,hp,T.cl,T.nW,ip _ _ _,d,_,rfl,.inl (SqL.of hd),λ l hl=>?_⟩;have npl:p≠l:=ai hp hl;have hp1:(upd H l (.lst (B.map vN))) p=some (.ins C dx (fW d r k)):=by rw [upd_ne npl];exact hp
 refine⟨_,rfl,p,C,dx,_,_,rfl,hp1,T.cl,T.nS,cD _ _ _,_,_,rfl,rfl,_,rfl,?_⟩;refine bd (λ h1=>?_) (λ h1=>?_)
 ·have h0:0<k:=by have:=Bp h1;lia
  have hr128:r<128:=Bf br.low ((Du Z9 (CM hk8):2^k≤2^7));have hBl:B.length≤1000:=by have:=br.tot;lia
  have e1:(8:Int)-(k:Int)=((8-k:Nat):Int):=(Eh (B7 hk8)).symm;refine⟨_,rfl,.inl ⟨rfl,_,SqL.of ac⟩,_,rfl,p,C,dx,_,_,rfl,hp1,T.cl,T.nR,fj _ _ _,_,rfl,p,C,dx,_,_,rfl,hp1,T.cl,T.nS,cD _ _ _,_,_,rfl,rfl,?_⟩
  try dsimp only
  rw [e1];refine⟨_,_,rfl,rfl,⟨BZ _,Z5,Z4⟩,l,_,_,rfl,rfl,ac,jr (by rw [A9];exact hBl),_,rfl,?_⟩
  try dsimp only
  rw [du];refine q l (B++[r*2^(8-k)]) _ hl (by rw [ac,Bm];rfl) (br.row1 h0 hk8) λ b o e=>?_
  rw [upd_ne (ai e hl),upd_ne (ai e hl)];exact e
 ·have h0:k=0:=by
   have h1':decide ((0:Int)<(k:Int))≠true:=h1;by_cases h:(0:Int)<(k:Int)
   ·exact absurd (Bj h) h1'
   ·lia
  subst h0;refine⟨_,rfl,?_⟩;refine q l B _ hl ac br.row0 λ b o e=>?_
  rw [upd_ne (ai e hl)];exact e
end
end K24
set_option maxHeartbeats 4000000
namespace K24
open PySem L2 QQ W17 W16 BP
seal PE PA PS PSs PT PW PG PI
variable {C d f fA fN p:HZ}{ps:List (Nat×Nat)}{fd fdA fdN fdW:Ih}{S W:List Nat}{ts:List HZ}{H H':Hp}{N:Nat}{P:List Pc}
def WinV (H:Hp)(x:V)(W:List Nat):Prop:=(x=.non/\W=[])\/∃a,x=.ref a/\H a=some (.lst (W.map vN))
theorem WinV.same {x:V}(h:WinV H x W)(s:Same H H'):WinV H' x W:=by
 rcases h with h|⟨a,e,h⟩
 ·exact .inl h
 ·exact .inr ⟨a,e,s _ _ h⟩
inductive Prs (H:Hp):List HZ->List (Nat×Nat)->Prop
 |nil:Prs H [] []
 |cons {t:HZ} {q:Nat×Nat} {ts:List HZ} {ps:List (Nat×Nat)}:H t=some (.tup [vN q.1,vN q.2])->Prs H ts ps->Prs H (t::ts) (q::ps)
theorem Prs.keep (h:Prs H ts ps)(s:∀c xs,H c=some (.tup xs)->H' c=some (.tup xs)):Prs H' ts ps:=by
 induction h with
 |nil=>exact .nil
 |cons a _ ih=>exact .cons (s _ _ a) ih
theorem Prs.mono (h:Prs H ts ps)(s:Same H H'):Prs H' ts ps:=h.keep λ c xs e=>s _ _ e
theorem Prs.app {us:List HZ}{qs:List (Nat×Nat)}(h:Prs H ts ps)(g:Prs H us qs):Prs H (ts++us) (ps++qs):=by
 induction h with
 |nil=>exact g
 |cons a _ ih=>exact .cons a ih
theorem Prs.len (h:Prs H ts ps):ts.length=ps.length:=by
 induction h with
 |nil=>rfl
 |cons a _ ih=>rw [Bq,Bq,ih]
theorem Prs.at (h:Prs H ts ps):∀{i:Nat} {t:HZ},ts[i]?=some t->∃q,ps[i]?=some q/\H t=some (.tup [vN q.1,vN q.2]):=by
 induction h with
 |nil=>intro i t h;simp at h
 |cons a _ ih=>
  intro i t h;cases i with
  |zero=>simp at h;subst h;exact⟨_,rfl,a⟩
  |succ i=>simp at h;exact ih h
theorem gA {i:Nat}{y:V}(h:(ts.map V.ref)[i]?=some y):∃t,ts[i]?=some t/\y=.ref t:=by
 rw [B4] at h;cases e:ts[i]? with
 |none=>rw [e] at h;cases h
 |some z=>rw [e] at h;exact⟨z,rfl,(BU h).symm⟩
theorem kL {α:Type}{B:List α}{i:Nat}{b:α}(h:B[i]?=some b):B.take (i+1)=B.take i++[b]:=by rw [CQ,h];rfl
theorem BitsAt.keep {T:Nat}(h:BitsAt C H p d N T)(s:∀c o,H c=some o->(c=p\/c=d)->H' c=some o):BitsAt C H' p d N T:=by
 obtain⟨dx,B,r,k,h1,h2,h3⟩:=h;exact⟨dx,B,r,k,s _ _ h1 (.inl rfl),s _ _ h2 (.inr rfl),h3⟩
theorem BitsAt.sm {T:Nat}(h:BitsAt C H p d N T):(∃o,H p=some o)/\∃o,H d=some o:=by
 obtain⟨dx,B,r,k,h1,h2,h3⟩:=h;exact⟨⟨_,h1⟩,⟨_,h2⟩⟩
theorem BitsAt.ob {T:Nat}(h:BitsAt C H p d N T):∃dx r k,H p=some (.ins C dx (fW d r k)):=by
 obtain⟨dx,B,r,k,h1,h2,h3⟩:=h;exact⟨dx,r,k,h1⟩
theorem cm {a b:HZ}(h:∃o,H a=some o)(n:H b=none):a≠b:=λ z=>by
 obtain⟨o,h⟩:=h;rw [z,n] at h;cases h
structure Bts (K:Frag)(mg:Str->Option Ib)(C:HZ):Prop where
 R:Rows K mg
 T:CB K mg C
 m:mg "BitRow"=some (.ref C)
 needsize:∃f fd,Fn K mg "need_size" dY ["size"] f fd
 ones:∃f fd,Fn K mg "ones" kG ["size"] f fd
 init:∃f fd,Fun K "__init__" "BitRow.__init__" oz f fd/\Binds K fd ["self"] []/\Mk K C f
 put:∃f fd,Me K C "put" "BitRow.put" yx ["self","number","size"] f fd
 move:∃f fd,Me K C "move_byte" "BitRow.move_byte" oO ["self"] f fd
 many:∃f fd,Me K C "many" "BitRow.many" rW ["self"] f fd
 row:∃f fd,Me K C "row" "BitRow.row" jZ ["self"] f fd
structure FnD (K:Frag)(mg:Str->Option Ib)(x:Str)(st:Im)(ps:List Str)(f:HZ)(fd:Ih):Prop where
 F:∃dV,FunD K x x st dV f fd
 m:mg x=some (.ref f)
 b:Binds K fd ps []
 d:Binds K fd ps [.none]
theorem FnD.kp {K:Frag}{mg:Str->Option Ib}{x:Str}{st:Im}{ps:List Str}(F:FnD K mg x st ps f fd):keepIn K (.ref f)=true:=F.F.elim λ _ z=>z.kp
noncomputable def itm:Pc->List V
 | .sg s=>[.str (Str.ofString "sign"),vN s]
 | .cp b z=>[.str (Str.ofString "copy"),vN b,vN z]
def PT' (H:Hp)(ts:List HZ)(P:List Pc):Prop:=ts.length=P.length/\∀(i:Nat) (a:HZ) (x:Pc),ts[i]?=some a->P[i]?=some x->H a=some (.tup (itm x))
def PL (H:Hp)(l:HZ)(P:List Pc):Prop:=∃ts:List HZ,H l=some (.lst (ts.map V.ref))/\PT' H ts P
theorem PT'.keep (h:PT' H ts P)(k:∀a xs,H a=some (.tup xs)->H' a=some (.tup xs)):PT' H' ts P:=⟨h.1,λ i a x h1 h2=>k _ _ (h.2 i a x h1 h2)⟩
theorem PT'.snoc (h:PT' H ts P){t:HZ}{x:Pc}(e:H t=some (.tup (itm x))):PT' H (ts++[t]) (P++[x]):=by
 refine⟨by simp [h.1],λ i a y h1 h2=>?_⟩;rw [List.getElem?_append] at h1 h2;rw [<-h.1] at h2
 split at h1
 ·rename_i c
  rw [BM c] at h2;exact h.2 i a y h1 h2
 ·rename_i c
  rw [Bu c] at h2;have e0:i-ts.length=0:=by
   have:=(Bo.mp h1).1;simp at this
   assumption
  rw [e0] at h1 h2;cases h1;cases h2;exact e
theorem sh:V.str (Str.ofString "copy")≠V.str (Str.ofString "sign"):=λ h=>absurd (V.str.inj h) Z8
noncomputable def cpy (B:List Nat) (b:Nat):Nat->List Nat
 |0=>B
 |n+1=>cpy B b n++[(cpy B b n).getD ((cpy B b n).length-b) 0]
theorem lM {p b z:Nat}(hb1:1≤b)(hb:b≤p)(hz:p+z≤S.length)(h:∀i<z,S[p+i]?=S[p+i-b]?):∀n,n≤z->cpy (S.take p) b n=S.take (p+n)
 |0,_=>rfl
 |n+1,hn=>by
  have hl:(S.take (p+n)).length=p+n:=by rw [Bv];lia
  rw [cpy,lM hb1 hb hz h n (Dp hn),hl];have h1:p+n<S.length:=Bf (Em hn _) hz;rw [show p+(n+1)=p+n+1 by lia,CQ,Bg h1];congr 1;have h2:=h n (‹_›);rw [Bg h1] at h2;rw [Ca,EB,BM Z5,<-h2];rfl
section
variable {P:Ie}{w:Ig}{K:Frag}{mg:Str -> Option Ib}{base:Ij}{CB CR:HZ}
def rh:Sp:=λ vs H Q _=>∃(x:V) (m:Nat) (W:List Nat),vs=[x,vN m]/\WinV H x W/\(∀b∈W,b<256)/\W.length≤m/\∀l H',Same H H'->H l=none->H' l=some (.lst (W.map vN))->Q (.ref l) H'
theorem scNeedWin:FnScope ["before","most","window"] ["before","most"] (ak dO):=scK Z8
theorem ic (F:Fn K mg "need_window" dO ["before","most"] f fd)(N:Fn K mg "need_row" bY ["thing"] fN fdN)(Y:Rows K mg):FnOk P w K mg base CX0 5 f fd ["before","most"] rh:=by
 have T:=Y.X;refine F.F.ok scNeedWin λ Iq A outer s H vs Q E hr h=>?_
 intro _;obtain⟨x,m,W,rfl,hx,hb,hl,k⟩:=h;refine⟨_,ad (aL (aA rF (pv 0) eK (aC _)) (ag (ax (aE ae))) aD)
  (ad (ar (i:=2) scNeedWin.nd (aq (ok_needrow N Y) hr Z7 N.m N.F.kp N.b .nil aw (aa (pv 0) ae)))
  (ad (aL (aA dH (az ay Z7 T.len BV (aa (pv 2) ae)) (pv 1) (aC _)) (ag bD) aD)
  (ag (ax (pv 2))))),?_⟩
 rcases hx with⟨rfl,rfl⟩|⟨b,rfl,hB⟩
 ·exact⟨_,rfl,rfl,_,rfl,bd (λ _=>⟨Z9,λ l nl=>k l _ (aj nl) nl ac⟩) (λ h=>absurd (Bj rfl) h)⟩
 ·refine⟨_,rfl,rfl,_,rfl,bd (λ h=>absurd (Bp h) (by intro z;cases z)) (λ _=>?_)⟩;refine⟨_,rfl,b,W,rfl,hB,hb,λ l hn=>?_⟩;refine⟨_,rfl,l,_,rfl,.inl (SqL.of ac),_,rfl,_,_,rfl,rfl,_,rfl,bd (λ h=>?_) (λ _=>?_)⟩
  ·have:=Bp h;rw [A9] at this;lia
  ·exact⟨_,rfl,k l _ (aj hn) hn ac⟩
def lJ:Sp:=λ vs H Q _=>∃(x:V) (W:List Nat),vs=[x]/\WinV H x W/\(∀b∈W,b<256)/\W.length≤192/\∀l H',Same H H'->H l=none->H' l=some (.lst (W.map vN))->Q (.ref l) H'
theorem mh:FnScope ["before"] ["before"] (ak dw):=scK Z8
theorem kx {fW:HZ}(F:Fn K mg "need_ahead" dw ["before"] f fd)(Wi:Fn K mg "need_window" dO ["before","most"] fW fdW)(N:Fn K mg "need_row" bY ["thing"] fN fdN)(Y:Rows K mg):FnOk P w K mg base CX0 6 f fd ["before"] lJ:=by
 obtain⟨tg,hg⟩:=Y.X.ahead;refine F.F.ok mh λ Iq A outer s H vs Q E hr h=>?_
 intro _;obtain⟨x,W,rfl,hx,hb,hl,k⟩:=h;refine⟨_,ag (ax (aq (ic Wi N Y) hr Z7 Wi.m Wi.F.kp Wi.b .nil aw (aa (pv 0) (aa (aH (v:=.int 192) Z7 hg ⟨tg,rfl⟩) ae)))),?_⟩;exact⟨_,rfl,x,192,W,rfl,hx,hb,hl,k⟩
def li:Sp:=λ vs H Q _=>∃(a:HZ) (x:V) (T W:List Nat),vs=[.ref a,x]/\H a=some (.lst (T.map vN))/\(∀b∈T,b<256)/\1≤T.length/\T.length≤64/\WinV H x W/\(∀b∈W,b<256)/\W.length≤192/\
 ∀l H',Same H H'->H l=none->H' l=some (.lst (T.map vN))->Q (.ref l) H'
theorem scNeedSigns:FnScope ["text","before","signs"] ["text","before"] (ak eM):=scK Z8
theorem cK {fW:HZ}(F:Fn K mg "need_signs" eM ["text","before"] f fd)(Ah:Fn K mg "need_ahead" dw ["before"] fA fdA)(Wi:Fn K mg "need_window" dO ["before","most"] fW fdW)(N:Fn K mg "need_row" bY ["thing"] fN fdN)(Y:Rows K mg):FnOk P w K mg base CX0 7 f fd ["text","before"] li:=by
 have T:=Y.X;obtain⟨tg,hg⟩:=T.signs;refine F.F.ok scNeedSigns λ Iq A outer s H vs Q E hr h=>?_
 intro _;obtain⟨a,x,S,W,rfl,ha,hSb,h1,h64,hx,hb,hl,k⟩:=h;have hr4:Room 4 _:=hr.mono Z9;refine⟨_,ad (ar (i:=2) scNeedSigns.nd (aq (ok_needrow N Y) hr4 Z7 N.m N.F.kp N.b .nil aw (aa (pv 0) ae)))
  (ad (aL (PW.pt (fE (aA bP (az ay Z7 T.len BV (aa (pv 2) ae)) af (aC _)) (dP (aA dH (az ay Z7 T.len BV (aa (pv 2) ae)) (aH (v:=.int 64) Z7 hg ⟨tg,rfl⟩) (aC _))))) (ag bD) aD)
  (ad (aF (aq (kx Ah Wi N Y) hr Z7 Ah.m Ah.F.kp Ah.b .nil aw (aa (pv 1) ae)))
  (ag (ax (pv 2))))),?_⟩
 refine seq_g λ _ g1=>⟨_,rfl,a,S,rfl,ha,hSb,λ l nl=>g1 _ _ ?_⟩
 clear g1;have s0:=aj (o:=.lst (S.map vN)) nl;have hll:(upd H l (.lst (S.map vN))) l=some (.lst (S.map vN)):=ac;generalize upd H l (.lst (S.map vN))=H1 at*;refine seq_g λ _ g1=>⟨_,rfl,l,_,rfl,.inl (SqL.of hll),rfl,_,rfl,bd (λ h=>?_) (λ _=>?_)⟩
 ·have:=Bp h;injection this with this
  rw [A9] at this;lia
 refine⟨_,rfl,l,_,rfl,.inl (SqL.of hll),_,_,rfl,rfl,_,rfl,bd (λ h=>?_) (λ _=>g1 _ _ ?_)⟩
 ·have:=Bp h;rw [A9] at this;lia
 clear g1;refine seq_g λ _ g1=>⟨_,rfl,x,W,rfl,hx.same s0,hb,hl,λ l2 H2 s2 n2 h22=>g1 _ _ ?_⟩
 exact⟨_,rfl,k l H2 (s0.trans s2) nl (s2 _ _ hll)⟩
def uU:Sp:=λ vs H Q _=>∃(a:HZ) (S:List Nat) (p b m:Nat),vs=[.ref a,vN p,vN b,vN m]/\H a=some (.lst (S.map vN))/\b≤p/\p+m≤S.length/\Q (vN (al S p b m)) H
theorem scAlike:FnScope ["signs","place","back","most","size"] ["signs","place","back","most"] (ak kj):=scK Z8
theorem ul (F:Fn K mg "alike_from" kj ["signs","place","back","most"] f fd):FnOk P w K mg base CX0 1 f fd ["signs","place","back","most"] uU:=by
 refine F.F.ok scAlike λ Iq A outer st H vs Q E hr h=>?_
 intro _;obtain⟨a,S,p,b,m,rfl,hS,hb,hm,k⟩:=h;refine⟨_,ad (ar (i:=4) scAlike.nd af)
  (ad (cX BW (PW.pt (nJ (aA jw (pv 4) (pv 3) (aC _)) (j6 (aA bP (aM aW (pv 0) (am aK (pv 1) (pv 4)) (λ _ _=>rfl)) (aM aW (pv 0) (am aY (am aK (pv 1) (pv 4)) (pv 2)) (λ _ _=>rfl)) (aC _)))))
   (ag (ar (i:=4) scAlike.nd (am aK (pv 4) af))))
  (ag (ax (pv 4)))),?_⟩
 refine seq_g λ R1 g1=>g1 _ _ ?_
 clear g1;refine seq_g λ _ g1=>⟨λ n σ H2=>∃i:Nat,n=m-i/\σ=[some (.ref a),some (vN p),some (vN b),some (vN m),some (vN i)]/\H2=H/\i≤m/\∀j<i,S[p+j]?=S[p+j-b]?,⟨m,0,rfl,rfl,rfl,BX _,λ j hj=>absurd hj (G1 _)⟩,?_⟩
 rintro n σ H2 ⟨i,rfl,rfl,rfl,hi,hall⟩;refine⟨_,rfl,_,rfl,_,_,rfl,rfl,_,rfl,bd (λ h1=>?_) (λ h1=>?_)⟩
 ·have h2:i<m:=by have:=Bp h1;exact EC.mp this
  have e1:((p:Nat):Int)+((i:Nat):Int)=((p+i:Nat):Int):=Z5;have e2:((p+i:Nat):Int)-((b:Nat):Int)=((p+i-b:Nat):Int):=(Eh (CV hb)).symm;have l1:p+i<S.length:=Z5;have l2:p+i-b<S.length:=C8 l1;refine⟨_,rfl,_,rfl,_,rfl,_,_,rfl,rfl,?_⟩
  try dsimp only
  rw [e1];refine⟨a,_,_,_,rfl,rfl,SqL.of hS,aB (cU l1),?_⟩;refine⟨_,rfl,_,rfl,_,rfl,_,_,rfl,rfl,_,rfl,_,_,rfl,rfl,?_⟩
  try dsimp only
  rw [e1,e2];refine⟨a,_,_,_,rfl,rfl,SqL.of hS,aB (cU l2),rfl,_,rfl,bd (λ h3=>?_) (λ h3=>?_)⟩
  ·have h4:S[p+i]=S[p+i-b]:=vN_inj.mp (Bp h3);refine⟨λ σ' H'=>σ'=[some (.ref a),some (vN p),some (vN b),some (vN m),some (vN (i+1))]/\H'=H2,λ σ' H' z=>⟨m-(i+1),Z5,i+1,rfl,z.1,z.2, ‹_›,λ j hj=>?_⟩,?_⟩
   ·by_cases e:j=i
    ·subst e;rw [Bg l1,Bg l2,h4]
    ·exact hall j (Cn (CM hj) e)
   ·exact⟨_,rfl,_,_,rfl,rfl,rfl,rfl⟩
  ·refine g1 _ _ ⟨_,rfl,?_⟩;have h4:S[p+i]?≠S[p+i-b]?:=by
    rw [Bg l1,Bg l2];intro z;exact h3 (Bj (vN_inj.mpr (BU z)))
   rw [uS hall h4 m (‹_›)] at k;exact k
 ·refine bV (g1 _ _ ⟨_,rfl,?_⟩);have h2:i=m:=by
   have h1':¬(decide ((i:Int)<(m:Int))=true):=h1;have:¬((i:Int)<(m:Int)):=λ z=>h1' (Bj z)
   lia
  subst h2;rw [tU hall] at k;exact k
def qH:Sp:=λ vs H Q _=>∃(a:HZ) (S:List Nat) (p:Nat),vs=[.ref a,vN p]/\H a=some (.lst (S.map vN))/\p<S.length/\S.length≤1000/\∀t,H t=none->Q (.ref t) (upd H t (.tup [.str (Str.ofString "copy"),vN (lcAt S p).1,vN (lcAt S p).2]))
theorem scLongest:FnScope ["signs","place","most","best_back","best_size","back","size"] ["signs","place"] (ak iy):=scK Z8
theorem nH (F:Fn K mg "longest_copy" iy ["signs","place"] f fd)(AF:Fn K mg "alike_from" kj ["signs","place","back","most"] fA fdA)(T:Txt K mg):FnOk P w K mg base CX0 31 f fd ["signs","place"] qH:=by
 obtain⟨tf,hf⟩:=T.far;obtain⟨tm,hm⟩:=T.mostC;refine F.F.ok scLongest λ Iq A outer st H vs Q E hr h=>?_
 intro _;obtain⟨a,S,p,rfl,hS,hp,hlen,k⟩:=h;have hn:=hr.hd Z9;have hr1:Room 1 _:=hr.mono Z9;refine⟨_,ad (ar (i:=2) scLongest.nd (az (dZ hn) Z7 T.min Fj (aa (aH (v:=.int 18) Z7 hm ⟨tm,rfl⟩) (aa (am aY (az ay Z7 T.len BV (aa (pv 0) ae)) (pv 1)) ae))))
  (ad (ar (i:=3) scLongest.nd af)
  (ad (ar (i:=4) scLongest.nd af)
  (ad (bf BW rfl (fX Z7 T.range (aa af (aa (am aK (az (dZ hn) Z7 T.min Fj (aa (aH (v:=.int 255) Z7 hf ⟨tf,rfl⟩) (aa (pv 1) ae))) af) ae))) (aJ (i:=5) scLongest.nd)
   (ad (aL (aA bP (pv 4) (pv 2) (aC _)) (ag sM) aD)
   (ag (aL (aA bP (aM aW (pv 0) (am aK (pv 1) (pv 4)) (λ _ _=>rfl)) (aM aW (pv 0) (am aY (am aK (pv 1) (pv 4)) (pv 5)) (λ _ _=>rfl)) (aC _))
    (ad (ar (i:=6) scLongest.nd (aq (ul AF) hr1 Z7 AF.m AF.F.kp AF.b .nil aw (aa (pv 0) (aa (pv 1) (aa (pv 5) (aa (pv 2) ae))))))
    (ag (aL (aA dH (pv 6) (pv 4) (aC _)) (ad (ar (i:=3) scLongest.nd (pv 5)) (ag (ar (i:=4) scLongest.nd (pv 6)))) aD))) aD))))
  (ag (ax (bL (aa cf (aa (pv 3) (aa (pv 4) ae))))))))),?_⟩
 refine seq_g λ _ g1=>⟨_,rfl,a,_,rfl,.inl (SqL.of hS),_,rfl,_,_,rfl,rfl,_,_,rfl,g1 _ _ ?_⟩
 clear g1;have em:(if((S.map vN).length:Int)-((p:Nat):Int)<18 then((S.map vN).length:Int)-((p:Nat):Int) else 18)=((most S p:Nat):Int):=by
  rw [A9];unfold most
  split<;>lia
 try dsimp only
 rw [em];have hm2:most S p≤18/\p+most S p≤S.length:=by unfold most;lia
 refine seq_g λ R1 g1=>g1 _ _ ?_
 clear g1;refine seq_g λ R1 g1=>g1 _ _ ?_
 clear g1;refine seq_g λ R1 g1=>?_
 have JR:∀v5 v6:Option V,R1 [some (.ref a),some (vN p),some (vN (most S p)),some (vN (lcAt S p).1),some (vN (lcAt S p).2),v5,v6] H:=λ v5 v6=>by
  refine g1 _ _ ?_;exact⟨_,rfl,_,rfl,(by show 3≤sizeLine;decide),k⟩
 clear g1;have ef:(if((p:Nat):Int)<255 then((p:Nat):Int) else 255)=((far p:Nat):Int):=by
  unfold far
  split<;>lia
 refine⟨_,rfl,_,_,rfl,?_⟩
 try dsimp only
 rw [ef];have hfar:far p≤255/\far p≤p:=by unfold far;exact⟨Da _ _,Di _ _⟩
 refine⟨_,_,rfl,rfl,1,((far p:Nat):Int)+1,rfl,⟨Z5,Z5,Z5,Z5⟩,?_⟩;have en:(((far p:Nat):Int)+1-1).toNat=far p:=Z5
 try dsimp only
 rw [en];refine b9 (D:=⟨_,_,λ _ _=>False,λ _ _=>False⟩) (lo:=1) (n:=far p) (λ j σ H2=>∃v5 v6:Option V,σ=[some (.ref a),some (vN p),some (vN (most S p)),some (vN (lc S p (most S p) j).1),some (vN (lc S p (most S p) j).2),v5,v6]/\H2=H) ⟨none,none,rfl,rfl⟩ ?_ ?_
 ·rintro j σ H2 hj ⟨v5,v6,rfl,rfl⟩;have eb:(1:Int)+((j:Nat):Int)=((j+1:Nat):Int):=Z5
  try dsimp only
  rw [eb];refine seq_g λ _ g2=>⟨_,rfl,_,rfl,rfl,_,rfl,bd (λ h1=>?_) (λ h1=>?_)⟩
  ·have h2:(lc S p (most S p) j).2=most S p:=vN_inj.mp (Bp h1);have e:=px h2 (far p) (Dp hj);have J:=JR (some (vN (j+1))) v6;unfold lcAt at J;rw [e] at J;exact J
  ·have h2:(lc S p (most S p) j).2≠most S p:=λ z=>h1 (Bj (vN_inj.mpr z))
   have hle:=pB S p (most S p) j;refine g2 _ _ ?_;clear g2;have e1:((p:Nat):Int)+(((lc S p (most S p) j).2:Nat):Int)=((p+(lc S p (most S p) j).2:Nat):Int):=Z5;have e2:((p+(lc S p (most S p) j).2:Nat):Int)-((j+1:Nat):Int)=((p+(lc S p (most S p) j).2-(j+1):Nat):Int):=Z5;have l1:p+(lc S p (most S p) j).2<S.length:=Z5;have l2:p+(lc S p (most S p) j).2-(j+1)<S.length:=Z5;refine⟨_,rfl,_,rfl,_,rfl,_,_,rfl,rfl,?_⟩
   try dsimp only
   rw [e1];refine⟨a,_,_,_,rfl,rfl,SqL.of hS,aB (cU l1),?_⟩;refine⟨_,rfl,_,rfl,_,rfl,_,_,rfl,rfl,_,rfl,_,_,rfl,rfl,?_⟩
   try dsimp only
   rw [e1,e2];refine⟨a,_,_,_,rfl,rfl,SqL.of hS,aB (cU l2),rfl,_,rfl,bd (λ h3=>?_) (λ h3=>?_)⟩
   ·refine⟨_,rfl,_,rfl,_,rfl,_,rfl,a,S,p,j+1,most S p,rfl,hS,Ba hj hfar.2,String.Pos.Raw.mk_le_mk.mp hm2.2,?_⟩;refine⟨_,rfl,_,rfl,_,_,rfl,rfl,_,rfl,bd (λ h4=>?_) (λ h4=>?_)⟩
    ·have h5:(lc S p (most S p) j).2<al S p (j+1) (most S p):=by have:=Bp h4;exact EC.mp this
     refine⟨_,rfl,_,rfl,some (vN (j+1)),some (vN (al S p (j+1) (most S p))),?_,rfl⟩;rw [lc,BM h5];rfl
    ·have h5:¬(lc S p (most S p) j).2<al S p (j+1) (most S p):=λ z=>h4 (Bj Z5)
     refine⟨some (vN (j+1)),some (vN (al S p (j+1) (most S p))),?_,rfl⟩;rw [lc,Bu h5];rfl
   ·refine⟨some (vN (j+1)),v6,?_,rfl⟩;have h4:S[p+(lc S p (most S p) j).2]?≠S[p+(lc S p (most S p) j).2-(j+1)]?:=by
     rw [Bg l1,Bg l2];intro z;exact h3 (Bj (vN_inj.mpr (BU z)))
    rw [vm h4];rfl
 ·rintro σ H2 ⟨v5,v6,rfl,rfl⟩;exact JR v5 v6
def mW:Sp:=λ vs H Q _=>∃(a:HZ) (x:V) (W T:List Nat),vs=[.ref a,x]/\H a=some (.lst (T.map vN))/\WinV H x W/\(∀b∈W,b<256)/\(∀b∈T,b<256)/\W.length≤255/\T.length≤500/\
 ∀l P H',Same H H'->H l=none->PL H' l P->Walk (W++T) W.length P (W++T).length->Q (.ref l) H'
theorem scPiecesOf:FnScope ["text","before","own_signs","signs","place","pieces","found"] ["text","before"] (ak gm):=scK Z8
structure Wins (K:Frag)(mg:Str->Option Ib):Prop where
 R:Rows K mg
 needrow:∃f fd,Fn K mg "need_row" bY ["thing"] f fd
 needwin:∃f fd,Fn K mg "need_window" dO ["before","most"] f fd
 alike:∃f fd,Fn K mg "alike_from" kj ["signs","place","back","most"] f fd
 longest:∃f fd,Fn K mg "longest_copy" iy ["signs","place"] f fd
theorem gp (F:FnD K mg "pieces_of" gm ["text","before"] f fd)(Y:Wins K mg):FnOk P w K mg base CX0 32 f fd ["text","before"] mW:=by
 obtain⟨R,⟨_,_,N⟩,⟨_,_,NW⟩,⟨_,_,AF⟩,⟨_,_,L⟩⟩:=Y;have T:=R.X;obtain⟨tl,hlc⟩:=T.least;obtain⟨tf,hfr⟩:=T.far;obtain⟨dV,FF⟩:=F.F;refine FF.ok scPiecesOf λ Iq A outer st H vs Q E hr h=>?_
 intro _;obtain⟨a,x,W,Tx,rfl,ha,hx,hbW,hbT,hW,hT,k⟩:=h;have hr4:Room 4 _:=hr.mono Z9;have hr5:Room 5 _:=hr.mono Z9;refine⟨_,ad (ar (i:=2) scPiecesOf.nd (aq (ok_needrow N R) hr4 Z7 N.m N.F.kp N.b .nil aw (aa (pv 0) ae)))
  (ad (ar (i:=3) scPiecesOf.nd (am aR (aq (ic NW N R) hr5 Z7 NW.m NW.F.kp NW.b .nil aw (aa (pv 1) (aa (aH (v:=.int 255) Z7 hfr ⟨tf,rfl⟩) ae))) (pv 2)))
  (ad (ar (i:=4) scPiecesOf.nd (am aY (az ay Z7 T.len BV (aa (pv 3) ae)) (az ay Z7 T.len BV (aa (pv 2) ae))))
  (ad (ar (i:=5) scPiecesOf.nd (aE ae))
  (ad (cX BW (aA jw (pv 4) (az ay Z7 T.len BV (aa (pv 3) ae)) (aC _))
   (ad (ar (i:=6) scPiecesOf.nd (aq (nH L AF R.X) hr Z7 L.m L.F.kp L.b .nil aw (aa (pv 3) (aa (pv 4) ae))))
   (ag (aL (aA pG (aM aZ (pv 6) af (λ _ _=>rfl)) (aH (v:=.int 3) Z7 hlc ⟨tl,rfl⟩) (aC _))
    (ad (aF (dI Cj CD CS bv (pv 5) (aa (pv 6) ae)))
     (ag (ar (i:=4) scPiecesOf.nd (am aK (pv 4) (aM aZ (pv 6) af (λ _ _=>rfl))))))
    (ad (aF (dI Cj CD CS bv (pv 5) (aa (bL (aa cf (aa (aM aW (pv 3) (pv 4) (λ _ _=>rfl)) ae))) ae)))
     (ag (ar (i:=4) scPiecesOf.nd (am aK (pv 4) af))))))))
  (ag (ax (pv 5))))))),?_⟩
 refine seq_g λ _ g1=>⟨_,rfl,a,Tx,rfl,ha,hbT,λ l1 n1=>g1 _ _ ?_⟩
 clear g1;have s1:Same H (upd H l1 (.lst (Tx.map vN))):=aj n1;refine seq_g λ _ g1=>⟨_,rfl,x,255,W,rfl,hx.same s1,hbW,hW,λ l2 H2 s2 n2 h22=>?_⟩
 have h1a:H2 l1=some (.lst (Tx.map vN)):=s2 _ _ ac;refine⟨_,rfl,l2,l1,_,_,rfl,rfl,h22,h1a,bj (by rw [A9,A9];lia),λ l3 n3=>g1 _ _ ?_⟩;clear g1;have s3:=aj (o:=.lst (W.map vN++Tx.map vN)) n3
 try dsimp only
 rw [<-Bm] at s3 ⊢;have hS3:(upd H2 l3 (.lst ((W++Tx).map vN))) l3=some (.lst ((W++Tx).map vN)):=ac;have hS1:=s3 _ _ h1a;have s03:=(s1.trans s2).trans s3;generalize hH3:upd H2 l3 (.lst ((W++Tx).map vN))=H3 at*;clear hH3 s3 n3 h1a s2 n2 s1;refine seq_g λ _ g1=>⟨_,rfl,l3,_,rfl,.inl (SqL.of hS3),_,rfl,l1,_,rfl,.inl (SqL.of hS1),_,_,rfl,rfl,g1 _ _ ?_⟩
 clear g1;have ep:(((W++Tx).map vN).length:Int)-((Tx.map vN).length:Int)=((W.length:Nat):Int):=by
  rw [A9,A9,Bb];lia
 try dsimp only
 rw [ep];generalize hS:W++Tx=S at*;have hSl:S.length=W.length+Tx.length:=by rw [<-hS,Bb]
 refine seq_g λ _ g1=>⟨Z9,λ l5 n5=>g1 _ _ ?_⟩
 clear g1;have s5:=aj (o:=.lst []) n5;have n5':H l5=none:=none_of s03 n5;have hS5:=s5 _ _ hS3;have n35:l3≠l5:=ai hS3 n5;have s05:=s03.trans s5;refine seq_g λ _ g1=>⟨λ n σ H2=>∃(q:Nat) (Pp:List Pc) (ts:List HZ) (v6:Option V),n=S.length-q/\σ=[some (.ref a),some x,some (.ref l1),some (.ref l3),some (vN q),some (.ref l5),v6]/\q≤S.length/\Walk S W.length Pp q/\H2 l3=some (.lst (S.map vN))/\H2 l5=some (.lst (ts.map V.ref))/\PT' H2 ts Pp/\Same H H2,
  ⟨S.length-W.length,W.length,[],[],none,rfl,rfl,Nat.le.intro hSl.symm,rfl,hS5,ac,⟨rfl,λ i b y h=>by simp at h⟩,s05⟩,?_⟩
 rintro n σ H2 ⟨q,Pp,ts,v6,rfl,rfl,hq,hw,h3,h5,hts,sm⟩;refine⟨_,rfl,_,rfl,l3,_,rfl,.inl (SqL.of h3),_,_,rfl,rfl,_,rfl,bd (λ hc=>?_) (λ hc=>?_)⟩
 ·have hq2:q<S.length:=by have:=Bp hc;rw [A9] at this;exact EC.mp this
  refine⟨λ σ' H'=>∃(q':Nat) (Pp:List Pc) (ts:List HZ) (v6:Option V),q<q'/\σ'=[some (.ref a),some x,some (.ref l1),some (.ref l3),some (vN q'),some (.ref l5),v6]/\q'≤S.length/\Walk S W.length Pp q'/\H' l3=some (.lst (S.map vN))/\H' l5=some (.lst (ts.map V.ref))/\PT' H' ts Pp/\Same H H',
   λ σ' H' z9=>by obtain⟨q',Pp,ts,v6,Ir,z1,z2,z⟩:=z9;exact⟨S.length-q',Z4,q',Pp,ts,v6,rfl,z1,z2,z⟩,?_⟩
  have hlen:Pp.length≤S.length:=by have:=cz hw;lia
  have hpz:=fV hq2;refine seq_g λ _ g2=>⟨_,rfl,_,rfl,l3,S,q,rfl,h3,hq2,Z5,λ t nt=>g2 _ _ ?_⟩
  clear g2;have st:=aj (o:=.tup [.str (Str.ofString "copy"),vN (lcAt S q).1,vN (lcAt S q).2]) nt;have ht:(upd H2 t (.tup [.str (Str.ofString "copy"),vN (lcAt S q).1,vN (lcAt S q).2])) t=some (.tup [.str (Str.ofString "copy"),vN (lcAt S q).1,vN (lcAt S q).2]):=ac;have h3t:=st _ _ h3;have h5t:=st _ _ h5;have htst:=hts.keep (H':=upd H2 t (.tup [.str (Str.ofString "copy"),vN (lcAt S q).1,vN (lcAt S q).2])) λ _ _ z=>st _ _ z
  have smt:=sm.trans st;generalize hHt:upd H2 t (.tup [.str (Str.ofString "copy"),vN (lcAt S q).1,vN (lcAt S q).2])=Ht at*;clear hHt st;have hap:∀(H4:Hp) (u:HZ),H4 l5=some (.lst (ts.map V.ref))->H4 l3=some (.lst (S.map vN))->PT' H4 ts Pp->Same H H4->H4 u=some (.tup (itm (pcAt S q)))->
    (upd H4 l5 (.lst (ts.map V.ref++[.ref u]))) l3=some (.lst (S.map vN))/\(upd H4 l5 (.lst (ts.map V.ref++[.ref u]))) l5=some (.lst ((ts++[u]).map V.ref))/\PT' (upd H4 l5 (.lst (ts.map V.ref++[.ref u]))) (ts++[u]) (Pp++[pcAt S q])/\Same H (upd H4 l5 (.lst (ts.map V.ref++[.ref u]))):=by
   intro H4 u a5 a3 at' as au;have kt:∀b xs,H4 b=some (.tup xs)->(upd H4 l5 (.lst (ts.map V.ref++[.ref u]))) b=some (.tup xs):=λ b xs z=>by
    rw [upd_ne (ne_of z a5 (by intro y;cases y))];exact z
   refine⟨by rw [upd_ne n35];exact a3,by rw [ac,Bm];rfl,(at'.keep kt).snoc (kt _ _ au),λ b o z=>?_⟩;rw [upd_ne (ai z n5')];exact as _ _ z
  refine⟨_,rfl,t,_,_,_,rfl,rfl,SqT.of ht,aB (j:=2) rfl,_,_,rfl,rfl,_,rfl,bd (λ h6=>?_) (λ h6=>?_)⟩
  ·have h7:3≤(lcAt S q).2:=by have:=Bp h6;exact Hk.mp this
   have epc:pcAt S q=.cp (lcAt S q).1 (lcAt S q).2:=by unfold pcAt;rw [BM h7]
   obtain⟨b3,b5,bt,bs⟩:=hap Ht t h5t h3t htst smt (by rw [epc];exact ht);refine⟨_,rfl,.inl ⟨rfl,_,SqL.of h5t⟩,_,rfl,l5,_,_,rfl,rfl,h5t,bF (by rw [A9,hts.1];lia),?_⟩;have ht2:(upd Ht l5 (.lst (ts.map V.ref++[.ref t]))) t=some (.tup [.str (Str.ofString "copy"),vN (lcAt S q).1,vN (lcAt S q).2]):=by
    rw [upd_ne (ne_of ht h5t (by intro y;cases y))];exact ht
   refine⟨_,rfl,_,rfl,t,_,_,_,rfl,rfl,SqT.of ht2,aB (j:=2) rfl,_,_,rfl,rfl,?_⟩;rw [epc] at bt hpz;have hw2:=cN hw hq2;rw [epc] at hw2;have hz:(Pc.cp (lcAt S q).1 (lcAt S q).2).size=(lcAt S q).2:=rfl;rw [hz] at hw2 hpz;refine⟨q+(lcAt S q).2,_,_,some (.ref t),EX hpz.1,?_,hpz.2,hw2,b3,b5,bt,bs⟩;have e2:((q:Nat):Int)+(((lcAt S q).2:Nat):Int)=((q+(lcAt S q).2:Nat):Int):=Z5
   try dsimp only
   rw [e2];rfl
  ·have h7:¬3≤(lcAt S q).2:=λ z=>h6 (Bj Z5)
   have epc:pcAt S q=.sg S[q]:=by unfold pcAt;rw [Bu h7];simp [List.getD,hq2]
   refine⟨_,rfl,.inl ⟨rfl,_,SqL.of h5t⟩,_,rfl,_,rfl,l3,_,_,_,rfl,rfl,SqL.of h3t,aB (cU hq2),(by show 2≤sizeLine;decide),λ u nu=>?_⟩;have su:=aj (o:=.tup [.str (Str.ofString "sign"),vN S[q]]) nu;obtain⟨b3,b5,bt,bs⟩:=hap (upd Ht u (.tup [.str (Str.ofString "sign"),vN S[q]])) u (su _ _ h5t) (su _ _ h3t) (htst.keep λ _ _ z=>su _ _ z) (smt.trans su) (by rw [epc];exact ac);refine⟨l5,_,_,rfl,rfl,su _ _ h5t,bF (by rw [A9,hts.1];omega),?_⟩;refine⟨_,rfl,_,_,rfl,rfl,?_⟩;have hw2:=cN hw hq2;rw [epc] at bt hw2 hpz;exact⟨q+1,_,_,some (.ref t),Gr _,rfl,hpz.2,hw2,b3,b5,bt,bs⟩
 ·have hq2:q=S.length:=by
   have h1:¬(decide (((q:Nat):Int)<((S.map vN).length:Int))=true):=hc;rw [A9] at h1;have:¬(((q:Nat):Int)<((S.length:Nat):Int)):=λ z=>h1 (Bj z)
   lia
  subst hq2;refine g1 _ _ ⟨_,rfl,?_⟩;exact k l5 Pp H2 sm n5' ⟨ts,h5,hts⟩ hw
end
noncomputable def app (B:List Nat):Pc->List Nat
 | .sg s=>B++[s]
 | .cp b z=>cpy B b z
def tR (B:List Nat)(P:List Pc):List Nat:=P.foldl app B
noncomputable def pcP:Pc->List (Nat×Nat)
 | .sg s=>[(0,1),(s,8)]
 | .cp b z=>[(1,1),(b,8),(z-3,4)]
def pP (P:List Pc):List (Nat×Nat):=P.flatMap pcP
def fQ (B:List Nat):Pc->Prop
 | .sg s=>s<256
 | .cp b z=>1≤b/\b≤255/\b≤B.length/\3≤z/\z≤18
def GR:List Nat->List Pc->Prop
 |_,[]=>True
 |B,x::P=>fQ B x/\GR (app B x) P
theorem qj (P Q:List Pc):pP (P++Q)=pP P++pP Q:=by simp [pP]
theorem pP_cons (x:Pc)(P:List Pc):pP (x::P)=pcP x++pP P:=by simp [pP]
theorem yQ (x:Pc):pP [x]=pcP x:=by simp [pP]
theorem GR.at:∀{P:List Pc} {B:List Nat} {i:Nat} {x:Pc},GR B P->P[i]?=some x->fQ (tR B (P.take i)) x
 |y::P,B,0,x,h,e=>by simp at e;subst e;exact h.1
 |y::P,B,i+1,x,h,e=>by
  have:=GR.at (P:=P) (B:=app B y) (i:=i) (x:=x) h.2 (by simpa using e);exact this
theorem oH:∀{P:List Pc} {B:List Nat},GR B P->Good (pP P)
 | [],_,_=>λ q hq=>by cases hq
 |x::P,B,h=>by
  have ih:=oH (P:=P) (B:=app B x) h.2;intro q hq;rw [pP_cons] at hq;rcases Br.mp hq with hq|hq
  ·cases x with
   |sg s=>
    have hs:s<256:=h.1;simp [pcP] at hq;rcases hq with rfl|rfl
    ·decide
    ·exact hs
   |cp b z=>
    obtain⟨_,h2,_,h4,h5⟩:1≤b/\b≤255/\b≤B.length/\3≤z/\z≤18:=h.1;simp [pcP] at hq;rcases hq with rfl|rfl|rfl
    ·decide
    ·show b<2^8;exact D4 h2
    ·show z-3<2^4;omega
  ·exact ih q hq
theorem tots_pc (x:Pc):tots (pcP x)=9\/tots (pcP x)=13:=by
 cases x with
 |sg s=>exact .inl rfl
 |cp b z=>exact .inr rfl
theorem jS:∀P:List Pc,tots (pP P)≤13*P.length
 | []=>Bh _
 |x::P=>by
  rw [pP_cons,aX,Bq];have:=jS P;rcases tots_pc x with h|h<;>lia
theorem y8 {p:Nat}(hb:∀b∈S,b<256)(hp:p<S.length):fQ (S.take p) (pcAt S p)/\app (S.take p) (pcAt S p)=S.take (p+(pcAt S p).size):=by
 cases e:pcAt S p with
 |sg s=>
  have h:=wk hp e;refine⟨hb s (Cm h),?_⟩;show S.take p++[s]=S.take (p+1);rw [CQ,h];rfl
 |cp b z=>
  obtain⟨h1,h2,h3,h4,h5,h6,h7,_⟩:=wO hp e;refine⟨⟨h1,h3,by rw [Bv];lia,h4,h5⟩,?_⟩;exact lM h1 h2 h6 h7 z (Bh _)
theorem lS (hb:∀b∈S,b<256):∀{P:List Pc} {p q:Nat},Walk S p P q->GR (S.take p) P/\tR (S.take p) P=S.take q
 | [],p,q,h=>by cases h;exact⟨trivial,rfl⟩
 |x::P,p,q,⟨h1,h2,h3⟩=>by
  subst h2;obtain⟨g,e⟩:=y8 hb h1;obtain⟨i1,i2⟩:=lS hb h3;refine⟨⟨g,by rw [e];exact i1⟩,?_⟩;show tR (app (S.take p) (pcAt S p)) P=_;rw [e];exact i2
theorem dl:∀{P P':List Pc} {p q:Nat},Walk S p P q->Walk S p P' q->P=P'
 | [],[],_,_,_,_=>rfl
 | [],x::P',p,q,h,h'=>by
  cases h;have:=cz h';rw [Bq] at this;lia
 |x::P,[],p,q,h,h'=>by
  cases h';have:=cz h;rw [Bq] at this;lia
 |x::P,x'::P',p,q,⟨_,h2,h3⟩,⟨_,h2',h3'⟩=>by
  subst h2 h2';rw [dl h3 h3']
theorem d5 {T:List Nat}(hW:∀b∈W,b<256)(hT:∀b∈T,b<256)(h:Walk (W++T) W.length P (W++T).length):GR W P/\tR W P=W++T/\P.length≤T.length:=by
 have hb:∀b∈W++T,b<256:=λ b z=>by
  rcases Br.mp z with z|z
  ·exact hW b z
  ·exact hT b z
 obtain⟨h1,h2⟩:=lS hb h;rw [List.take_left] at h1 h2;rw [Cc] at h2;have:=cz h;rw [Bb] at this;exact⟨h1,h2,DS.mp this⟩
structure Wys (K:Frag)(mg:Str->Option Ib):Prop where
 V:Wins K mg
 pieces:∃f fd,FnD K mg "pieces_of" gm ["text","before"] f fd
 needahead:∃f fd,Fn K mg "need_ahead" dw ["before"] f fd
 needsigns:∃f fd,Fn K mg "need_signs" eM ["text","before"] f fd
section
variable {P:Ie}{w:Ig}{K:Frag}{mg:Str -> Option Ib}{base:Ij}{B D:HZ}
end
end K24
namespace SM
section
variable {α κ:Type}{blt:κ -> κ -> Bool}{kf:α -> κ}
structure Ord (blt:κ->κ->Bool):Prop where
 irr:∀a,blt a a=false
 tr:∀a b c,blt a b=true->blt b c=true->blt a c=true
 neg:∀a b c,blt a c=true->blt a b=true\/blt b c=true
 tot:∀a b,blt a b=false->blt b a=false->a=b
variable (O:Ord blt)
abbrev Le (blt:κ->κ->Bool)(kf:α->κ)(x y:α):Prop:=blt (kf y) (kf x)=false
abbrev Lt (blt:κ->κ->Bool)(kf:α->κ)(x y:α):Prop:=blt (kf x) (kf y)=true
include O
theorem le_of_lt {x y:α}(h:Lt blt kf x y):Le blt kf x y:=by
 cases e:blt (kf y) (kf x) with
 |false=>exact e
 |true=>have:=O.tr _ _ _ h e;rw [O.irr] at this;cases this
theorem le_trans {x y z:α}(h1:Le blt kf x y)(h2:Le blt kf y z):Le blt kf x z:=by
 cases e:blt (kf z) (kf x) with
 |false=>exact e
 |true=>
  rcases O.neg _ (kf y) _ e with h|h
  ·rw [show blt (kf z) (kf y)=false from h2] at h;cases h
  ·rw [show blt (kf y) (kf x)=false from h1] at h;cases h
theorem cB {x y z:α}(h1:Lt blt kf x y)(h2:Le blt kf y z):Lt blt kf x z:=by
 rcases O.neg _ (kf z) _ h1 with h|h
 ·exact h
 ·rw [show blt (kf z) (kf y)=false from h2] at h;cases h
theorem dS {x y z:α}(h1:Le blt kf x y)(h2:Lt blt kf y z):Lt blt kf x z:=by
 rcases O.neg _ (kf x) _ h2 with h|h
 ·rw [show blt (kf y) (kf x)=false from h1] at h;cases h
 ·exact h
omit O in
noncomputable def eqv (blt:κ->κ->Bool) (kf:α->κ) (k:κ) (x:α):Bool:= !blt (kf x) k&& !blt k (kf x)
omit O in
theorem eqv_iff {k:κ}{x:α}:eqv blt kf k x=true<->blt (kf x) k=false/\blt k (kf x)=false:=by unfold eqv;simp
omit O in
def Stb (blt:κ->κ->Bool)(kf:α->κ)(xs ys:List α):Prop:=∀k,xs.filter (eqv blt kf k)=ys.filter (eqv blt kf k)
omit O in
theorem Stb.refl (xs:List α):Stb blt kf xs xs:=λ _=>rfl
omit O in
theorem Stb.trans {xs ys zs:List α}(h:Stb blt kf xs ys)(g:Stb blt kf ys zs):Stb blt kf xs zs:=λ k=>(h k).trans (g k)
omit O in
theorem Stb.symm {xs ys:List α}(h:Stb blt kf xs ys):Stb blt kf ys xs:=λ k=>(h k).symm
omit O in
theorem Stb.app {xs ys us vs:List α}(h:Stb blt kf xs ys)(g:Stb blt kf us vs):Stb blt kf (xs++us) (ys++vs):=λ k=>by rw [BK,BK,h k,g k]
omit O in
theorem eqv_self (O:Ord blt)(x:α):eqv blt kf (kf x) x=true:=by unfold eqv;simp [O.irr]
theorem Stb.mem {xs ys:List α}(h:Stb blt kf xs ys){x:α}(hx:x∈xs):x∈ys:=by
 have:x∈xs.filter (eqv blt kf (kf x)):=DU.mpr ⟨hx,eqv_self O x⟩;rw [h] at this;exact(DU.mp this).1
theorem dj {X Y:List α}(h:∀y∈Y,∀x∈X,Lt blt kf y x):Stb blt kf (X++Y) (Y++X):=λ k=>by
 rw [BK,BK];by_cases hx:∃x∈X,eqv blt kf k x=true
 ·obtain⟨x,hx,ex⟩:=hx;have hy:Y.filter (eqv blt kf k)=[]:=Dw.mpr λ y hy ey=>by
   have l:=h y hy x hx;have ex:=eqv_iff.mp ex;have ey:=eqv_iff.mp ey;have:blt (kf y) k=true\/blt k (kf x)=true:=O.neg _ k _ l;rcases this with z|z
   ·rw [ey.1] at z;cases z
   ·rw [ex.2] at z;cases z
  rw [hy,Ct,CJ]
 ·have hx':X.filter (eqv blt kf k)=[]:=Dw.mpr λ x hx' ex=>hx ⟨x,hx',ex⟩
  rw [hx',Ct,CJ]
theorem stb_uniq:∀{xs ys:List α},xs.Pairwise (Le blt kf)->ys.Pairwise (Le blt kf)->Stb blt kf xs ys->xs=ys
 | [],[],_,_,_=>rfl
 | [],y::ys,_,_,h=>by have:=Stb.mem O h.symm (BF (a:=y) (l:=ys));cases this
 |x::xs,[],_,_,h=>by have:=Stb.mem O h (BF (a:=x) (l:=xs));cases this
 |x::xs,y::ys,hx,hy,h=>by
  have hxm:=Stb.mem O h (BF (a:=x) (l:=xs));have hym:=Stb.mem O h.symm (BF (a:=y) (l:=ys));have l1:Le blt kf x y:=by
   rcases BA.mp hym with rfl|z
   ·exact O.irr _
   ·exact(Dl.mp hx).1 y z
  have l2:Le blt kf y x:=by
   rcases BA.mp hxm with rfl|z
   ·exact O.irr _
   ·exact(Dl.mp hy).1 x z
  have ex:eqv blt kf (kf x) x=true:=eqv_self O x;have ey:eqv blt kf (kf x) y=true:=eqv_iff.mpr ⟨l1,l2⟩;have e:=h (kf x);rw [BE ex,BE ey] at e;obtain⟨rfl,_⟩:=F5 e;have ht:Stb blt kf xs ys:=λ k=>by
   have e:=h k;by_cases z:eqv blt kf k x=true
   ·rw [BE z,BE z] at e;exact(F5 e).2
   ·rw [BN z,BN z] at e;exact e
  rw [stb_uniq (Dl.mp hx).2 (Dl.mp hy).2 ht]
omit O in
structure Mg (blt:κ->κ->Bool)(kf:α->κ)(all out A B:List α):Prop where
 s1:(out++A).Pairwise (Le blt kf)
 s2:(out++B).Pairwise (Le blt kf)
 st:Stb blt kf (out++A++B) all
omit O in
theorem Mg.pushA {all out A B X:List α}(h:Mg blt kf all out (X++A) B)(hX:∀x∈X,∀y∈B,Le blt kf x y):Mg blt kf all (out++X) A B:=by
 refine⟨by rw [Be];exact h.s1,?_,by rw [Be out];exact h.st⟩;rw [Be,Bt];have h1:=Bt.mp h.s1;have h2:=Bt.mp h.s2;refine⟨h1.1,?_,λ a ha b hb=>?_⟩
 ·rw [Bt];exact⟨(Bt.mp h1.2.1).1,h2.2.1,hX⟩
 ·rcases Br.mp hb with z|z
  ·exact h1.2.2 a ha b (C4 _ z)
  ·exact h2.2.2 a ha b z
theorem Mg.pushB {all out A B Y:List α}(h:Mg blt kf all out A (Y++B))(hY:∀y∈Y,∀x∈A,Lt blt kf y x):Mg blt kf all (out++Y) A B:=by
 have h1:=Bt.mp h.s1;have h2:=Bt.mp h.s2;refine⟨?_,by rw [Be];exact h.s2,?_⟩
 ·rw [Be,Bt];refine⟨h1.1,?_,λ a ha b hb=>?_⟩
  ·rw [Bt];exact⟨(Bt.mp h2.2.1).1,h1.2.1,λ a ha b hb=>le_of_lt O (hY a ha b hb)⟩
  ·rcases Br.mp hb with z|z
   ·exact h2.2.2 a ha b (C4 _ z)
   ·exact h1.2.2 a ha b z
 ·refine Stb.trans ?_ h.st;have:Stb blt kf (out++(Y++A)++B) (out++(A++Y)++B):=(Stb.refl out|>.app (dj O hY).symm).app (Stb.refl B);rw [<-Be,<-Be] at this;rw [<-Be (out++A)];exact this
omit O in
theorem Mg.endA {all out A:List α}(h:Mg blt kf all out A []):(out++A).Pairwise (Le blt kf)/\Stb blt kf (out++A) all:=⟨h.s1,by have:=h.st;rwa [Ct] at this⟩
omit O in
theorem Mg.endB {all out B:List α}(h:Mg blt kf all out [] B):(out++B).Pairwise (Le blt kf)/\Stb blt kf (out++B) all:=⟨h.s2,by have:=h.st;rwa [Ct] at this⟩
omit O in
structure Mh (blt:κ->κ->Bool)(kf:α->κ)(all A B out:List α):Prop where
 s1:(A++out).Pairwise (Le blt kf)
 s2:(B++out).Pairwise (Le blt kf)
 st:Stb blt kf (A++B++out) all
omit O in
theorem Mh.pushB {all A B out Y:List α}(h:Mh blt kf all A (B++Y) out)(hY:∀x∈A,∀y∈Y,Le blt kf x y):Mh blt kf all A B (Y++out):=by
 refine⟨?_,by rw [<-Be];exact h.s2,by rw [<-Be,Be A];exact h.st⟩;have h1:=Bt.mp h.s1;have h2:=Bt.mp h.s2;rw [Bt];refine⟨h1.1,?_,λ a ha b hb=>?_⟩
 ·rw [Bt];exact⟨(Bt.mp h2.1).2.1,h2.2.1,λ a ha b hb=>h2.2.2 a (BB _ ha) b hb⟩
 ·rcases Br.mp hb with z|z
  ·exact hY a ha b z
  ·exact h1.2.2 a ha b z
theorem Mh.pushA {all A B out X:List α}(h:Mh blt kf all (A++X) B out)(hX:∀y∈B,∀x∈X,Lt blt kf y x):Mh blt kf all A B (X++out):=by
 have h1:=Bt.mp h.s1;have h2:=Bt.mp h.s2;refine⟨by rw [<-Be];exact h.s1,?_,?_⟩
 ·rw [Bt];refine⟨h2.1,?_,λ a ha b hb=>?_⟩
  ·rw [Bt];exact⟨(Bt.mp h1.1).2.1,h1.2.1,λ a ha b hb=>h1.2.2 a (BB _ ha) b hb⟩
  ·rcases Br.mp hb with z|z
   ·exact le_of_lt O (hX a ha b z)
   ·exact h2.2.2 a ha b z
 ·refine Stb.trans ?_ h.st;have:Stb blt kf (A++(B++X)++out) (A++(X++B)++out):=(Stb.refl A|>.app (dj O hX).symm).app (Stb.refl out);rw [<-Be,<-Be] at this;rw [<-Be (A++B)];exact this
omit O in
theorem Mh.endA {all A out:List α}(h:Mh blt kf all A [] out):(A++out).Pairwise (Le blt kf)/\Stb blt kf (A++out) all:=⟨h.s1,by have:=h.st;rwa [Ct] at this⟩
omit O in
theorem Mh.endB {all B out:List α}(h:Mh blt kf all [] B out):(B++out).Pairwise (Le blt kf)/\Stb blt kf (B++out) all:=⟨h.s2,h.st⟩
end
end SM
namespace SG
open PySem PyProof.Rows
variable {key:Keyed}{j l n r:Nat}{Q:Option Bool->SortSt->Prop}{left:Bool}{arr:Array Keyed}{st:SortSt}
noncomputable def fD:Bool->Keyed->Array Keyed->Nat->Nat->Nat->StateT SortSt Sem (Option Nat):=sortPriv%PySem.Builtin.gallop
def uo:Array Keyed->Array Keyed->StateT SortSt Sem (Array Keyed):=sortPriv%PySem.Builtin.mergeLo
def uq:Array Keyed->Array Keyed->StateT SortSt Sem (Array Keyed):=sortPriv%PySem.Builtin.mergeHi
noncomputable def kf (κ:KeyKind) (p:Keyed):κ.α:=(κ.keyOf p.1).getD κ.dflt
def Has (κ:KeyKind)(p:Keyed):Prop:=∃a,κ.keyOf p.1=some a
theorem ord (κ:KeyKind):SM.Ord κ.blt:=⟨κ.irrefl,κ.trans,κ.negTrans,κ.total⟩
section
variable {prog:Ie}{w:Ig}{A:Ii}{E:Ib -> Ic -> Prop}{s:Ic}{κ:KeyKind}
theorem iB (hO:κ.OneLt){x y:Keyed}(hk:kindOf st=oneType')(hx:Has κ x)(hy:Has κ y)(h:Q (some (κ.blt (kf κ x) (kf κ y))) st):
  wpS (model prog w) A E s (lt' x y) Q st:=by
 obtain⟨a,ha⟩:=hx;obtain⟨b,hb⟩:=hy;rw [lt'_eq];refine wpS_bind (wpS_get ?_);rw [hk,keyLt'_oneType];refine wpS_bind (wpS_lift (E2 (hO prog w A _ s x.1 y.1 a b ha hb ⟨rfl,?_⟩)));unfold kf at h;rw [ha,hb] at h;exact BG h
theorem wpS_elem {i:Nat}{Q:Keyed->SortSt->Prop}(hi:i<arr.size)(h:Q arr[i] st):wpS (model prog w) A E s (elem' arr i) Q st:=by
 rw [elem'_eq,getElem?_pos arr i hi];exact BG h
noncomputable def byd (κ:KeyKind) (left:Bool) (key:Keyed) (arr:Array Keyed) (j:Nat):Bool:=if left=true then κ.blt (KK κ arr j) (kf κ key) else !κ.blt (kf κ key) (KK κ arr j)
theorem de (h:j<arr.size):KK κ arr j=kf κ arr[j]:=by unfold KK;rw [getElem?_pos arr j h];rfl
noncomputable def yK (left:Bool) (key:Keyed) (arr:Array Keyed) (j:Nat):StateT SortSt Sem (Option Bool):=elem' arr j>>= λ y=>if left=true then lt' y key else lt' key y>>= λ o=>pure (o.map λ c=> !c)
theorem wf (hO:κ.OneLt)(hk:kindOf st=oneType')(hj:j<arr.size)(hkey:Has κ key)(ha:Has κ arr[j])
  (h:Q (some (byd κ left key arr j)) st):wpS (model prog w) A E s (yK left key arr j) Q st:=by
 unfold yK;unfold byd at h;rw [de hj] at h;refine wpS_bind (wpS_elem hj ?_);cases left with
 |true=>
  simp only [if_true] at h ⊢;exact iB hO hk ha hkey h
 |false=>
  simp only [Dk,FE] at h ⊢;exact wpS_bind (iB hO hk hkey ha (BG h))
theorem mid (h:l<r):l+(r-l)/2<r:=Dc (Nat.div_lt_self (EN h) (by decide))
theorem mz (h:l≤r)(k:r-l≤n-max 0 n):l=r:=BI h (Nat.sub_eq_zero_iff_le.1 (Nat.le_zero.1 (Ba k (Bz (EU n)))))
theorem dbl (a:Nat):a≤2*a:=Nat.le_mul_of_pos_left a (by decide)
theorem o6 {lo hi:Nat}{c:Nat->Bool}{f:Nat->(Option (Option Nat)×Nat×Nat)->StateT SortSt Sem (ForInStep (Option (Option Nat)×Nat×Nat))}{Q:(Option (Option Nat)×Nat×Nat)->SortSt->Prop}
  (h1:lo≤hi) (h2:hi≤n) (mono:∀i j,i≤j->j<n->c j=true->c i=true) (hlo:∀i,i<lo->c i=true) (hhi:∀i,hi≤i->i<n->c i=false)
  (fd:∀x lo hi,lo≥hi->wpS (model prog w) A E s (f x (none,lo,hi)) (λ r st'=>st'=st/\r=.done (none,lo,hi)) st)
  (fy:∀x lo hi,lo<hi->hi≤n->wpS (model prog w) A E s (f x (none,lo,hi)) (λ r st'=>st'=st/\r=if c (lo+(hi-lo)/2)=true then .yield (none,lo+(hi-lo)/2+1,hi) else .yield (none,lo,lo+(hi-lo)/2)) st)
  (h:∀k,k≤n->(∀i,i<k->c i=true)->(∀i,k≤i->i<n->c i=false)->Q (none,k,k) st):wpS (model prog w) A E s (forIn [:n] (none,lo,hi) f) Q st:=by
 refine DC (I:=λ x d st'=>st'=st/\∃lo hi,d=(none,lo,hi)/\lo≤hi/\hi≤n/\hi-lo≤n-x/\(∀i,i<lo->c i=true)/\(∀i,hi≤i->i<n->c i=false)) ?_ ?_ ⟨rfl,lo,hi,rfl,h1,h2,Ba (Ek _ _) h2,hlo,hhi⟩
 ·rintro x d st' _ hx ⟨rfl,lo,hi,rfl,h1,h2,h3,hlo,hhi⟩;by_cases hge:lo≥hi
  ·refine D2 (fd x lo hi hge) ?_;rintro r st' ⟨rfl,rfl⟩;have:lo=hi:=BI h1 hge;subst this;exact h lo h2 hlo hhi
  ·have hm:=mid (FJ hge);refine D2 (fy x lo hi (FJ hge) h2) ?_;rintro r st' ⟨rfl,rfl⟩;by_cases hc:c (lo+(hi-lo)/2)=true
   ·rw [BM hc];exact⟨rfl,_,_,rfl,hm,h2,Ba (Hf (Ew (B1 _ _)) _) (DY h3 1),λ i hi'=>mono i _ (CM hi') (Bf hm h2) hc,hhi⟩
   ·rw [Bu hc];refine⟨rfl,_,_,rfl,B1 _ _,Ba (B7 hm) h2,Ba (DY (DZ hm) _) (by rw [Hn];exact DY h3 1),hlo,λ i h1 h2=>?_⟩;cases e:c i with
    |false=>rfl
    |true=>exact absurd (mono _ i h1 h2 e) hc
 ·rintro d st' ⟨rfl,lo,hi,rfl,h1,h2,h3,hlo,hhi⟩;have:lo=hi:=mz h1 h3;subst this;exact h lo h2 hlo hhi
theorem dz (hO:κ.OneLt){base hint:Nat}{Q:Option Nat->SortSt->Prop}(hk:kindOf st=oneType')(hn:base+n≤arr.size)(hh:hint<n)(hkey:Has κ key)
  (hall:∀p∈arr.toList,Has κ p) (mono:∀i j,i≤j->j<n->byd κ left key arr (base+j)=true->byd κ left key arr (base+i)=true)
  (h:∀k,k≤n->(∀i,i<k->byd κ left key arr (base+i)=true)->(∀i,k≤i->i<n->byd κ left key arr (base+i)=false)->Q (some k) st):
  wpS (model prog w) A E s (fD left key arr base n hint) Q st:=by
 have hB:∀(i:Nat) {Q':Option Bool->SortSt->Prop},i<n->Q' (some (byd κ left key arr (base+i))) st->wpS (model prog w) A E s (yK left key arr (base+i)) Q' st:=λ i Q' hi hq=>
  wf hO hk (Bf (Em hi _) hn) hkey (hall _ Z6) hq
 refine wpS_bind (hB hint hh ?_);dsimp only;cases hr:byd κ left key arr (base+hint) with
 |true=>
  rw [BM rfl];refine wpS_bind (D2 (DC (I:=λ x d st'=>st'=st/\∃la of,d=(none,la,of)/\la<of/\x<of/\hint+la<n/\byd κ left key arr (base+(hint+la))=true)
   (Q:=λ d st'=>st'=st/\∃la of,d=(none,la,of)/\la<of/\hint+la<n/\byd κ left key arr (base+(hint+la))=true/\(n-hint≤of\/(hint+of<n/\byd κ left key arr (base+(hint+of))=false))) ?_ ?_ ⟨rfl,0,1,rfl,by exact Nat.one_pos,by exact Nat.one_pos,by assumption,hr⟩) ?_)
  ·rintro x d st' _ hx ⟨rfl,la,of,rfl,h1,h2,h3,h4⟩;dsimp only;by_cases hge:of≥n-hint
   ·rw [BM hge];exact BG ⟨rfl,la,of,rfl,h1,h3,h4,.inl hge⟩
   ·rw [Bu hge];refine wpS_bind (hB (hint+of) (by exact Dc (Nat.not_le.1 hge)) ?_);dsimp only;cases e:byd κ left key arr (base+(hint+of)) with
    |false=>
     rw [BM Z7];exact BG ⟨rfl,la,of,rfl,h1,h3,h4,.inr ⟨by exact Dc (Nat.not_le.1 hge),e⟩⟩
    |true=>
     rw [Bu Z9];exact BG ⟨rfl,of,2*of+1,rfl,D4 (dbl of),Nat.succ_lt_succ (Bf h2 (dbl of)),by exact Dc (Nat.not_le.1 hge),e⟩
  ·rintro d st' ⟨rfl,la,of,rfl,h1,h2,h3,h4⟩;exact⟨rfl,la,of,rfl,h1,h3,h4,.inl (Ba (Ek _ _) (B7 h2))⟩
  ·rintro d st' ⟨rfl,la,of,rfl,h1,h3,h4,h5⟩;dsimp only;refine wpS_bind (o6 (c:=λ i=>byd κ left key arr (base+i)) (Em (Nat.lt_min.2 ⟨h1,Nat.lt_sub_iff_add_lt'.2 h3⟩) _) (Ba (Ep (Di _ _) _) (Bz (Cf (B7 hh)))) mono (λ i hi=>mono i _ (show i≤hint+la by exact CM hi) h3 h4) (λ i h6 h7=>?_) ?_ ?_ λ k h6 h7 h8=>?_)
   ·rcases h5 with z|⟨z,z2⟩
    ·rw [DD z,Cf (B7 hh)] at h6;exact absurd h7 (Nat.not_lt.2 h6)
    ·cases e:byd κ left key arr (base+i) with
     |false=>rfl
     |true=>rw [mono _ i (by rw [CA (B7 (Nat.lt_sub_iff_add_lt'.2 z))] at h6;exact h6) h7 e] at z2;cases z2
   ·intro x lo hi hge;dsimp only;rw [BM hge];exact BG ⟨rfl,rfl⟩
   ·intro x lo hi Ir hhn;dsimp only;rw [Bu (by exact HH Ir)];refine wpS_bind (hB _ (Bf (mid Ir) hhn) ?_);dsimp only
    split
    ·exact BG ⟨rfl,rfl⟩
    ·exact BG ⟨rfl,rfl⟩
   ·exact BG (h k h6 h7 h8)
 |false=>
  rw [Bu Z9];refine wpS_bind (D2 (DC (I:=λ x d st'=>st'=st/\∃la of,d=(none,la,of)/\la<of/\x<of/\la≤hint/\byd κ left key arr (base+(hint-la))=false)
   (Q:=λ d st'=>st'=st/\∃la of,d=(none,la,of)/\la<of/\la≤hint/\byd κ left key arr (base+(hint-la))=false/\(hint+1≤of\/(of≤hint/\byd κ left key arr (base+(hint-of))=true))) ?_ ?_ ⟨rfl,0,1,rfl,by exact Nat.one_pos,by exact Nat.one_pos,by exact BX _,hr⟩) ?_)
  ·rintro x d st' _ hx ⟨rfl,la,of,rfl,h1,h2,h3,h4⟩;dsimp only;by_cases hge:of≥hint+1
   ·rw [BM hge];exact BG ⟨rfl,la,of,rfl,h1,h3,h4,.inl hge⟩
   ·rw [Bu hge];refine wpS_bind (hB (hint-of) (by exact C8 hh) ?_);dsimp only;cases e:byd κ left key arr (base+(hint-of)) with
    |true=>
     rw [BM Z7];exact BG ⟨rfl,la,of,rfl,h1,h3,h4,.inr ⟨by exact Cv hge,e⟩⟩
    |false=>
     rw [Bu Z9];exact BG ⟨rfl,of,2*of+1,rfl,D4 (dbl of),Nat.succ_lt_succ (Bf h2 (dbl of)),by exact Cv hge,e⟩
  ·rintro d st' ⟨rfl,la,of,rfl,h1,h2,h3,h4⟩;exact⟨rfl,la,of,rfl,h1,h3,h4,.inl (by exact Ba hh (B7 h2))⟩
  ·rintro d st' ⟨rfl,la,of,rfl,h1,h3,h4,h5⟩;dsimp only;refine wpS_bind (o6 (c:=λ i=>byd κ left key arr (base+i)) (Ba (Hf (Nat.lt_min.2 ⟨h1,D4 h3⟩) _) (Bz (Nat.add_sub_add_right ..))) (Ba (Ek _ _) (B7 hh)) mono (λ i hi=>?_) (λ i h6 h7=>?_) ?_ ?_ λ k h6 h7 h8=>?_)
   ·rcases h5 with z|⟨z,z2⟩
    ·rw [DD z,EU] at hi;cases hi
    ·exact mono i _ (show i≤hint-of by rw [CA (Nat.le_succ_of_le z),HL z] at hi;exact CM hi) (by exact C8 hh) z2
   ·cases e:byd κ left key arr (base+i) with
    |false=>rfl
    |true=>rw [mono _ i (show hint-la≤i by assumption) h7 e] at h4;cases h4
   ·intro x lo hi hge;dsimp only;rw [BM hge];exact BG ⟨rfl,rfl⟩
   ·intro x lo hi Ir hhn;dsimp only;rw [Bu (by exact HH Ir)];refine wpS_bind (hB _ (Bf (mid Ir) hhn) ?_);dsimp only
    split
    ·exact BG ⟨rfl,rfl⟩
    ·exact BG ⟨rfl,rfl⟩
   ·exact BG (h k h6 h7 h8)
end
end SG
namespace SG
open PySem PyProof.Rows SM
variable {key y:Keyed}{at' hint ia ib j k n na:Nat}{P S X:List Keyed}{Q:Option Nat->SortSt->Prop}{out xs:Array Keyed}{c:Prop}{st:SortSt}
section
variable {κ:KeyKind}{a b:Array Keyed}
abbrev LeK (κ:KeyKind):Keyed->Keyed->Prop:=Le κ.blt (kf κ)
abbrev LtK (κ:KeyKind):Keyed->Keyed->Prop:=Lt κ.blt (kf κ)
def bX (κ:KeyKind)(a b r:Array Keyed):Prop:=r.toList.Pairwise (LeK κ)/\Stb κ.blt (kf κ) r.toList (a.toList++b.toList)
def MA (κ:KeyKind)(a b out:Array Keyed)(ia ib:Nat):Prop:=Mg κ.blt (kf κ) (a.toList++b.toList) out.toList (a.toList.drop ia) (b.toList.drop ib)
theorem MA.sa (h:MA κ a b out ia ib):(a.toList.drop ia).Pairwise (LeK κ):=(Bt.mp h.s1).2.1
theorem MA.sb (h:MA κ a b out ia ib):(b.toList.drop ib).Pairwise (LeK κ):=(Bt.mp h.s2).2.1
theorem d8 {i:Nat}(h:i<xs.size):xs.toList.drop i=xs[i]::xs.toList.drop (i+1):=by
 have:i<xs.toList.length:=by simpa using h
 rw [Dr this];rfl
theorem gK {i:Nat}(h:i<xs.size)(s:(xs.toList.drop i).Pairwise (LeK κ))(hy:y∈xs.toList.drop i):LeK κ xs[i] y:=by
 rw [d8 h] at s hy;rcases BA.mp hy with rfl|z
 ·exact(ord κ).irr _
 ·exact(Dl.mp s).1 y z
theorem iq {i:Nat}:(xs.extract i (i+k)).toList=(xs.toList.drop i).take k:=by
 rw [GZ,FD];congr 1;exact DQ _ _
theorem d9 {i:Nat}:(xs.extract i xs.size).toList=xs.toList.drop i:=by
 rw [GZ,FD,BQ Z6]
theorem iP {i:Nat}:(xs.toList.drop i).take k++xs.toList.drop (i+k)=xs.toList.drop i:=by
 rw [<-EI,B8]
theorem MA.pushA (h:MA κ a b out ia ib)(hX:∀x∈(a.toList.drop ia).take k,∀y∈b.toList.drop ib,LeK κ x y):MA κ a b (out++a.extract ia (ia+k)) (ia+k) ib:=by
 unfold MA at h ⊢;rw [B5,iq];rw [<-iP (k:=k)] at h;exact Mg.pushA h hX
theorem MA.pushB (h:MA κ a b out ia ib)(hY:∀y∈(b.toList.drop ib).take k,∀x∈a.toList.drop ia,LtK κ y x):MA κ a b (out++b.extract ib (ib+k)) ia (ib+k):=by
 unfold MA at h ⊢;rw [B5,iq];rw [<-iP (xs:=b) (k:=k)] at h;exact Mg.pushB (ord κ) h hY
theorem my {i:Nat}(h:i<xs.size):out.push xs[i]=out++xs.extract i (i+1):=by
 apply Array.toList_inj.mp;rw [HC,B5,iq,d8 h];rfl
theorem MA.pushA1 (h:MA κ a b out ia ib)(hia:ia<a.size)(hib:ib<b.size)(hl:LeK κ a[ia] b[ib]):MA κ a b (out.push a[ia]) (ia+1) ib:=by
 rw [my hia];refine h.pushA λ x hx y hy=>?_
 rw [d8 hia] at hx;have:x=a[ia]:=by simpa using hx
 subst this;exact le_trans (ord κ) hl (gK hib h.sb hy)
theorem MA.pushB1 (h:MA κ a b out ia ib)(hia:ia<a.size)(hib:ib<b.size)(hl:LtK κ b[ib] a[ia]):MA κ a b (out.push b[ib]) ia (ib+1):=by
 rw [my hib];refine h.pushB λ y hy x hx=>?_
 rw [d8 hib] at hy;have:y=b[ib]:=by simpa using hy
 subst this;exact cB (ord κ) hl (gK hia h.sa hx)
theorem MA.doneB (h:MA κ a b out ia ib)(e:ib=b.size):bX κ a b (out++a.extract ia a.size++b.extract ib b.size):=by
 unfold MA at h;have e0:b.toList.drop ib=[]:=D3 (by simp [e]);rw [e0] at h;unfold bX;rw [B5,B5,d9,d9,e0,Ct];exact h.endA
theorem MA.doneA (h:MA κ a b out ia ib)(e:ia=a.size):bX κ a b (out++a.extract ia a.size++b.extract ib b.size):=by
 unfold MA at h;have e0:a.toList.drop ia=[]:=D3 (by simp [e]);rw [e0] at h;unfold bX;rw [B5,B5,d9,d9,e0,Ct];exact h.endB
theorem MA.last (h:MA κ a b out ia ib)(e:ia+1=a.size)(hl:∀y∈b.toList,∀x∈a.toList.drop (a.size-1),LtK κ y x):bX κ a b (out++b.extract ib b.size++a.extract ia a.size):=by
 have h2:=h.pushB (k:=b.size-ib) λ y hy x hx=>hl y (Cs (Cq hy)) x (by rw [show a.size-1=ia from DR (Fw e)];exact hx)
 unfold MA at h2;have e0:b.toList.drop (ib+(b.size-ib))=[]:=D3 (by simp;lia);rw [e0] at h2;have h3:=h2.endA;unfold bX;rw [B5] at h3;rw [B5,B5,d9,d9];have e1:(b.extract ib (ib+(b.size-ib))).toList=b.toList.drop ib:=by rw [iq,BQ Z6]
 rw [e1] at h3;exact h3
structure Stay (st st':SortSt):Prop where
 k:kindOf st'=kindOf st
 a:arrOf st'=arrOf st
 p:pendingOf st'=pendingOf st
 f:failedOf st'=failedOf st
theorem Stay.refl (st:SortSt):Stay st st:=⟨rfl,rfl,rfl,rfl⟩
end
section
variable {prog:Ie}{w:Ig}{A:Ii}{E:Ib -> Ic -> Prop}{s:Ic}{κ:KeyKind}{a b:Array Keyed}
def va:Nat->StateT SortSt Sem Unit:=sortPriv%PySem.Builtin.setMinGallop
theorem wpS_setMin {st0:SortSt}{g:Nat}{Q:Unit->SortSt->Prop}(h0:Stay st0 st)(h:∀st',Stay st0 st'->Q () st'):wpS (model prog w) A E s (va g) Q st:=by
 refine wpS_modify (h _ ⟨h0.k,h0.a,h0.p,h0.f⟩)
theorem wZ (h:xs.toList.Pairwise (LeK κ)){i:Nat}(hij:i≤j)(hj:j<xs.size):κ.blt (KK κ xs j) (KK κ xs i)=false:=by
 rw [de hj,de (B0 hij hj)];rcases Dm i j with z|z
 ·exact(Cw.mp h) i j (by simp;exact Fl z hj) (by simpa using hj) z
 ·have:i=j:=BI hij z;subst this;exact(ord κ).irr _
theorem oN (hO:κ.OneLt){i:Nat}(hk:kindOf st=oneType')(hs:xs.toList.Pairwise (LeK κ))(hall:∀p∈xs.toList,Has κ p)(hkey:Has κ key)(hn:i+n≤xs.size)(hh:hint<n)
  (h:∀k,k≤n->(∀j,j<k->κ.blt (kf κ key) (KK κ xs (i+j))=false)->(∀j,k≤j->j<n->κ.blt (kf κ key) (KK κ xs (i+j))=true)->Q (some k) st):wpS (model prog w) A E s (fD false key xs i n hint) Q st:=by
 have eb:∀j,byd κ false key xs j= !κ.blt (kf κ key) (KK κ xs j):=λ j=>rfl
 refine dz hO hk hn hh hkey hall (λ p q hpq hq hb=>?_) λ k h1 h2 h3=>h k h1 (λ j hj=>?_) λ j hj hj2=>?_
 ·rw [eb] at hb ⊢;have hb':κ.blt (kf κ key) (KK κ xs (i+q))=false:=by simpa using hb
  have:=wZ hs (show i+p≤i+q from DS.mpr hpq) (Bf (Em hq _) hn);cases e:κ.blt (kf κ key) (KK κ xs (i+p)) with
  |false=>rfl
  |true=>
   rcases κ.negTrans _ (KK κ xs (i+q)) _ e with z|z
   ·rw [hb'] at z;cases z
   ·rw [this] at z;cases z
 ·have:=h2 j hj;rw [eb] at this;simpa using this
 ·have:=h3 j hj hj2;rw [eb] at this;simpa using this
theorem pS (hO:κ.OneLt){i:Nat}(hk:kindOf st=oneType')(hs:xs.toList.Pairwise (LeK κ))(hall:∀p∈xs.toList,Has κ p)(hkey:Has κ key)(hn:i+n≤xs.size)(hh:hint<n)
  (h:∀k,k≤n->(∀j,j<k->κ.blt (KK κ xs (i+j)) (kf κ key)=true)->(∀j,k≤j->j<n->κ.blt (KK κ xs (i+j)) (kf κ key)=false)->Q (some k) st):wpS (model prog w) A E s (fD true key xs i n hint) Q st:=by
 have eb:∀j,byd κ true key xs j=κ.blt (KK κ xs j) (kf κ key):=λ j=>rfl
 refine dz hO hk hn hh hkey hall (λ p q hpq hq hb=>?_) λ k h1 h2 h3=>h k h1 (λ j hj=>?_) λ j hj hj2=>?_
 ·rw [eb] at hb ⊢;have:=wZ hs (show i+p≤i+q from DS.mpr hpq) (Bf (Em hq _) hn);rcases κ.negTrans _ (KK κ xs (i+p)) _ hb with z|z
  ·rw [this] at z;cases z
  ·exact z
 ·exact h2 j hj
 ·exact h3 j hj hj2
end
section
variable {M:Model}{A:Ii}{E:Ib -> Ic -> Prop}{s:Ic}{α:Type}
theorem aI  [Decidable c] {m1 m2:StateT SortSt Sem α}{Q:α->SortSt->Prop}(hc:c)(h:wpS M A E s m1 Q st):wpS M A E s (if c then m1 else m2) Q st:=by rw [BM hc];exact h
theorem aG  [Decidable c] {m1 m2:StateT SortSt Sem α}{Q:α->SortSt->Prop}(hc:¬c)(h:wpS M A E s m2 Q st):wpS M A E s (if c then m1 else m2) Q st:=by rw [Bu hc];exact h
theorem cu  [Decidable c] {m1 m2:StateT SortSt Sem α}{Q:α->SortSt->Prop}(h1:wpS M A E s m1 Q st)(h2:wpS M A E s m2 Q st):wpS M A E s (if c then m1 else m2) Q st:=by
 by_cases hc:c
 ·exact aI hc h1
 ·exact aG hc h2
end
theorem j8 {i:Nat}{x:Keyed}(h:x∈(xs.toList.drop i).take k):∃j,j<k/\∃hj:i+j<xs.size,x=xs[i+j]:=by
 obtain⟨j,hj⟩:=List.mem_iff_getElem?.mp h;rw [EB] at hj
 split at hj
 ·rename_i hjk
  rw [ED] at hj;have Ir:=(Bo.mp hj).1;refine⟨j,hjk,by simpa using Ir,?_⟩;have:=(Bo.mp hj).2;rw [<-this];rfl
 ·cases hj
section
variable {prog:Ie}{w:Ig}{A:Ii}{E:Ib -> Ic -> Prop}{s:Ic}{κ:KeyKind}{a b:Array Keyed}
def LoQ (κ:KeyKind)(a b:Array Keyed)(st0:SortSt){β:Type}(low:Nat)(pr:Array Keyed->Nat->Nat->β->Prop)(c:Option (Array Keyed)×β)(st:SortSt):Prop:=
 Stay st0 st/\((∃r,c.1=some r/\bX κ a b r)\/∃out ia ib,c.1=none/\pr out ia ib c.2/\MA κ a b out ia ib/\ia+1<a.size/\ib<b.size/\low≤ia+ib)
def LoP (κ:KeyKind)(a b:Array Keyed)(st:SortSt)(y:Nat){γ δ ε:Type}(r:ForInStep (Option (Array Keyed)×Array Keyed×Nat×Nat×γ×δ×ε))(st':SortSt):Prop:=match r with
 | .done c'=>LoQ κ a b st (y+1+1) (λ out ia ib d=>∃g p q,d=(out,ia,ib,g,p,q)) c' st'
 | .yield c'=>LoQ κ a b st (y+1+1) (λ out ia ib d=>∃g p q,d=(out,ia,ib,g,p,q)) c' st'/\c'.1=none
theorem lP (hO:κ.OneLt){Q:Array Keyed->SortSt->Prop}(hk:kindOf st=oneType')(ha:∀p∈a.toList,Has κ p)(hb:∀p∈b.toList,Has κ p)(sa:a.toList.Pairwise (LeK κ))(sb:b.toList.Pairwise (LeK κ))
  (na:0<a.size) (nb:0<b.size) (h0:LtK κ b[0] a[0]) (hl:∀y∈b.toList,∀x∈a.toList.drop (a.size-1),LtK κ y x) (h:∀r st',Stay st st'->bX κ a b r->Q r st'):
  wpS (model prog w) A E s (uo a b) Q st:=by
 refine wpS_bind (wpS_lift (Fa ⟨rfl,?_⟩))
 extract_lets total done lastOfA ia0 ib0
 refine wpS_bind (wpS_elem nb ?_)
 extract_lets out0
 have hM0:MA κ a b out0 0 1:=MA.pushB1 (out:=#[]) (ia:=0) (ib:=0) ⟨sa,sb,Stb.refl _⟩ na nb h0;by_cases e1:1=b.size
 ·refine aI (by simpa [ib0] using e1) (BG (h _ _ (Stay.refl _) (hM0.doneB e1)))
 refine aG (by simpa [ib0] using e1) ?_;by_cases e2:0+1=a.size
 ·refine aI (by simpa [ia0] using e2) (BG (h _ _ (Stay.refl _) (hM0.last e2 hl)))
 refine aG (by simpa [ia0] using e2) ?_;refine wpS_bind (wpS_get ?_)
 extract_lets mg0
 refine wpS_bind (D2 (DC (I:=λ y c st'=>LoQ κ a b st (y+1) (λ out ia ib d=>∃mg,d=(out,ia,ib,mg)) c st'/\c.1=none) (Q:=λ c st'=>Stay st st'/\∃r,c.1=some r/\bX κ a b r) ?_ ?_ ⟨⟨Stay.refl _,.inr ⟨out0,0,1,rfl,⟨_,rfl⟩,hM0,Cn na e2,Z5,Z5⟩⟩,rfl⟩) ?_)
 rotate_left
 ·rintro c st' ⟨⟨_,⟨r,e,_⟩|⟨out,ia,ib,_,_,_,q1,q2,q3⟩⟩,en⟩
  ·rw [en] at e;cases e
  ·exfalso;have:max 0 total=a.size+b.size:=by simp [total]
   lia
 ·rintro⟨c1,c2⟩ st' ⟨hst,r,e,hW⟩;dsimp only at e;subst e;exact BG (h r st' hst hW)
 rintro y c st1 _ hy ⟨⟨hst1,⟨r,e,_⟩|⟨out1,ia1,ib1,_,⟨mg1,e2⟩,hM1,q1,q2,q3⟩⟩,en⟩
 ·rw [en] at e;cases e
 obtain⟨c1,c2⟩:=c;dsimp only at en e2;subst en e2;refine wpS_bind (D2 (DC (I:=λ x c st'=>LoQ κ a b st (y+1+x) (λ out ia ib d=>∃p q,d=(out,ia,ib,p,q)) c st'/\c.1=none) (Q:=λ c st'=>LoQ κ a b st (y+1+1) (λ out ia ib d=>∃p q,d=(out,ia,ib,p,q)) c st') ?_ ?_ ⟨⟨hst1,.inr ⟨out1,ia1,ib1,rfl,⟨_,_,rfl⟩,hM1,q1,q2,q3⟩⟩,rfl⟩) ?_)
 ·rintro x c st2 _ hx ⟨⟨hst2,⟨r,e,_⟩|⟨out2,ia2,ib2,_,⟨p2,r2,e2⟩,hM2,t1,t2,t3⟩⟩,en⟩
  ·rw [en] at e;cases e
  obtain⟨c1,c2⟩:=c;dsimp only at en e2;subst en e2;refine wpS_bind (wpS_elem t2 (wpS_bind (wpS_elem (show ia2<a.size from Cz t1) (wpS_bind (iB hO (hst2.k.trans hk) (hb _ Z6) (ha _ Z6) ?_)))));cases e:κ.blt (kf κ b[ib2]) (kf κ a[ia2]) with
  |true=>
   have hM':=hM2.pushB1 Z4 t2 e;refine aI rfl (wpS_bind (wpS_elem t2 ?_));by_cases hz:ib2+1=b.size
   ·refine aI (B9.mpr hz) (BG ⟨hst2,.inl ⟨_,rfl,hM'.doneB hz⟩⟩)
   ·refine aG (λ z=>hz (B9.mp z)) (cu (BG ⟨hst2,.inr ⟨_,ia2,ib2+1,rfl,⟨_,_,rfl⟩,hM', ‹_›,Cn t2 hz,Z5⟩⟩) (BG ⟨⟨hst2,.inr ⟨_,ia2,ib2+1,rfl,⟨_,_,rfl⟩,hM',CU t1,Cn t2 hz,Ew t3⟩⟩,rfl⟩))
  |false=>
   have hM':=hM2.pushA1 Z4 t2 e;refine aG Z9 (wpS_bind (wpS_elem (show ia2<a.size from Z4) ?_));by_cases hz:ia2+1+1=a.size
   ·refine aI (B9.mpr hz) (BG ⟨hst2,.inl ⟨_,rfl,hM'.last hz hl⟩⟩)
   ·refine aG (λ z=>hz (B9.mp z)) (cu (BG ⟨hst2,.inr ⟨_,ia2+1,ib2,rfl,⟨_,_,rfl⟩,hM',Cn t1 hz, ‹_›,Z5⟩⟩) (BG ⟨⟨hst2,.inr ⟨_,ia2+1,ib2,rfl,⟨_,_,rfl⟩,hM',Cn t1 hz,CU t2,Z5⟩⟩,rfl⟩))
 ·rintro c st' ⟨⟨_,⟨r,e,_⟩|⟨out,ia,ib,_,_,_,t1,t2,t3⟩⟩,en⟩
  ·rw [en] at e;cases e
  ·exfalso;have:max 0 total=a.size+b.size:=by simp [total]
   lia
 rintro⟨c1,c2⟩ st2 ⟨hst2,⟨r,e,hW⟩|⟨out2,ia2,ib2,e,⟨p2,r2,e2⟩,hM2,t1,t2,t3⟩⟩
 ·dsimp only at e;subst e;exact BG ⟨hst2,r,rfl,hW⟩
 dsimp only at e e2;subst e e2;refine wpS_bind (wpS_lift (Fa ⟨rfl,?_⟩));refine wpS_bind (D2 (DC (I:=λ x c st'=>LoQ κ a b st (y+1+1) (λ out ia ib d=>∃g p q,d=(out,ia,ib,g,p,q)) c st'/\c.1=none) (Q:=λ c st'=>LoQ κ a b st (y+1+1) (λ out ia ib d=>∃g p q,d=(out,ia,ib,g,p,q)) c st') ?_ ?_ ⟨⟨hst2,.inr ⟨out2,ia2,ib2,rfl,⟨_,_,_,rfl⟩,hM2,t1,t2,t3⟩⟩,rfl⟩) ?_)
 ·clear hM2 t1 t2 t3 hM1 q1 q2 q3;rintro x c st3 _ hx ⟨⟨hst3,⟨r,e,_⟩|⟨out3,ia3,ib3,_,⟨g3,p3,r3,e2⟩,hM3,t1,t2,t3⟩⟩,en⟩
  ·rw [en] at e;cases e
  obtain⟨c1,c2⟩:=c;dsimp only at en e2;subst en e2
  extract_lets v1 v2 v3 v4 v5 v6 v7 v8 v9 v10 v11 v12 jp
  have hjp:∀g,wpS (model prog w) A E s (jp () g) (LoP κ a b st y) st3:=by
   intro g;refine wpS_bind (wpS_setMin hst3 λ st4 hst4=>wpS_bind (wpS_elem t2 (wpS_bind (oN hO (hst4.k.trans hk) sa ha (hb _ Z6) (Bz (Cf (B7 (Cz t1)))) (show 0<a.size-ia3 from Nat.zero_lt_sub_of_lt (B7 t1)) λ k f1 f2 f3=>?_))));have f1':k≤a.size-ia3:=f1;have hM4:MA κ a b (out3++a.extract ia3 (ia3+k)) (ia3+k) ib3:=hM3.pushA λ x hx y hy=>by
    obtain⟨j,hj,hj2,rfl⟩:=j8 hx;have:=f2 j hj;rw [de hj2] at this;exact le_trans (ord κ) this (gK t2 hM3.sb hy)
   dsimp-zeta only
   extract_lets u1 jp2
   have hjp2:∀out ia,MA κ a b out ia ib3->∀hia:ia+1<a.size,LtK κ b[ib3] a[ia]->y+1+1≤ia+ib3->wpS (model prog w) A E s (jp2 () out ia) (LoP κ a b st y) st4:=by
    intro out ia hM hia Ir hlow;refine wpS_bind (wpS_elem t2 ?_);have hM5:=hM.pushB1 (Cz hia) t2 Ir;by_cases hz:ib3+1=b.size
    ·refine aI (B9.mpr hz) (BG ⟨hst4,.inl ⟨_,rfl,hM5.doneB hz⟩⟩)
    refine aG (λ z=>hz (B9.mp z)) ?_;have t2':=Cn t2 hz;refine wpS_bind (wpS_elem (show ia<a.size from Cz hia) (wpS_bind (pS hO (hst4.k.trans hk) sb hb (ha _ Z6) (Bz (Cf t2)) (EN t2') λ k2 d1 d2 d3=>?_)));have d1':k2≤b.size-(ib3+1):=d1;dsimp-zeta only
    extract_lets w1 w2 jp3
    have hjp3:∀out ib,MA κ a b out ia ib->∀hib:ib<b.size,LeK κ a[ia] b[ib]->y+1+1≤ia+ib->wpS (model prog w) A E s (jp3 () out ib) (LoP κ a b st y) st4:=by
     intro out ib hM hib hle hlow;refine wpS_bind (wpS_elem (show ia<a.size from Cz hia) ?_);have hM6:=hM.pushA1 (Cz hia) hib hle;have hw:=Ba hlow (CZ (Es ia) ib);by_cases hz:ia+1+1=a.size
     ·refine aI (B9.mpr hz) (BG ⟨hst4,.inl ⟨_,rfl,hM6.last hz hl⟩⟩)
     refine aG (λ z=>hz (B9.mp z)) (cu (BG ⟨hst4,.inr ⟨_,ia+1,ib,rfl,⟨_,_,_,rfl⟩,hM6,Cn hia hz,hib,hw⟩⟩) (BG ⟨⟨hst4,.inr ⟨_,ia+1,ib,rfl,⟨_,_,_,rfl⟩,hM6,Cn hia hz,hib,hw⟩⟩,rfl⟩))
    clear_value jp3
    by_cases hk0:k2>0
    ·refine aI hk0 ?_;have hM7:=hM5.pushB (k:=k2) λ y hy x hx=>by
      obtain⟨j,hj,hj2,rfl⟩:=j8 hy;have:=d2 j hj;rw [de hj2] at this;exact cB (ord κ) this (gK (show ia<a.size from Cz hia) hM5.sa hx)
     by_cases hz2:ib3+1+k2=b.size
     ·refine aI (B9.mpr hz2) (BG ⟨hst4,.inl ⟨_,rfl,hM7.doneB hz2⟩⟩)
     ·have hb2:=Cn (GA t2 d1') hz2;refine aG (λ z=>hz2 (B9.mp z)) (hjp3 _ (ib3+1+k2) hM7 hb2 ?_ (Ba hlow (Ep (Ba (Es _) (B1 _ _)) _)));have:=d3 k2 (Bh _) (Nat.lt_sub_iff_add_lt'.2 hb2);rw [de hb2] at this;exact this
    ·refine aG hk0 (hjp3 _ (ib3+1) hM5 t2' ?_ (Ba hlow (Ep (Es _) _)));have:=d3 0 (Cv hk0) (EN t2');rw [de (show ib3+1+0<b.size from t2')] at this;exact this
   clear_value jp2
   by_cases hk0:k>0
   ·refine aI hk0 ?_;by_cases hz:ia3+k+1=a.size
    ·refine aI (B9.mpr hz) (BG ⟨hst4,.inl ⟨_,rfl,hM4.last hz hl⟩⟩)
    refine aG (λ z=>hz (B9.mp z)) ?_;by_cases hz2:ia3+k=a.size
    ·refine aI (B9.mpr hz2) (BG ⟨hst4,.inl ⟨_,rfl,hM4.doneA hz2⟩⟩)
    ·have ha2:=Cn (GA (B7 (Cz t1)) f1') hz2;refine aG (λ z=>hz2 (B9.mp z)) (hjp2 _ (ia3+k) hM4 (Cn ha2 hz) ?_ (Ba t3 (CZ (B1 _ _) _)));have:=f3 k (Bh _) (Nat.lt_sub_iff_add_lt'.2 ha2);rw [de ha2] at this;exact this
   ·refine aG hk0 (hjp2 _ ia3 hM3 t1 ?_ t3);have:=f3 0 (Cv hk0) (EN (Cz t1));rw [de (show ia3+0<a.size from Cz t1)] at this;exact this
  clear_value jp
  exact cu (D2 (hjp _) λ r st' q=>by cases r<;>exact q) (D2 (hjp _) λ r st' q=>by cases r<;>exact q)
 ·rintro c st' ⟨q,_⟩;exact q
 rintro⟨c1,c2⟩ st3 ⟨hst3,⟨r,e,hW⟩|⟨out3,ia3,ib3,e,⟨g3,p3,r3,e2⟩,hM3,u1,u2,u3⟩⟩
 ·dsimp only at e;subst e;exact BG ⟨hst3,r,rfl,hW⟩
 dsimp only at e e2;subst e e2;exact wpS_bind (wpS_setMin hst3 λ st4 hst4=>BG ⟨⟨hst4,.inr ⟨out3,ia3,ib3,rfl,⟨_,rfl⟩,hM3,u1,u2,u3⟩⟩,rfl⟩)
end
section
variable {κ:KeyKind}{a b:Array Keyed}
def MH (κ:KeyKind)(a b out:Array Keyed)(na nb:Nat):Prop:=Mh κ.blt (kf κ) (a.toList++b.toList) (a.toList.take na) (b.toList.take nb) out.toList.reverse
theorem MH.sa {nb:Nat}(h:MH κ a b out na nb):(a.toList.take na).Pairwise (LeK κ):=(Bt.mp h.s1).1
theorem MH.sb {nb:Nat}(h:MH κ a b out na nb):(b.toList.take nb).Pairwise (LeK κ):=(Bt.mp h.s2).1
theorem oF {i:Nat}(h:i<xs.size):xs.toList.take (i+1)=xs.toList.take i++[xs[i]]:=by
 have h':i<xs.toList.length:=by simpa using h
 rw [CQ,Bg h'];rfl
theorem gz {i:Nat}(h:i<xs.size)(s:(xs.toList.take (i+1)).Pairwise (LeK κ))(hy:y∈xs.toList.take (i+1)):LeK κ y xs[i]:=by
 rw [oF h] at s hy;rcases Br.mp hy with z|z
 ·exact(Bt.mp s).2.2 y z _ Z6
 ·have:y=xs[i]:=by simpa using z
  subst this;exact(ord κ).irr _
theorem cH {i:Nat}(h:i≤n):(xs.extract i n).toList=(xs.toList.drop i).take (n-i):=by
 rw [GZ,FD]
theorem kX {i:Nat}(h:i≤n):xs.toList.take i++(xs.extract i n).toList=xs.toList.take n:=by
 rw [cH h];have:n=i+(n-i):=DR (Cf h);rw(config:={occs:=.pos [2]}) [this];rw [F1]
theorem gC {i:Nat}{x:Keyed}(hin:i≤n)(hn:n≤xs.size)(h:x∈(xs.extract i n).toList):∃j,i≤j/\∃hj:j<n,x=xs[j]:=by
 rw [cH hin] at h;obtain⟨j,hj,hj2,rfl⟩:=j8 h;exact⟨i+j,B1 _ _,Dc hj,rfl⟩
theorem MH.pushA {nb:Nat}(h:MH κ a b out na nb)(hat:at'≤na)(hX:∀y∈b.toList.take nb,∀x∈(a.extract at' na).toList,LtK κ y x):MH κ a b (out++(a.extract at' na).reverse) at' nb:=by
 unfold MH at h ⊢;rw [<-kX hat] at h;rw [B5,Eu,D1,DH];exact Mh.pushA (ord κ) h hX
theorem MH.pushB {nb:Nat}(h:MH κ a b out na nb)(hat:at'≤nb)(hY:∀x∈a.toList.take na,∀y∈(b.extract at' nb).toList,LeK κ x y):MH κ a b (out++(b.extract at' nb).reverse) na at':=by
 unfold MH at h ⊢;rw [<-kX (xs:=b) hat] at h;rw [B5,Eu,D1,DH];exact Mh.pushB h hY
theorem mi {i:Nat}(h:i<xs.size):out.push xs[i]=out++(xs.extract i (i+1)).reverse:=by
 apply Array.toList_inj.mp;rw [HC,B5,D1,iq,d8 h];rfl
theorem MH.pushA1 {i:Nat}(h:MH κ a b out (i+1) (j+1))(hi:i<a.size)(hj:j<b.size)(hl:LtK κ b[j] a[i]):MH κ a b (out.push a[i]) i (j+1):=by
 rw [mi hi];refine h.pushA Z5 λ y hy x hx=>?_
 obtain⟨q,q1,q2,rfl⟩:=gC (B1 _ 1) (‹_›) hx;have:q=i:=Nat.eq_of_le_of_lt_succ q1 q2;subst this;exact dS (ord κ) (gz hj h.sb hy) hl
theorem MH.pushB1 {i:Nat}(h:MH κ a b out (i+1) (j+1))(hi:i<a.size)(hj:j<b.size)(hl:LeK κ a[i] b[j]):MH κ a b (out.push b[j]) (i+1) j:=by
 rw [mi hj];refine h.pushB (B1 _ 1) λ x hx y hy=>?_
 obtain⟨q,q1,q2,rfl⟩:=gC (B1 _ 1) (‹_›) hy;have:q=j:=Z5;subst this;exact le_trans (ord κ) (gz hi h.sa hx) hl
theorem MH.doneA {nb:Nat}(h:MH κ a b out na nb)(e:na=0):bX κ a b (a.extract 0 na++b.extract 0 nb++out.reverse):=by
 subst e;unfold MH at h;rw [EH] at h;unfold bX;rw [B5,B5,D1,cH (BX _),cH (BX _),D7,D7,ES,ES,EH,CJ];exact h.endB
theorem MH.doneB {nb:Nat}(h:MH κ a b out na nb)(e:nb=0):bX κ a b (a.extract 0 na++b.extract 0 nb++out.reverse):=by
 subst e;unfold MH at h;rw [EH] at h;unfold bX;rw [B5,B5,D1,cH (BX _),cH (BX _),D7,D7,ES,ES,EH,Ct];exact h.endA
theorem MH.first {nb:Nat}(h:MH κ a b out na nb)(e:nb=1)(hf:∀y∈b.toList.take 1,∀x∈a.toList,LtK κ y x):bX κ a b (b.extract 0 nb++a.extract 0 na++out.reverse):=by
 subst e;have h2:=h.pushA (at':=0) (BX _) λ y hy x hx=>hf y hy x (by rw [cH (BX _),D7] at hx;exact Cq hx)
 unfold MH at h2;rw [EH,B5,Eu,D1,DH] at h2;have h3:=h2.endB;unfold bX;rw [B5,B5,D1,Be];rw [cH (xs:=b) (BX _),D7,ES];exact h3
end
section
variable {prog:Ie}{w:Ig}{A:Ii}{E:Ib -> Ic -> Prop}{s:Ic}{κ:KeyKind}{a b:Array Keyed}
def HiQ (κ:KeyKind)(a b:Array Keyed)(st0:SortSt){β:Type}(low:Nat)(pr:Array Keyed->Nat->Nat->β->Prop)(c:Option (Array Keyed)×β)(st:SortSt):Prop:=
 Stay st0 st/\((∃r,c.1=some r/\bX κ a b r)\/∃out i j,c.1=none/\pr out (i+1) (j+1) c.2/\MH κ a b out (i+1) (j+1)/\i<a.size/\j<b.size/\0<j/\i+1+(j+1)+low≤a.size+b.size)
def HiP (κ:KeyKind)(a b:Array Keyed)(st:SortSt)(y:Nat){γ δ ε:Type}(r:ForInStep (Option (Array Keyed)×Nat×Nat×Array Keyed×γ×δ×ε))(st':SortSt):Prop:=match r with
 | .done c'=>HiQ κ a b st (y+1+1) (λ out ia ib d=>∃g p q,d=(ia,ib,out,g,p,q)) c' st'
 | .yield c'=>HiQ κ a b st (y+1+1) (λ out ia ib d=>∃g p q,d=(ia,ib,out,g,p,q)) c' st'/\c'.1=none
theorem k8 (hO:κ.OneLt){Q:Array Keyed->SortSt->Prop}(hk:kindOf st=oneType')(ha:∀p∈a.toList,Has κ p)(hb:∀p∈b.toList,Has κ p)(sa:a.toList.Pairwise (LeK κ))(sb:b.toList.Pairwise (LeK κ))
  (na:0<a.size) (nb:0<b.size) (hf:∀y∈b.toList.take 1,∀x∈a.toList,LtK κ y x) (hl:LtK κ b[b.size-1] a[a.size-1]) (h:∀r st',Stay st st'->bX κ a b r->Q r st'):
  wpS (model prog w) A E s (uq a b) Q st:=by
 obtain⟨ma,hma⟩:∃ma,a.size=ma+1:=⟨a.size-1,(Ez na).mp rfl⟩;obtain⟨mb,hmb⟩:∃mb,b.size=mb+1:=⟨b.size-1,Z5⟩;have Ir:LtK κ (b[mb]'(CU (Bz hmb.symm))) (a[ma]'(CU (Bz hma.symm))):=by
  have e1:b.size-1=mb:=DR (Fw hmb.symm);have e2:a.size-1=ma:=DR (Fw hma.symm);simp only [e1,e2] at hl;exact hl
 have hM00:MH κ a b #[] (ma+1) (mb+1):=by
  unfold MH;have e1:a.toList.take (ma+1)=a.toList:=BQ (by simp;exact Bz hma);have e2:b.toList.take (mb+1)=b.toList:=BQ (by simp;exact Bz hmb);rw [e1,e2];exact⟨by simpa using sa,by simpa using sb,by simpa using Stb.refl _⟩
 have hM0:MH κ a b #[a[ma]'(CU (Bz hma.symm))] ma (mb+1):=hM00.pushA1 (CU (Bz hma.symm)) (CU (Bz hmb.symm)) Ir;refine wpS_bind (wpS_lift (Fa ⟨rfl,?_⟩))
 extract_lets total done firstOfB na0 nb0
 have ena:na0=ma:=by show a.size-1=ma;exact DR (Fw hma.symm)
 have enb:nb0=mb+1:=hmb
 clear_value na0 nb0
 subst ena enb;refine wpS_bind (wpS_elem (show na0<a.size from CU (Bz hma.symm)) ?_)
 extract_lets out0
 by_cases e1:na0=0
 ·refine aI (B9.mpr e1) (BG (h _ _ (Stay.refl _) (hM0.doneA e1)))
 refine aG (λ z=>e1 (B9.mp z)) ?_;by_cases e2:mb+1=1
 ·refine aI (B9.mpr e2) (BG (h _ _ (Stay.refl _) (hM0.first e2 hf)))
 refine aG (λ z=>e2 (B9.mp z)) ?_;obtain⟨i0,rfl⟩:∃i0,na0=i0+1:=⟨na0-1,DR (DW e1)⟩;refine wpS_bind (wpS_get ?_)
 extract_lets mg0
 refine wpS_bind (D2 (DC (I:=λ y c st'=>HiQ κ a b st (y+1) (λ out ia ib d=>∃mg,d=(ia,ib,out,mg)) c st'/\c.1=none) (Q:=λ c st'=>Stay st st'/\∃r,c.1=some r/\bX κ a b r) ?_ ?_ ⟨⟨Stay.refl _,.inr ⟨out0,i0,mb,rfl,⟨_,rfl⟩,hM0,Z5,CU (Bz hmb.symm),Z5,Z5⟩⟩,rfl⟩) ?_)
 rotate_left
 ·rintro c st' ⟨⟨_,⟨r,e,_⟩|⟨out,i,j,_,_,_,q1,q2,q3,q4⟩⟩,en⟩
  ·rw [en] at e;cases e
  ·exfalso;have:max 0 total=a.size+b.size:=by simp [total]
   lia
 ·rintro⟨c1,c2⟩ st' ⟨hst,r,e,hW⟩;dsimp only at e;subst e;exact BG (h r st' hst hW)
 clear hM0 hM00;rintro y c st1 _ hy ⟨⟨hst1,⟨r,e,_⟩|⟨out1,i1,j1,_,⟨mg1,e2⟩,hM1,q1,q2,q3,q4⟩⟩,en⟩
 ·rw [en] at e;cases e
 obtain⟨c1,c2⟩:=c;dsimp only at en e2;subst en e2;refine wpS_bind (D2 (DC (I:=λ x c st'=>HiQ κ a b st (y+1+x) (λ out ia ib d=>∃p q,d=(ia,ib,out,p,q)) c st'/\c.1=none) (Q:=λ c st'=>HiQ κ a b st (y+1+1) (λ out ia ib d=>∃p q,d=(ia,ib,out,p,q)) c st') ?_ ?_ ⟨⟨hst1,.inr ⟨out1,i1,j1,rfl,⟨_,_,rfl⟩,hM1,q1,q2,q3,q4⟩⟩,rfl⟩) ?_)
 ·rintro x c st2 _ hx ⟨⟨hst2,⟨r,e,_⟩|⟨out2,i2,j2,_,⟨p2,r2,e2⟩,hM2,t1,t2,t3,t4⟩⟩,en⟩
  ·rw [en] at e;cases e
  obtain⟨c1,c2⟩:=c;dsimp only at en e2;subst en e2;refine wpS_bind (wpS_elem (i:=j2) t2 (wpS_bind (wpS_elem (i:=i2) t1 (wpS_bind (iB hO (hst2.k.trans hk) (hb _ Z6) (ha _ Z6) ?_)))));cases e:κ.blt (kf κ b[j2]) (kf κ a[i2]) with
  |true=>
   have hM':=hM2.pushA1 t1 t2 e;refine aI rfl (wpS_bind (wpS_elem (i:=i2) t1 ?_));by_cases hz:i2=0
   ·refine aI (B9.mpr hz) (BG ⟨hst2,.inl ⟨_,rfl,hM'.doneA hz⟩⟩)
   ·obtain⟨i3,rfl⟩:∃i3,i2=i3+1:=⟨i2-1,DR (DW hz)⟩;refine aG (λ z=>hz (B9.mp z)) (cu (BG ⟨hst2,.inr ⟨_,i3,j2,rfl,⟨_,_,rfl⟩,hM',Cz t1, ‹_›, ‹_›,Z5⟩⟩) (BG ⟨⟨hst2,.inr ⟨_,i3,j2,rfl,⟨_,_,rfl⟩,hM',Cz t1,Z5,Hy t3,Z5⟩⟩,rfl⟩))
  |false=>
   have hM':=hM2.pushB1 t1 t2 e;refine aG Z9 (wpS_bind (wpS_elem (i:=j2) t2 ?_));by_cases hz:j2=1
   ·refine aI (B9.mpr hz) (BG ⟨hst2,.inl ⟨_,rfl,hM'.first hz hf⟩⟩)
   ·obtain⟨j3,rfl⟩:∃j3,j2=j3+1:=⟨j2-1,(Ez t3).mp rfl⟩;refine aG (λ z=>hz (B9.mp z)) (cu (BG ⟨hst2,.inr ⟨_,i2,j3,rfl,⟨_,_,rfl⟩,hM', ‹_›,Cz t2,Z5,Z5⟩⟩) (BG ⟨⟨hst2,.inr ⟨_,i2,j3,rfl,⟨_,_,rfl⟩,hM',Z5,Cz t2,Z4,Z5⟩⟩,rfl⟩))
 ·rintro c st' ⟨⟨_,⟨r,e,_⟩|⟨out,i,j,_,_,_,t1,t2,t3,t4⟩⟩,en⟩
  ·rw [en] at e;cases e
  ·exfalso;have:max 0 total=a.size+b.size:=by simp [total]
   lia
 rintro⟨c1,c2⟩ st2 ⟨hst2,⟨r,e,hW⟩|⟨out2,i2,j2,e,⟨p2,r2,e2⟩,hM2,t1,t2,t3,t4⟩⟩
 ·dsimp only at e;subst e;exact BG ⟨hst2,r,rfl,hW⟩
 dsimp only at e e2;subst e e2;refine wpS_bind (wpS_lift (Fa ⟨rfl,?_⟩));refine wpS_bind (D2 (DC (I:=λ x c st'=>HiQ κ a b st (y+1+1) (λ out ia ib d=>∃g p q,d=(ia,ib,out,g,p,q)) c st'/\c.1=none) (Q:=λ c st'=>HiQ κ a b st (y+1+1) (λ out ia ib d=>∃g p q,d=(ia,ib,out,g,p,q)) c st') ?_ ?_ ⟨⟨hst2,.inr ⟨out2,i2,j2,rfl,⟨_,_,_,rfl⟩,hM2,t1,t2,t3,t4⟩⟩,rfl⟩) ?_)
 ·clear hM2 t1 t2 t3 t4 hM1 q1 q2 q3 q4;rintro x c st3 _ hx ⟨⟨hst3,⟨r,e,_⟩|⟨out3,i3,j3,_,⟨g3,p3,r3,e2⟩,hM3,t1,t2,t3,t4⟩⟩,en⟩
  ·rw [en] at e;cases e
  obtain⟨c1,c2⟩:=c;dsimp only at en e2;subst en e2
  extract_lets v1 v2 v3 v4 v5 v6 v7 v8 v9 v10 v11 v12 jp
  have hjp:∀g,wpS (model prog w) A E s (jp () g) (HiP κ a b st y) st3:=by
   intro g;refine wpS_bind (wpS_setMin hst3 λ st4 hst4=>wpS_bind (wpS_elem (i:=j3) t2 (wpS_bind (oN (i:=0) (n:=i3+1) (hint:=i3) hO (hst4.k.trans hk) sa ha (hb _ Z6) (Ba (Bz (C5 _)) t1) (Gr _) λ k f1 f2 f3=>?_))));have hM4:MH κ a b (out3++(a.extract k (i3+1)).reverse) k (j3+1):=hM3.pushA f1 λ y hy x hx=>by
    obtain⟨q,q1,q2,rfl⟩:=gC f1 (‹_›) hx;have:=f3 q q1 (‹_›);rw [C5,de (Bf q2 t1)] at this;exact dS (ord κ) (gz t2 hM3.sb hy) this
   dsimp-zeta only
   extract_lets u1 u2 jp2
   have hjp2:∀out i,MH κ a b out (i+1) (j3+1)->∀hi:i<a.size,LeK κ a[i] b[j3]->i+1+(j3+1)+(y+1+1)≤a.size+b.size->wpS (model prog w) A E s (jp2 () (i+1) out) (HiP κ a b st y) st4:=by
    intro out i hM hi hle hlow;refine wpS_bind (wpS_elem (i:=j3) t2 ?_);have hM5:=hM.pushB1 hi t2 hle;by_cases hz:j3=1
    ·refine aI (B9.mpr hz) (BG ⟨hst4,.inl ⟨_,rfl,hM5.first hz hf⟩⟩)
    refine aG (λ z=>hz (B9.mp z)) ?_;obtain⟨j4,rfl⟩:∃j4,j3=j4+1:=⟨j3-1,(Ez t3).mp rfl⟩;refine wpS_bind (wpS_elem (i:=i) hi (wpS_bind (pS (i:=0) (n:=j4+1) (hint:=j4) hO (hst4.k.trans hk) sb hb (ha _ Z6) (Ba (Bz (C5 _)) (B7 t2)) (Gr _) λ k2 d1 d2 d3=>?_)));dsimp-zeta only
    extract_lets w1 w2 w3 jp3
    have hjp3:∀out j,MH κ a b out (i+1) (j+1)->∀hj:j<b.size,0<j->LtK κ b[j] a[i]->i+1+(j+1)+(y+1+1)≤a.size+b.size->wpS (model prog w) A E s (jp3 () (j+1) out) (HiP κ a b st y) st4:=by
     intro out j hM hj hj0 Ir hlow;refine wpS_bind (wpS_elem (i:=i) hi ?_);have hM6:=hM.pushA1 hi hj Ir;by_cases hz:i=0
     ·refine aI (B9.mpr hz) (BG ⟨hst4,.inl ⟨_,rfl,hM6.doneA hz⟩⟩)
     obtain⟨i5,rfl⟩:∃i5,i=i5+1:=⟨i-1,DR (DW hz)⟩;have hw:=Ba (CZ (CZ (Es _) _) _) hlow;refine aG (λ z=>hz (B9.mp z)) (cu (BG ⟨hst4,.inr ⟨_,i5,j,rfl,⟨_,_,_,rfl⟩,hM6,Cz hi,hj,hj0,hw⟩⟩) (BG ⟨⟨hst4,.inr ⟨_,i5,j,rfl,⟨_,_,_,rfl⟩,hM6,Cz hi,hj,hj0,hw⟩⟩,rfl⟩))
    clear_value jp3
    have hlast:∀q,q+1=k2->∀hq:q<b.size,LtK κ b[q] a[i]:=λ q hq hq2=>by
     have:=d2 q (CU (Bz hq));rw [C5,de hq2] at this;exact this
    by_cases hk0:j4+1-k2>0
    ·refine aI hk0 ?_;have hM7:=hM5.pushB (at':=k2) d1 λ x hx y hy=>by
      obtain⟨q,q1,q2,rfl⟩:=gC d1 (B7 t2) hy;have:=d3 q q1 q2;rw [C5,de (Fl q2 t2)] at this;exact le_trans (ord κ) (gz hi hM5.sa hx) this
     by_cases hz2:k2=1
     ·refine aI (B9.mpr hz2) (BG ⟨hst4,.inl ⟨_,rfl,hM7.first hz2 hf⟩⟩)
     refine aG (λ z=>hz2 (B9.mp z)) ?_;by_cases hz3:k2=0
     ·refine aI (B9.mpr hz3) (BG ⟨hst4,.inl ⟨_,rfl,hM7.doneB hz3⟩⟩)
     refine aG (λ z=>hz3 (B9.mp z)) ?_;obtain⟨k3,rfl⟩:∃k3,k2=k3+1:=⟨k2-1,DR (DW hz3)⟩;exact hjp3 _ k3 hM7 (Fl d1 t2) (F2 λ z=>hz2 (congrArg Nat.succ z)) (hlast k3 rfl _) (Ba (CZ (Ep (Nat.le_succ_of_le d1) _) _) hlow)
    ·refine aG hk0 ?_;exact hjp3 _ j4 hM5 (Cz t2) (F2 λ z=>hz (congrArg Nat.succ z)) (hlast j4 (BI (Nat.sub_eq_zero_iff_le.1 (Fc hk0)) d1) _) (Ba (CZ (Ep (Es _) _) _) hlow)
   clear_value jp2
   have hlast:∀q,q+1=k->∀hq:q<a.size,LeK κ a[q] b[j3]:=λ q hq hq2=>by
    have:=f2 q (CU (Bz hq));rw [C5,de hq2] at this;exact this
   by_cases hk0:i3+1-k>0
   ·refine aI hk0 ?_;by_cases hz:k=0
    ·refine aI (B9.mpr hz) (BG ⟨hst4,.inl ⟨_,rfl,hM4.doneA hz⟩⟩)
    refine aG (λ z=>hz (B9.mp z)) ?_;obtain⟨k3,rfl⟩:∃k3,k=k3+1:=⟨k-1,DR (DW hz)⟩;exact hjp2 _ k3 hM4 (Bf f1 t1) (hlast k3 rfl _) (Ba (CZ (CZ f1 _) _) t4)
   ·refine aG hk0 ?_;exact hjp2 _ i3 hM3 t1 (hlast i3 (BI (Nat.sub_eq_zero_iff_le.1 (Fc hk0)) f1) _) t4
  clear_value jp
  exact cu (D2 (hjp _) λ r st' q=>by cases r<;>exact q) (D2 (hjp _) λ r st' q=>by cases r<;>exact q)
 ·rintro c st' ⟨q,_⟩;exact q
 rintro⟨c1,c2⟩ st3 ⟨hst3,⟨r,e,hW⟩|⟨out3,i3,j3,e,⟨g3,p3,r3,e2⟩,hM3,u1,u2,u3,u4⟩⟩
 ·dsimp only at e;subst e;exact BG ⟨hst3,r,rfl,hW⟩
 dsimp only at e e2;subst e e2;exact wpS_bind (wpS_setMin hst3 λ st4 hst4=>BG ⟨⟨hst4,.inr ⟨out3,i3,j3,rfl,⟨_,rfl⟩,hM3,u1,u2,u3,u4⟩⟩,rfl⟩)
end
section
variable {prog:Ie}{w:Ig}{A:Ii}{E:Ib -> Ic -> Prop}{s:Ic}{κ:KeyKind}
theorem tW (hO:κ.OneLt){i:Nat}(hk:kindOf st=oneType')(hs:∀p q,p≤q->q<n->κ.blt (KK κ xs (i+q)) (KK κ xs (i+p))=false)(hall:∀p∈xs.toList,Has κ p)(hkey:Has κ key)(hn:i+n≤xs.size)(hh:hint<n)
  (h:∀k,k≤n->(∀j,j<k->κ.blt (kf κ key) (KK κ xs (i+j))=false)->(∀j,k≤j->j<n->κ.blt (kf κ key) (KK κ xs (i+j))=true)->Q (some k) st):wpS (model prog w) A E s (fD false key xs i n hint) Q st:=by
 have eb:∀j,byd κ false key xs j= !κ.blt (kf κ key) (KK κ xs j):=λ j=>rfl
 refine dz hO hk hn hh hkey hall (λ p q hpq hq hb=>?_) λ k h1 h2 h3=>h k h1 (λ j hj=>?_) λ j hj hj2=>?_
 ·rw [eb] at hb ⊢;have hb':κ.blt (kf κ key) (KK κ xs (i+q))=false:=by simpa using hb
  have:=hs p q hpq hq;cases e:κ.blt (kf κ key) (KK κ xs (i+p)) with
  |false=>rfl
  |true=>
   rcases κ.negTrans _ (KK κ xs (i+q)) _ e with z|z
   ·rw [hb'] at z;cases z
   ·rw [this] at z;cases z
 ·have:=h2 j hj;rw [eb] at this;simpa using this
 ·have:=h3 j hj hj2;rw [eb] at this;simpa using this
theorem sN (hO:κ.OneLt){i:Nat}(hk:kindOf st=oneType')(hs:∀p q,p≤q->q<n->κ.blt (KK κ xs (i+q)) (KK κ xs (i+p))=false)(hall:∀p∈xs.toList,Has κ p)(hkey:Has κ key)(hn:i+n≤xs.size)(hh:hint<n)
  (h:∀k,k≤n->(∀j,j<k->κ.blt (KK κ xs (i+j)) (kf κ key)=true)->(∀j,k≤j->j<n->κ.blt (KK κ xs (i+j)) (kf κ key)=false)->Q (some k) st):wpS (model prog w) A E s (fD true key xs i n hint) Q st:=by
 have eb:∀j,byd κ true key xs j=κ.blt (KK κ xs j) (kf κ key):=λ j=>rfl
 refine dz hO hk hn hh hkey hall (λ p q hpq hq hb=>?_) λ k h1 h2 h3=>h k h1 (λ j hj=>?_) λ j hj hj2=>?_
 ·rw [eb] at hb ⊢;have:=hs p q hpq hq;rcases κ.negTrans _ (KK κ xs (i+p)) _ hb with z|z
  ·rw [this] at z;cases z
  ·exact z
 ·exact h2 j hj
 ·exact h3 j hj hj2
end
theorem mn (o:Nat):∀(r:List Keyed) (n:Nat) (xs:Array Keyed),o+n+r.length≤xs.size->
  ((r.zipIdx n).foldl (λ a x=>a.setIfInBounds (o+x.2) x.1) xs).toList=xs.toList.take (o+n)++r++xs.toList.drop (o+n+r.length)
 | [],n,xs,h=>by simp
 |x::r,n,xs,h=>by
  rw [Bq] at h;have Ir:o+n<xs.toList.length:=by simp;exact Nat.lt_of_add_right_lt h
  rw [List.zipIdx_cons,List.foldl_cons,mn o r (n+1) _ (by rw [FU];lia),Hi];have e1:(xs.toList.set (o+n) x).take (o+(n+1))=xs.toList.take (o+n)++[x]:=by
   rw [show o+(n+1)=o+n+1 by lia,CQ,Dy Ir,List.take_set_of_le (Bh _)];rfl
  have e2:(xs.toList.set (o+n) x).drop (o+(n+1)+r.length)=xs.toList.drop (o+n+(r.length+1)):=by
   rw [List.drop_set_of_lt Z5];congr 1;lia
  rw [e1,e2,Bq];simp [Be]
section
variable {κ:KeyKind}
theorem d6 (e:xs.toList=P++X++S)(hj:j<X.length):KK κ xs (P.length+j)=kf κ X[j]:=by
 have Ir:P.length+j<xs.size:=by
  have:xs.toList.length=xs.size:=Z6;rw [<-this,e];simp;exact HM _ hj
 rw [de Ir];congr 1;have:xs[P.length+j]=xs.toList[P.length+j]'(by simpa using Ir):=Z6;rw [this];simp only [e];rw [ER (by simp;assumption),D8 Z5];congr 1;exact DQ _ _
theorem gD (e:xs.toList=P++X++S)(hj:j<X.length):∃Ir:P.length+j<xs.size,xs[P.length+j]=X[j]:=by
 have Ir:P.length+j<xs.size:=by
  have:xs.toList.length=xs.size:=Z6;rw [<-this,e];simp;exact HM _ hj
 refine⟨Ir,?_⟩;have:xs[P.length+j]=xs.toList[P.length+j]'(by simpa using Ir):=Z6;rw [this];simp only [e];rw [ER (by simp;assumption),D8 Z5];congr 1;exact DQ _ _
theorem mE (e:xs.toList=P++X++S){i:Nat}(hi:i≤n)(hn:n≤X.length):(xs.extract (P.length+i) (P.length+n)).toList=(X.drop i).take (n-i):=by
 rw [cH (DS.mpr hi),e,show P.length+n-(P.length+i)=n-i from Nat.add_sub_add_left _ _ _];rw [Be,<-EI,HX,DN (Ba hi hn),Do (by simp;lia)]
theorem jg (e:xs.toList=P++X++S)(h:X.Pairwise (LeK κ))(p q:Nat)(hpq:p≤q)(hq:q<X.length):κ.blt (KK κ xs (P.length+q)) (KK κ xs (P.length+p))=false:=by
 rw [d6 e hq,d6 e (show p<X.length from B0 hpq hq)];rcases Dm p q with z|z
 ·exact(Cw.mp h) p q (Fl z hq) hq z
 ·have:p=q:=BI hpq z;subst this;exact(ord κ).irr _
end
end SG
namespace SM
variable {α κ:Type}{blt:κ -> κ -> Bool}{kf:α -> κ}
theorem first_split {p:α->Bool}:∀{ys:List α},(∃y∈ys,p y=true)->∃l1 y l2,ys=l1++y::l2/\p y=true/\∀z∈l1,¬p z=true
 | [],h=>by obtain⟨y,hy,_⟩:=h;cases hy
 |z::ys,h=>by
  by_cases hz:p z=true
  ·exact⟨[],z,ys,rfl,hz,λ _ h=>nomatch h⟩
  ·obtain⟨y,hy,hp⟩:=h;rcases BA.mp hy with rfl|hy
   ·exact absurd hp hz
   ·obtain⟨l1,y,l2,e,h1,h2⟩:=first_split ⟨y,hy,hp⟩;refine⟨z::l1,y,l2,by rw [e];rfl,h1,λ u hu=>?_⟩;rcases BA.mp hu with rfl|hu
    ·exact hz
    ·exact h2 u hu
theorem stb_perm (O:Ord blt):∀{xs ys:List α},Stb blt kf xs ys->xs.Perm ys
 | [],ys,h=>by
  cases ys with
  |nil=>exact .nil
  |cons y ys=>have:=Stb.mem O h.symm (BF (a:=y) (l:=ys));cases this
 |x::xs,ys,h=>by
  have hx:=Stb.mem O h (BF (a:=x) (l:=xs));obtain⟨l1,y,l2,rfl,hy,h1⟩:=first_split ⟨x,hx,eqv_self (blt:=blt) (kf:=kf) O x⟩;have e:=h (kf x);have n1:l1.filter (eqv blt kf (kf x))=[]:=Dw.mpr h1;rw [BE (eqv_self O x),BK,n1,CJ,BE hy] at e;obtain⟨rfl,e2⟩:=F5 e;have ht:Stb blt kf xs (l1++l2):=λ k=>by
   by_cases hk:eqv blt kf k x=true
   ·have z:=eqv_iff.mp hk;have:kf x=k:=O.tot _ _ z.1 z.2;subst this;rw [BK,n1,CJ];exact e2
   ·have e3:=h k;rw [BN hk,BK,BN hk] at e3;rw [BK];exact e3
  exact(List.Perm.cons x (stb_perm O ht)).trans E7.symm
end SM
namespace SG
open PySem PyProof.Rows SM
variable {A' D0 Eb M P S X Y l:List Keyed}{Q:Bool->SortSt->Prop}{j lo n neq nrem pw:Nat}{pe:Array (Nat×Nat×Nat)}{As Bs Rs:List (List Keyed)}{xs:Array Keyed}{st:SortSt}
theorem rn (h:0<xs.size):xs[0]∈xs.toList.take 1:=by
 have:=oF (xs:=xs) (i:=0) h;rw [C5] at this;rw [this];simp
theorem rL (h:0<xs.size):xs[xs.size-1]∈xs.toList.drop (xs.size-1):=by
 rw [d8 (show xs.size-1<xs.size from Z4)];simp
section
variable {prog:Ie}{w:Ig}{A:Ii}{E:Ib -> Ic -> Prop}{s:Ic}{κ:KeyKind}
theorem wy {M:Model}{σ:Type}{x:σ}{Q:PUnit->σ->Prop}{st:σ}(h:Q ⟨⟩ x):wpS M A E s (set x:StateT σ Sem PUnit) Q st:=by
 unfold wpS;rw [StateT.run_set];exact BH ⟨rfl,h⟩
theorem lO (hO:κ.OneLt){i:Nat}{pw2:Nat}(hk:kindOf st=oneType')(hf:failedOf st=none)(hall:∀p∈(arrOf st).toList,Has κ p)
  (e:(arrOf st).toList=P++X++Y++S) (hX:X.Pairwise (LeK κ)) (hY:Y.Pairwise (LeK κ)) (nX:0<X.length) (nY:0<Y.length)
  (p1:(pendingOf st)[i]?=some (P.length,X.length,pw)) (p2:(pendingOf st)[i+1]?=some ((P++X).length,Y.length,pw2))
  (h:∀st' Z,kindOf st'=oneType'->failedOf st'=none->pendingOf st'=((pendingOf st).setIfInBounds i (P.length,X.length+Y.length,pw)).eraseIdxIfInBounds (i+1)->(arrOf st').toList=P++Z++S->Z.Pairwise (LeK κ)->Stb κ.blt (kf κ) Z (X++Y)->Q true st'):
  wpS (model prog w) A E s (mergeAt' i) Q st:=by
 have eX:(arrOf st).toList=P++X++(Y++S):=by rw [e];simp
 have eY:(arrOf st).toList=(P++X)++Y++S:=e;have lPX:(P++X).length=P.length+X.length:=Bb;have lA:(arrOf st).size=P.length+X.length+Y.length+S.length:=by
  have:(arrOf st).toList.length=(arrOf st).size:=Z6;rw [<-this,e];simp [CI]
 have hmX:∀x∈X,Has κ x:=λ x hx=>hall x (by rw [e];simp [hx])
 have hmY:∀y∈Y,Has κ y:=λ y hy=>hall y (by rw [e];simp [hy])
 refine wpS_bind (wpS_get ?_);dsimp-zeta only;rw [p1,p2];dsimp-zeta only;refine wpS_bind (wy ?_);obtain⟨hy0,ey0⟩:=gD eY (j:=0) nY;refine wpS_bind (wpS_elem (i:=(P++X).length) (‹_›) ?_);have ey:(arrOf st)[(P++X).length]'(CU hy0)=Y[0]:=ey0;rw [ey];refine wpS_bind (tW hO hk (jg eX hX) hall (hmY _ (Dn _)) (show P.length+X.length≤(arrOf st).size from Ba (Bz lPX.symm) (B7 hy0)) nX λ k f1 f2 f3=>?_);have g2:∀j (hj:j<k),LeK κ (X[j]'(Bf hj f1)) Y[0]:=λ j hj=>by
  have:=f2 j hj;rw [d6 eX (show j<X.length from Bf hj f1)] at this;exact this
 have g3:∀j,k≤j->∀hj:j<X.length,LtK κ Y[0] X[j]:=λ j hj hj2=>by
  have:=f3 j hj hj2;rw [d6 eX hj2] at this;exact this
 have y0le:∀y∈Y,LeK κ Y[0] y:=λ y hy=>by
  obtain⟨j,hj,rfl⟩:=Cb.mp hy;rcases Ed j with rfl|z
  ·exact(ord κ).irr _
  ·exact(Cw.mp hY) 0 j nY hj z
 dsimp-zeta only;by_cases hz:X.length-k=0
 ·refine aI (B9.mpr hz) (BG (h _ (X++Y) hk hf rfl (by show(arrOf st).toList=_;rw [e];simp) ?_ (Stb.refl _)));rw [Bt];refine⟨hX,hY,λ x hx y hy=>?_⟩;obtain⟨j,hj,rfl⟩:=Cb.mp hx;exact le_trans (ord κ) (g2 j (Bf hj (Nat.sub_eq_zero_iff_le.1 hz))) (y0le y hy)
 refine aG (λ z=>hz (B9.mp z)) ?_;have n1:=DX nX;have hk1:k≤X.length-1:=DZ (FJ λ z=>hz (GB z));obtain⟨hx0,ex0⟩:=gD eX (j:=X.length-1) n1;rw [CI,Cf f1,Gq nX];refine wpS_bind (wpS_elem (i:=P.length+(X.length-1)) hx0 ?_);rw [ex0];refine wpS_bind (sN hO hk (jg eY hY) hall (hmX _ (Dn _)) (show(P++X).length+Y.length≤(arrOf st).size from Z5) (show Y.length-1<Y.length from DX nY) λ k2 d1 d2 d3=>?_);have c2:∀j (hj:j<k2),LtK κ (Y[j]'(Bf hj d1)) (X[X.length-1]'n1):=λ j hj=>by
  have:=d2 j hj;rw [d6 eY (show j<Y.length from Bf hj d1)] at this;exact this
 have c3:∀j,k2≤j->∀hj:j<Y.length,LeK κ (X[X.length-1]'n1) Y[j]:=λ j hj hj2=>by
  have:=d3 j hj hj2;rw [d6 eY hj2] at this;exact this
 have hk2:0<k2:=by
  rcases Ed k2 with rfl|z
  ·have a1:=c3 0 (Bh _) nY;have a2:=g3 (X.length-1) hk1 n1;have a3:κ.blt (kf κ Y[0]) (kf κ (X[X.length-1]'n1))=false:=a1;have a4:κ.blt (kf κ Y[0]) (kf κ (X[X.length-1]'n1))=true:=a2;rw [a3] at a4;cases a4
  ·exact z
 have xlast:∀x∈X,LeK κ x (X[X.length-1]'n1):=λ x hx=>by
  obtain⟨j,hj,rfl⟩:=Cb.mp hx;rcases Dm j (X.length-1) with z|z
  ·exact(Cw.mp hX) j _ hj n1 z
  ·have:j=X.length-1:=BI (DZ hj) z;subst this;exact(ord κ).irr _
 dsimp-zeta only;refine aG (λ z=>Gx hk2 (B9.mp z)) ?_
 extract_lets x y jp
 have ex:x.toList=X.drop k:=by
  show((arrOf st).extract (P.length+k) ((P++X).length)).toList=_;rw [lPX,mE eX f1 (Bh _),BQ Z6]
 have ey':y.toList=Y.take k2:=by
  show((arrOf st).extract ((P++X).length) ((P++X).length+k2)).toList=_;have:=mE eY (i:=0) (n:=k2) (BX _) d1;rw [Ey] at this;rw [this,D7,ES]
 have lx:x.size=X.length-k:=by rw [<-CY,ex,By]
 have ly:y.size=k2:=by rw [<-CY,ey',Bv,CA d1]
 have hxa:∀p∈x.toList,Has κ p:=λ p hp=>hmX p (by rw [ex] at hp;exact Cs hp)
 have hya:∀p∈y.toList,Has κ p:=λ p hp=>hmY p (by rw [ey'] at hp;exact Cq hp)
 have sx:x.toList.Pairwise (LeK κ):=by rw [ex];exact hX.sublist (HD _ _)
 have sy:y.toList.Pairwise (LeK κ):=by rw [ey'];exact hY.sublist (Fq _ _)
 have xge:∀u∈x.toList,LtK κ Y[0] u:=λ u hu=>by
  rw [ex] at hu;obtain⟨j,hj,rfl⟩:=Cb.mp hu;rw [El];exact g3 _ (B1 _ _) _
 have hfirst:∀v∈y.toList.take 1,∀u∈x.toList,LtK κ v u:=λ v hv u hu=>by
  rw [ey',List.take_take,CA hk2] at hv;have:v=Y[0]:=by
   obtain⟨j,hj,rfl⟩:=Cb.mp hv;rw [Bv] at hj;have:j=0:=Nat.lt_one_iff.1 (Bf hj (Da _ _));subst this;rw [DF]
  subst this;exact xge u hu
 have hlast:∀v∈y.toList,∀u∈x.toList.drop (x.size-1),LtK κ v u:=λ v hv u hu=>by
  rw [ey'] at hv;obtain⟨j,hj,rfl⟩:=Cb.mp hv;rw [Bv] at hj;rw [DF];rw [ex,lx,EI,Hn,Cf hk1] at hu;have:u=X[X.length-1]'n1:=by
   obtain⟨q,hq,rfl⟩:=Cb.mp hu;rw [By] at hq;rw [El];congr 1;omega
  subst this;exact c2 j (Bf hj (Da _ _))
 have hj:∀(r:Array Keyed) (st2:SortSt),kindOf st2=oneType'->arrOf st2=arrOf st->failedOf st2=none->pendingOf st2=((pendingOf st).setIfInBounds i (P.length,X.length+Y.length,pw)).eraseIdxIfInBounds (i+1)->bX κ x y r->wpS (model prog w) A E s (jp r) Q st2:=by
  intro r st2 b1 b2 b3 b4 hW;have lr:r.toList.length=(X.length-k)+k2:=by
   rw [(stb_perm (ord κ) hW.2).length_eq,Bb,CY,CY,lx,ly]
  refine wpS_bind (wpS_modify ?_);refine wpS_bind (wpS_get ?_);have hfn:(failedOf st2).isNone=true:=by rw [b3];rfl
  refine BG ?_;show Q ((failedOf st2).isNone) _;rw [hfn];refine h _ (X.take k++r.toList++Y.drop k2) b1 b3 b4 ?_ ?_ ?_
  ·show((r.toList.zipIdx 0).foldl (λ a x=>a.setIfInBounds (P.length+k+x.2) x.1) (arrOf st2)).toList=_;rw [b2,mn (P.length+k) r.toList 0 (arrOf st) (by rw [lr,lA];omega),Ey,lr,e];have t1:(P++X++Y++S).take (P.length+k)=P++X.take k:=by
    rw [Be,Be,List.take_append,BQ (B1 _ _),E3,Do f1]
   have t2:(P++X++Y++S).drop (P.length+k+(X.length-k+k2))=Y.drop k2++S:=by
    rw [Be (P++X),show P.length+k+(X.length-k+k2)=(P++X).length+k2 by rw [lPX,CI,<-CI k,Cf f1,CI],<-EI,HX,DN d1]
   rw [t1,t2];simp [Be]
  ·have memr:∀u∈r.toList,u∈x.toList\/u∈y.toList:=λ u hu=>Br.mp (Stb.mem (ord κ) hW.2 hu)
   rw [Be,Bt,Bt];refine⟨hX.sublist (Fq _ _),⟨hW.1,hY.sublist (HD _ _),λ u hu v hv=>?_⟩,λ u hu v hv=>?_⟩
   ·obtain⟨q,hq,rfl⟩:=Cb.mp hv;rw [By] at hq;rw [El];rcases memr u hu with z|z
    ·rw [ex] at z;exact le_trans (ord κ) (xlast u (Cs z)) (c3 _ (B1 _ _) _)
    ·rw [ey'] at z;obtain⟨j,hj,rfl⟩:=Cb.mp z;rw [Bv] at hj;rw [DF];have hj:=Bf hj (Da _ _);exact(Cw.mp hY) j _ (Bf hj d1) (Dc hq) (Bf hj (B1 _ _))
   ·obtain⟨q,hq,rfl⟩:=Cb.mp hu;rw [Bv] at hq;rw [DF];have a1:=g2 q (Bf hq (Da _ _));rcases Br.mp hv with z|z
    ·rcases memr v z with z|z
     ·exact le_trans (ord κ) a1 (le_of_lt (ord κ) (xge v z))
     ·rw [ey'] at z;exact le_trans (ord κ) a1 (y0le v (Cq z))
    ·exact le_trans (ord κ) a1 (y0le v (Cs z))
  ·have q1:=((Stb.refl (blt:=κ.blt) (kf:=kf κ) (X.take k)).app hW.2).app (Stb.refl (Y.drop k2));rw [ex,ey'] at q1;have:X.take k++(X.drop k++Y.take k2)++Y.drop k2=X++Y:=by
    rw [<-Be,B8,Be,B8]
   rw [this] at q1;exact q1
 clear_value jp
 have nx:0<x.size:=lx▸F2 hz;have ny:0<y.size:=ly▸hk2;refine cu (wpS_bind (lP hO hk hxa hya sx sy nx ny (hfirst _ (rn ny) _ Z6) hlast λ r st' hst hW=>hj r st' (hst.k.trans hk) hst.a (hst.f.trans hf) hst.p hW))
  (wpS_bind (k8 hO hk hxa hya sx sy nx ny hfirst (hlast _ Z6 _ (rL nx)) λ r st' hst hW=>hj r st' (hst.k.trans hk) hst.a (hst.f.trans hf) hst.p hW))
end
theorem toL (k:Nat):xs[k]?=xs.toList[k]?:=Z6
theorem lH {B:List Keyed}(e:xs.toList=A'++M++B):(mirror xs A'.length (A'.length+M.length) ((A'.length+M.length-A'.length)/2)).toList=A'++M.reverse++B:=by
 have hs:A'.length+M.length≤xs.size:=by
  rw [<-CY,e];simp
 apply Dq;intro k;rw [<-toL,getElem?_mirror_all hs k,toL,toL,e];by_cases h:A'.length≤k/\k<A'.length+M.length
 ·obtain⟨j,rfl⟩:=Nat.exists_eq_add_of_le h.1;have hj:=Nat.lt_of_add_lt_add_left h.2;have e0:A'.length+(A'.length+M.length)-1-(A'.length+j)=A'.length+(M.length-1-j):=by clear h e hs;omega
  rw [BM h,e0,Be,Be,BJ (B1 _ _),BJ (B1 _ _),E3,E3,Cg (B0 (Ek _ _) (DX hj)),Cg (by simp;exact hj),List.getElem?_reverse hj]
 ·rw [Bu h,Be,Be];rcases Dm k A'.length with z|z
  ·rw [Cg z,Cg z]
  ·rw [BJ z,BJ z,BJ Z5,BJ (by simp;omega),E4]
theorem ml {B:List Keyed}{x:Keyed}(e:xs.toList=A'++M++[x]++B):(bubble xs (A'.length+M.length) (A'.length+M.length-A'.length)).toList=A'++[x]++M++B:=by
 have hs:A'.length+M.length<xs.size:=by
  rw [<-CY,e];simp
 apply Dq;intro k;rw [<-toL,getElem?_bubble hs _ (Ek _ _) k,toL,toL,toL,e,show A'.length+M.length-(A'.length+M.length-A'.length)=A'.length by omega];have e1:(A'++M++[x]++B)[A'.length+M.length]?=some x:=by
  rw [Be (A'++M),BJ Z6];simp
 rw [e1];by_cases h1:k=A'.length
 ·subst h1;rw [BM rfl,Be,Be,BJ (Bh _)];simp
 ·rw [Bu h1];by_cases h2:A'.length<k/\k≤A'.length+M.length
  ·rw [BM h2,Be (A'++M),Be,BJ (DZ h2.1),Cg Z4,Be (A'++[x]),BJ (by simp;exact Nat.succ_le_of_lt h2.1),Cg (by simp;omega)];congr 1;simp;lia
  ·rw [Bu h2];rcases Dm k A'.length with z|z
   ·rw [Be (A'++M),Be,Cg z,Be (A'++[x]),Be,Cg z]
   ·rw [BJ (by simp;lia),BJ (by simp;omega)];congr 1;simp
section
variable {prog:Ie}{w:Ig}{A:Ii}{E:Ib -> Ic -> Prop}{s:Ic}{κ:KeyKind}
structure At (κ:KeyKind)(st:SortSt)(pe:Array (Nat×Nat×Nat))(l:List Keyed):Prop where
 k:kindOf st=oneType'
 f:failedOf st=none
 p:pendingOf st=pe
 a:(arrOf st).toList=l
 has:∀p∈l,Has κ p
theorem At.setA {l':List Keyed}(h:At κ st pe l)(e:xs.toList=l')(hm:∀p∈l',p∈l):At κ (setArr st xs) pe l':=⟨h.k,h.f,h.p,e,λ p hp=>h.has p (hm p hp)⟩
theorem wpS_ltL (hO:κ.OneLt){i:Nat}{Q:Option Bool->SortSt->Prop}(h:At κ st pe (P++X++S))(hi:i<X.length)(hj:j<X.length)
  (hq:Q (some (κ.blt (kf κ X[i]) (kf κ X[j]))) st):wpS (model prog w) A E s (ltAt' (P.length+i) (P.length+j)) Q st:=by
 rw [ltAt'_eq];refine wpS_bind (wpS_get ?_);obtain⟨h1,e1⟩:=gD h.a hi;obtain⟨h2,e2⟩:=gD h.a hj;refine wpS_bind (wpS_elem h1 (wpS_bind (wpS_elem h2 ?_)));rw [e1,e2];exact iB hO h.k (h.has _ Z6) (h.has _ Z6) hq
theorem gH {B:List Keyed}{i:Nat}{Q:Unit->SortSt->Prop}(h:At κ st pe (A'++M++B))(ei:i=A'.length)(ej:j=A'.length+M.length)(hq:∀st',At κ st' pe (A'++M.reverse++B)->Q () st'):
  wpS (model prog w) A E s (reverseSlice' i j) Q st:=by
 subst ei ej;exact wpS_reverse (hq _ (h.setA (lH h.a) λ p hp=>by simpa using hp))
theorem uD {B:List Keyed}{x:Keyed}{i:Nat}{Q:Unit->SortSt->Prop}(h:At κ st pe (A'++M++[x]++B))(ei:i=A'.length+M.length)(ej:j=A'.length)(hq:∀st',At κ st' pe (A'++[x]++M++B)->Q () st'):
  wpS (model prog w) A E s (moveDown' i j) Q st:=by
 subst ei ej;rw [moveDown'_eq];exact wpS_modify (hq _ (h.setA (ml h.a) λ p hp=>by
  simp only [Br,Bx] at hp ⊢;rcases hp with((z|z)|z)|z
  ·exact .inl (.inl (.inl z))
  ·exact .inl (.inr z)
  ·exact .inl (.inl (.inr z))
  ·exact .inr z))
end
def qq:Nat->Nat->StateT SortSt Sem (Option Nat):=sortPriv%PySem.Builtin.countRun
section
variable {κ:KeyKind}
theorem u9 {x:Keyed}(h:l.Pairwise (LeK κ))(hx:∀y∈l,LeK κ y x):(l++[x]).Pairwise (LeK κ):=by
 rw [Bt];exact⟨h,Z6,λ a ha b hb=>by
  have:b=x:=by simpa using hb
  subst this;exact hx a ha⟩
theorem p8 (h:l.Pairwise (LeK κ))(hn:n+1=l.length){y:Keyed}(hy:y∈l):LeK κ y (l[n]'(CU (Bz hn))):=by
 obtain⟨j,hj,rfl⟩:=Cb.mp hy;rcases Dm j n with z|z
 ·exact(Cw.mp h) j n hj (CU (Bz hn)) z
 ·have:j=n:=BI (CM (Bn hj hn.symm)) z;subst this;exact(ord κ).irr _
structure Ds (κ:KeyKind)(X D0 Eb:List Keyed)(n neq:Nat):Prop where
 le:Eb.length=neq+1
 ln:D0.length+Eb.length=n
 eq:∀u∈Eb,∀v∈Eb,LeK κ u v
 sd:D0.reverse.Pairwise (LeK κ)
 lt:∀u∈Eb,∀d∈D0,LtK κ u d
 st:Stb κ.blt (kf κ) (Eb++D0.reverse) (X.take n)
theorem Ds.sorted (h:Ds κ X D0 Eb n neq):(Eb++D0.reverse).Pairwise (LeK κ):=by
 rw [Bt];exact⟨List.pairwise_of_forall_mem_list λ u hu v hv=>h.eq u hu v hv,h.sd,λ u hu d hd=>le_of_lt (ord κ) (h.lt u hu d (E8.mp hd))⟩
theorem cV (hn:n<X.length):X.take (n+1)=X.take n++[X[n]]:=by
 rw [CQ,Bg hn];rfl
theorem Ds.next (h:Ds κ X D0 Eb n neq)(hn:n<X.length)(Ir:∀u∈Eb,LtK κ X[n] u):Ds κ X (D0++Eb.reverse) [X[n]] (n+1) 0:=by
 have hall:∀u∈Eb++D0.reverse,LtK κ X[n] u:=λ u hu=>by
  rcases Br.mp hu with z|z
  ·exact Ir u z
  ·have hne:0<Eb.length:=by have:=h.le;exact Gy this
   have e0:Eb[0]∈Eb:=Dn hne;exact(ord κ).tr _ _ _ (Ir _ e0) (h.lt _ e0 u (E8.mp z))
 refine⟨rfl,by rw [Bb,E4,h.ln];rfl,λ u hu v hv=>?_,?_,λ u hu d hd=>?_,?_⟩
 ·have e1:u=X[n]:=by simpa using hu
  have e2:v=X[n]:=by simpa using hv
  subst e1;subst e2;exact(ord κ).irr _
 ·rw [Eu,DH];exact h.sorted
 ·have e1:u=X[n]:=by simpa using hu
  subst e1;refine hall d ?_;rcases Br.mp hd with z|z
  ·exact BB _ (E8.mpr z)
  ·exact C4 _ (E8.mp z)
 ·rw [Eu,DH,cV hn];refine Stb.trans ?_ (h.st.app (Stb.refl [X[n]]));refine(dj (ord κ) λ y hy x hx=>?_).symm;have e1:y=X[n]:=by simpa using hy
  subst e1;exact hall x hx
theorem Ds.more (h:Ds κ X D0 Eb n neq)(hn:n<X.length)(h1:∀u∈Eb,LeK κ X[n] u)(h2:∀u∈Eb,LeK κ u X[n]):Ds κ X D0 (Eb++[X[n]]) (n+1) (neq+1):=by
 have hne:0<Eb.length:=by have:=h.le;exact Gy this
 have e0:Eb[0]∈Eb:=Dn hne;have hD:∀d∈D0,LtK κ X[n] d:=λ d hd=>dS (ord κ) (h1 _ e0) (h.lt _ e0 d hd)
 refine⟨by rw [Bb,h.le];rfl,by rw [Bb,<-CI,h.ln];rfl,λ u hu v hv=>?_,h.sd,λ u hu d hd=>?_,?_⟩
 ·rcases Br.mp hu with z|z<;>rcases Br.mp hv with z2|z2
  ·exact h.eq u z v z2
  ·have:v=X[n]:=by simpa using z2
   subst this;exact h2 u z
  ·have:u=X[n]:=by simpa using z
   subst this;exact h1 v z2
  ·have e1:u=X[n]:=by simpa using z
   have e2:v=X[n]:=by simpa using z2
   subst e1;subst e2;exact(ord κ).irr _
 ·rcases Br.mp hu with z|z
  ·exact h.lt u z d hd
  ·have:u=X[n]:=by simpa using z
   subst this;exact hD d hd
 ·rw [cV hn];refine Stb.trans ?_ (h.st.app (Stb.refl [X[n]]));rw [Be,Be];refine(Stb.refl Eb).app (dj (ord κ) λ y hy x hx=>?_).symm;have:y=X[n]:=by simpa using hy
  subst this;exact hD x (E8.mp hx)
end
section
variable {prog:Ie}{w:Ig}{A:Ii}{E:Ib -> Ic -> Prop}{s:Ic}{κ:KeyKind}
theorem sE (hO:κ.OneLt){a:Nat}{f:Nat->(Option (Option Nat)×Nat)->StateT SortSt Sem (ForInStep (Option (Option Nat)×Nat))}{Q:(Option (Option Nat)×Nat)->SortSt->Prop}
  (h:At κ st pe (P++X++S)) (hn:nrem=X.length) (ha:1≤a) (han:a≤nrem) (hs:(X.take a).Pairwise (LeK κ))
  (hf:∀(x n:Nat) (hn1:1≤n) (hn2:n<nrem),wpS (model prog w) A E s (f x (none,n)) (λ r st'=>st'=st/\r=if κ.blt (kf κ (X[n]'(Bn hn2 hn))) (kf κ (X[n-1]'(C8 (Bn hn2 hn))))=true then .done (none,n) else .yield (none,n+1)) st)
  (hq:∀n,a≤n->n≤nrem->(X.take n).Pairwise (LeK κ)->(n=nrem\/∃Ir:n<X.length,LtK κ X[n] (X[n-1]'(C8 Ir)))->Q (none,n) st):wpS (model prog w) A E s (forIn [a:nrem] (none,a) f) Q st:=by
 refine DC (I:=λ x c st'=>st'=st/\c=(none,x)/\(X.take x).Pairwise (LeK κ)) ?_ ?_ ⟨rfl,rfl,hs⟩
 ·rintro x c st' hax hxn ⟨rfl,rfl,hs'⟩;refine D2 (hf x x (Ba ha hax) hxn) ?_;rintro r st'' ⟨rfl,rfl⟩;by_cases hc:κ.blt (kf κ (X[x]'(Bn hxn hn))) (kf κ (X[x-1]'(C8 (Bn hxn hn))))=true
  ·rw [BM hc];exact hq x hax (Dp hxn) hs' (.inr ⟨Bn hxn hn,hc⟩)
  ·rw [Bu hc];refine⟨rfl,rfl,?_⟩;rw [cV (show x<X.length from Bn hxn hn)];refine u9 hs' λ y hy=>?_
   have l1:=p8 hs' (n:=x-1) (by rw [Bv,CA (B7 (Bn hxn hn)),Hm (Ba ha hax)]) hy;rw [DF] at l1;exact le_trans (ord κ) l1 (by simpa using hc)
 ·rintro c st' ⟨rfl,rfl,hs'⟩;rw [show max a nrem=nrem from HN han] at hs' ⊢;exact hq nrem han (Bh _) hs' (.inl rfl)
theorem jX (hO:κ.OneLt){Q:Option Nat->SortSt->Prop}(h:At κ st pe (P++X++S))(hlo:lo=P.length)(hn:nrem=X.length)(h1:1≤nrem)
  (hq:∀m Y st',1≤m->m≤nrem->Y.length=m->Y.Pairwise (LeK κ)->Stb κ.blt (kf κ) Y (X.take m)->At κ st' pe (P++(Y++X.drop m)++S)->Q (some m) st'):wpS (model prog w) A E s (qq lo nrem) Q st:=by
 subst hlo;have up:∀{st:SortSt} {X:List Keyed},At κ st pe (P++X++S)->∀(hXn:nrem=X.length) (n:Nat) (hn1:1≤n) (hn2:n<nrem) {Q:Option Bool->SortSt->Prop},Q (some (κ.blt (kf κ (X[n]'(Bn hn2 hXn))) (kf κ (X[n-1]'(C8 (Bn hn2 hXn)))))) st->wpS (model prog w) A E s (ltAt' (P.length+n) (P.length+n-1)) Q st:=by
  intro st X h hn n hn1 hn2 Q hq;rw [show P.length+n-1=P.length+(n-1) from Gq hn1 _];exact wpS_ltL hO h (Bn hn2 hn) (C8 (Bn hn2 hn)) hq
 refine wpS_bind (sE hO h hn (Bh 1) h1 ?_ ?_ λ n hn1 hn2 hs hor=>?_)
 ·cases X with
  |nil=>simp
  |cons x X=>simp
 ·intro x n hn1 hn2;refine wpS_bind (up h hn n hn1 hn2 ?_);dsimp only
  split
  ·exact BG ⟨rfl,rfl⟩
  ·exact BG ⟨rfl,rfl⟩
 dsimp-zeta only;have same:P++X++S=P++(X.take n++X.drop n)++S:=by rw [B8]
 have lt:(X.take n).length=n:=by rw [Bv,CA (Ba hn2 (Bz hn))]
 by_cases e1:n=nrem
 ·refine aI (B9.mpr e1) (BG (hq n (X.take n) st hn1 hn2 lt hs (Stb.refl _) (same▸h)))
 refine aG (λ z=>e1 (B9.mp z)) ?_;obtain⟨Ir,hless⟩:=hor.resolve_left e1;have hn5:=Bn Ir hn.symm;have h00:=B0 (BX _) Ir
 extract_lets v1 v2 jp
 have hjp:∀st1,At κ st1 pe (P++((X.take n).reverse++X.drop n)++S)->(∀u∈X.take n,∀v∈X.take n,LeK κ u v)->wpS (model prog w) A E s (jp ()) Q st1:=by
  intro st1 hA1 heq;refine wpS_bind (wpS_lift (Fa ⟨rfl,?_⟩));have hprev:(X[n-1]'(C8 Ir))∈X.take n:=by
   rw [List.mem_take_iff_getElem];exact⟨n-1,Nat.lt_min.2 ⟨DX hn1,C8 Ir⟩,rfl⟩
  have hX0:∀u∈X.take n,LtK κ X[n] u:=λ u hu=>cB (ord κ) hless (heq _ hprev u hu)
  have hD0:Ds κ X (X.take n).reverse [X[n]] (n+1) 0:=by
   refine⟨rfl,by rw [E4,lt];rfl,λ u hu v hv=>?_,by rw [DH];exact hs,λ u hu d hd=>?_,?_⟩
   ·have e1:u=X[n]:=by simpa using hu
    have e2:v=X[n]:=by simpa using hv
    subst e1;subst e2;exact(ord κ).irr _
   ·have e1:u=X[n]:=by simpa using hu
    subst e1;exact hX0 d (E8.mp hd)
   ·rw [DH,cV Ir];refine(dj (ord κ) λ y hy x hx=>?_).symm;have e1:y=X[n]:=by simpa using hy
    subst e1;exact hX0 x hx
  have hA0:At κ st1 pe (P++((X.take n).reverse++[X[n]]++X.drop (n+1))++S):=by
   rw [Be (X.take n).reverse,Fp,<-Dr Ir];exact hA1
  refine wpS_bind (D2 (DC (I:=λ x c st'=>∃D0 Eb neq,c=(none,x,neq)/\Ds κ X D0 Eb x neq/\At κ st' pe (P++(D0++Eb++X.drop x)++S))
   (Q:=λ c st'=>∃m D0 Eb neq,c=(none,m,neq)/\m≤nrem/\n+1≤m/\Ds κ X D0 Eb m neq/\At κ st' pe (P++(D0++Eb++X.drop m)++S)) ?_ ?_ ⟨_,_,0,rfl,hD0,hA0⟩) ?_)
  ·rintro x c st2 hax hxn ⟨D0,Eb,neq,rfl,hD,hA⟩;have hax':n+1≤x:=hax;have hl1:=hD.le;have hl2:=hD.ln;have hxX:x<X.length:=Bn hxn hn;have lC:nrem=(D0++Eb++X.drop x).length:=by rw [Bb,Bb,By,hl2,Cf (B7 hxX)];exact hn
   have hc1:(D0++Eb++X.drop x)[x]'(Bn hxn lC)=X[x]:=by
    rw [D8 (by rw [Bb];exact Bz hl2),El];simp only [Bb,hl2,EU,Ey]
   have hE:=CU (Bz hl1.symm);have hx1:=Bf (Nat.succ_pos n) hax';have hx2:x-1=D0.length+neq:=by rw [<-hl2,hl1];rfl
   have hc2:(D0++Eb++X.drop x)[x-1]'(C8 (Bn hxn lC))=Eb[neq]'hE:=by
    rw [ER (by rw [Bb,hl2];exact DX hx1),D8 (by rw [hx2];exact B1 _ _)];simp only [hx2,E3]
   have hEl:(Eb[neq]'hE)∈Eb:=Dn _;refine wpS_bind (up hA lC x hx1 hxn ?_);rw [hc1,hc2];dsimp only;cases e:κ.blt (kf κ X[x]) (kf κ (Eb[neq]'hE)) with
   |true=>
    refine aI rfl ?_;have hN:=hD.next hxX λ u hu=>cB (ord κ) e (hD.eq _ hEl u hu)
    have fin:∀st3,At κ st3 pe (P++D0++Eb.reverse++(X.drop x++S))->At κ st3 pe (P++(D0++Eb.reverse++[X[x]]++X.drop (x+1))++S):=λ st3 h3=>by
     rw [Be (D0++Eb.reverse),Fp,<-Dr hxX];simpa [Be] using h3
    by_cases hneq:neq>0
    ·refine aI hneq (wpS_bind (gH (A':=P++D0) (M:=Eb) (B:=X.drop x++S) (by simpa [Be] using hA) (by rw [Bb,<-hl2,hl1,<-CI];exact Nat.add_sub_cancel ..) (by rw [Bb,CI,hl2]) λ st3 hA3=>BG ⟨_,_,0,rfl,hN,fin st3 hA3⟩))
    ·have hrev:Eb.reverse=Eb:=by
      obtain⟨y,e⟩:=List.length_eq_one_iff.1 (hl1.trans (congrArg Nat.succ (Fc hneq)));rw [e];rfl
     refine aG hneq (BG ⟨_,_,0,rfl,hN,fin st2 ?_⟩);rw [hrev];simpa [Be] using hA
   |false=>
    refine aG Z9 ?_;rw [Gq hx1];refine wpS_bind (wpS_ltL hO hA (C8 (Bn hxn lC)) (Bn hxn lC) ?_);rw [hc1,hc2];dsimp only;cases e2:κ.blt (kf κ (Eb[neq]'hE)) (kf κ X[x]) with
    |true=>exact aI rfl (BG ⟨x,D0,Eb,neq,rfl,B7 hxn,hax',hD,hA⟩)
    |false=>
     refine aG Z9 (BG ⟨D0,_,neq+1,rfl,hD.more hxX (λ u hu=>le_trans (ord κ) e2 (hD.eq _ hEl u hu)) (λ u hu=>le_trans (ord κ) (hD.eq u hu _ hEl) e),?_⟩);rw [<-Be D0,Be (D0++Eb),Fp,<-Dr hxX];exact hA
  ·rintro c st2 ⟨D0,Eb,neq,rfl,hD,hA⟩;have:max (n+1) nrem=nrem:=HN hn5;have this':max v1 nrem=nrem:=this;rw [this'] at hD hA ⊢;exact⟨nrem,D0,Eb,neq,rfl,Bh _,hn5,hD,hA⟩
  ·rintro c st2 ⟨m,D0,Eb,neq,ec,hm1,hm2,hD,hA⟩;subst ec;have hl1:=hD.le;have hl2:=hD.ln;dsimp-zeta only
   extract_lets r1 r2 r3 r4 jp3
   have er3:m=r3:=rfl;have er4:neq=r4:=rfl
   clear_value r3 r4
   subst er3 er4;have hjp3:∀st3,At κ st3 pe (P++D0++Eb.reverse++(X.drop m++S))->wpS (model prog w) A E s (jp3 ()) Q st3:=by
    intro st3 hA3;have hm0:=Bf (Nat.succ_pos n) hm2;refine wpS_bind (gH (A':=P) (M:=D0++Eb.reverse) (B:=X.drop m++S) (by simpa [Be] using hA3) rfl (by rw [Bb,E4,hl2]) λ st4 hA4=>?_);rw [Eu,DH] at hA4;have lY:(Eb++D0.reverse).length=m:=by rw [Bb,E4,Fh,hl2]
    have lYX:nrem=(Eb++D0.reverse++X.drop m).length:=by rw [Bb,lY,By,Cf (Ba hm1 (Bz hn))];exact hn
    have hA5:At κ st4 pe (P++(Eb++D0.reverse++X.drop m)++S):=by simpa [Be] using hA4
    refine wpS_bind (sE (X:=Eb++D0.reverse++X.drop m) hO hA5 lYX hm0 hm1 ?_ ?_ λ n2 hn3 hn4 hs2 _=>?_)
    ·rw [Do (Bz lY.symm),BQ (Bz lY)];exact hD.sorted
    ·intro x n2 hn3 hn4;refine wpS_bind (up hA5 lYX n2 hn3 hn4 ?_);dsimp only
     split
     ·exact BG ⟨rfl,rfl⟩
     ·exact BG ⟨rfl,rfl⟩
    refine BG (hq n2 _ st4 (Ba hm0 hn3) hn4 (by rw [Bv,<-lYX,CA hn4]) hs2 ?_ ?_)
    ·have e1:(Eb++D0.reverse++X.drop m).take n2=Eb++D0.reverse++(X.drop m).take (n2-m):=by
      rw [List.take_append,BQ (Ba (Bz lY) hn3),lY]
     have e2:X.take n2=X.take m++(X.drop m).take (n2-m):=by
      rw [<-F1,Cf hn3]
     rw [e1,e2];exact hD.st.app (Stb.refl _)
    ·have e1:(Eb++D0.reverse++X.drop m).drop n2=X.drop n2:=by
      rw [List.drop_append,D3 (Ba (Bz lY) hn3),CJ,lY,EI,Cf hn3]
     rw [<-e1,B8];exact hA5
   clear_value jp3
   by_cases hneq:neq>0
   ·refine aI hneq (wpS_bind (gH (A':=P++D0) (M:=Eb) (B:=X.drop m++S) (by simpa [Be] using hA) (by rw [Bb,<-hl2,hl1,<-CI];exact Nat.add_sub_cancel ..) (by rw [Bb,CI,hl2]) λ st3 hA3=>hjp3 st3 hA3))
   ·have hrev:Eb.reverse=Eb:=by
     obtain⟨y,e⟩:=List.length_eq_one_iff.1 (hl1.trans (congrArg Nat.succ (Fc hneq)));rw [e];rfl
    refine aG hneq (hjp3 st2 ?_);rw [hrev];simpa [Be] using hA
 clear_value jp
 by_cases hgt:n>1
 ·refine aI hgt ?_;rw [Gq hn1];refine wpS_bind (wpS_ltL (i:=0) hO h h00 (C8 Ir) ?_);dsimp only;cases er:κ.blt (kf κ (X[0]'h00)) (kf κ (X[n-1]'(C8 Ir))) with
  |true=>exact aI rfl (BG (hq n (X.take n) st hn1 hn2 lt hs (Stb.refl _) (same▸h)))
  |false=>
   refine aG Z9 (wpS_bind (gH (A':=P) (M:=X.take n) (B:=X.drop n++S) ?_ rfl (by rw [lt]) λ st3 hA3=>hjp st3 (by simpa [Be] using hA3) λ u hu v hv=>?_))
   ·have e0:P++X.take n++(X.drop n++S)=P++X++S:=by rw [Be P,<-Be (X.take n),B8,<-Be]
    rw [e0];exact h
   ·have l1:=p8 hs (n:=n-1) (by rw [lt,Hm hn1]) hu;rw [DF] at l1;obtain⟨j,hj,rfl⟩:=Cb.mp hv;rw [DF];have l2:LeK κ (X[0]'h00) (X[j]'(Bf hj (Ba (Bz lt) (B7 Ir)))):=by
     rcases Ed j with rfl|z
     ·exact(ord κ).irr _
     ·have:=(Cw.mp hs) 0 j (Fl z hj) hj z;rw [DF,DF] at this;exact this
    exact le_trans (ord κ) l1 (le_trans (ord κ) er l2)
 ·refine aG hgt (hjp st ?_ λ u hu v hv=>?_)
  ·have:n=1:=BI (Nat.not_lt.1 hgt) hn1;subst this;rw [same] at h;have e1:(X.take 1).reverse=X.take 1:=by
    cases X with
    |nil=>rfl
    |cons x X=>rfl
   rw [e1];exact h
  ·have:n=1:=BI (Nat.not_lt.1 hgt) hn1;subst this;obtain⟨j,hj,rfl⟩:=Cb.mp hu;obtain⟨q,hq',rfl⟩:=Cb.mp hv;have e1:j=0:=Nat.lt_one_iff.1 (lt▸hj);have e2:q=0:=Nat.lt_one_iff.1 (lt▸hq');subst e1;subst e2;exact(ord κ).irr _
theorem iT (hO:κ.OneLt){R:List Keyed}{ok:Nat}(h:At κ st pe (P++(Y++R)++S))(hlo:lo=P.length)(hY:Y.Pairwise (LeK κ))(lY:Y.length=ok)(h1:1≤ok)(hok:ok≤n)(hn:n≤ok+R.length)
  (hq:∀Y' st',Y'.length=n->Y'.Pairwise (LeK κ)->Stb κ.blt (kf κ) Y' (Y++R.take (n-ok))->At κ st' pe (P++(Y'++R.drop (n-ok))++S)->Q true st'):wpS (model prog w) A E s (binarySort' lo n ok) Q st:=by
 subst hlo;refine wpS_bind (D2 (DC (I:=λ k c st'=>c=(none,())/\∃Y',Y'.length=k/\Y'.Pairwise (LeK κ)/\Stb κ.blt (kf κ) Y' (Y++R.take (k-ok))/\At κ st' pe (P++(Y'++R.drop (k-ok))++S))
  (Q:=λ c st'=>c=(none,())/\∃Y',Y'.length=n/\Y'.Pairwise (LeK κ)/\Stb κ.blt (kf κ) Y' (Y++R.take (n-ok))/\At κ st' pe (P++(Y'++R.drop (n-ok))++S)) ?step ?fin ?init) ?post)
 case post=>
  rintro c st' ⟨rfl,Y',e1,e2,e3,e4⟩;exact BG (hq Y' st' e1 e2 e3 e4)
 case init=>
  have e:max ok 1=ok:=Nat.max_eq_left h1;rw [e];refine⟨rfl,Y,lY,hY,?_,?_⟩
  ·rw [EU,EH,Ct];exact Stb.refl _
  ·rw [EU,D7];exact h
 case fin=>
  rintro c st' ⟨rfl,Y',e1,e2,e3,e4⟩;rw [HN (Nat.max_le.2 ⟨hok,Ba h1 hok⟩)] at e1 e3 e4;exact⟨rfl,Y',e1,e2,e3,e4⟩
 case step=>
  rintro k c st' hak hkn ⟨rfl,Y',e1,e2,e3,e4⟩;have hak':ok≤k:=Ba (Nat.le_max_left _ _) hak;have hkr:k-ok<R.length:=Z4;have lC:(Y'++R.drop (k-ok)).length=k+(R.length-(k-ok)):=by rw [Bb,By,e1]
  have hkC:k<(Y'++R.drop (k-ok)).length:=lC▸EX (EN hkr);clear lC;have hx:(Y'++R.drop (k-ok))[k]'hkC=R[k-ok]:=by
   rw [D8 (Bz e1),El];simp only [e1,EU,Ey]
  have hy:∀m (hm:m<k),(Y'++R.drop (k-ok))[m]'(Fl hm hkC)=Y'[m]'(Bn hm e1.symm):=λ m hm=>ER (Bn hm e1.symm)
  extract_lets v1 v2
  refine wpS_bind (D2 (DC (I:=λ x c st''=>st''=st'/\∃l r,c=(none,l,r)/\l≤r/\r≤k/\r-l≤k-x/\
    (∀i (hi:i<l) (hik:i<k),LeK κ (Y'[i]'(Bn hik e1.symm)) R[k-ok])/\(∀i,r≤i->∀hi:i<k,LtK κ R[k-ok] (Y'[i]'(Bn hi e1.symm))))
   (Q:=λ c st''=>st''=st'/\∃l r,c=(none,l,r)/\l≤k/\(∀i (hi:i<l) (hik:i<k),LeK κ (Y'[i]'(Bn hik e1.symm)) R[k-ok])/\(∀i,l≤i->∀hi:i<k,LtK κ R[k-ok] (Y'[i]'(Bn hi e1.symm)))) ?istep ?ifin ?iinit) ?ipost)
  case iinit=>exact⟨rfl,0,k,rfl,BX _,Bh _,Ek _ 0,λ i hi=>absurd hi (G1 _),λ i h1 h2=>absurd h2 (Nat.not_lt.2 h1)⟩
  case ifin=>
   rintro c st'' ⟨rfl,l,r,rfl,hlr,hrk,hm,hlo,hhi⟩;have:l=r:=mz hlr hm;subst this;exact⟨rfl,l,l,rfl,hrk,hlo,hhi⟩
  case istep=>
   rintro x c st'' _ hxk ⟨rfl,l,r,rfl,hlr,hrk,hm,hlo,hhi⟩;dsimp only;by_cases hge:l≥r
   ·have:l=r:=BI hlr hge;subst this;exact aI (Bh _) (BG ⟨rfl,l,l,rfl,hrk,hlo,hhi⟩)
   ·have hmr:(l+r)/2<r:=Z5;have hml:l≤(l+r)/2:=Z5;have hmk:=Bf hmr hrk;refine aG hge (wpS_bind (wpS_ltL (i:=k) (j:=(l+r)/2) hO e4 hkC (Fl hmk hkC) ?_));rw [hx,hy _ hmk];dsimp only;cases hless:κ.blt (kf κ R[k-ok]) (kf κ (Y'[(l+r)/2]'(Bn hmk e1.symm)))
    case true=>
     refine aI rfl (BG ⟨rfl,l,(l+r)/2,rfl,hml,B7 hmk,Ba (DY (DZ hmr) _) (by rw [Hn];exact DY hm 1),hlo,λ i h1 h2=>?_⟩);rcases Dm ((l+r)/2) i with z|z
     ·exact cB (ord κ) hless ((Cw.mp e2) _ i (Bn hmk e1.symm) (Bn h2 e1.symm) z)
     ·have:i=(l+r)/2:=BI z h1;subst this;exact hless
    case false=>
     refine aG Z9 (BG ⟨rfl,(l+r)/2+1,r,rfl,hmr,hrk,Ba (Hf (Ew hml) _) (DY hm 1),λ i h1 h2=>?_,hhi⟩);rcases Dm i ((l+r)/2) with z|z
     ·exact le_trans (ord κ) ((Cw.mp e2) i _ (Bn h2 e1.symm) (Bn hmk e1.symm) z) hless
     ·have:i=(l+r)/2:=BI (CM h1) z;subst this;exact hless
  case ipost=>
   rintro c st'' ⟨rfl,l,r,rfl,hlk,hlo,hhi⟩;have hd:R.drop (k-ok)=R[k-ok]::R.drop (k+1-ok):=by
    rw [Dr hkr];rw [HL hak']
   have hA:At κ st'' pe ((P++Y'.take l)++Y'.drop l++[R[k-ok]]++(R.drop (k+1-ok)++S)):=by
    rw [hd] at e4;have e0:(P++Y'.take l)++Y'.drop l++[R[k-ok]]++(R.drop (k+1-ok)++S)=P++(Y'++R[k-ok]::R.drop (k+1-ok))++S:=by
     rw [Be P,B8];simp [Be]
    rw [e0];exact e4
   have lt:(Y'.take l).length=l:=by rw [Bv,e1,CA hlk]
   have ld:(Y'.drop l).length=k-l:=by rw [By,e1]
   refine wpS_bind (uD hA (by rw [Bb,lt,ld,CI,Cf hlk]) (by rw [Bb,lt]) λ st3 hA3=>BG ⟨rfl,Y'.take l++[R[k-ok]]++Y'.drop l,?_,?_,?_,?_⟩)
   ·rw [Bb,Bb,lt,ld];show l+1+(k-l)=k+1;rw [Nat.add_right_comm,Cf hlk]
   ·have m1:∀y∈Y'.take l,LeK κ y R[k-ok]:=λ y hy=>by
     obtain⟨j,hj,rfl⟩:=Cb.mp hy;rw [lt] at hj;rw [DF];exact hlo j hj (Bf hj hlk)
    have m2:∀y∈Y'.drop l,LeK κ R[k-ok] y:=λ y hy=>by
     obtain⟨j,hj,rfl⟩:=Cb.mp hy;rw [ld] at hj;rw [El];exact le_of_lt (ord κ) (hhi _ (B1 _ _) (Dc hj))
    rw [Be,Bt];refine⟨e2.sublist (Fq _ _),?_,λ a ha b hb=>?_⟩
    ·rw [Fp,Dl];exact⟨m2,e2.sublist (HD _ _)⟩
    ·rcases Br.mp hb with z|z
     ·have:b=R[k-ok]:=by simpa using z
      subst this;exact m1 a ha
     ·exact le_trans (ord κ) (m1 a ha) (m2 b z)
   ·have e5:R.take (k+1-ok)=R.take (k-ok)++[R[k-ok]]:=by
     rw [HL hak',cV hkr]
    rw [e5,<-Be];refine Stb.trans ?_ (e3.app (Stb.refl [R[k-ok]]));have sw:Stb κ.blt (kf κ) (Y'.take l++([R[k-ok]]++Y'.drop l)) (Y'.take l++(Y'.drop l++[R[k-ok]])):=(Stb.refl _).app (dj (ord κ) λ y hy x hx=>by
     have:y=R[k-ok]:=by simpa using hy
     subst this;obtain⟨j,hj,rfl⟩:=Cb.mp hx;rw [ld] at hj;rw [El];exact hhi _ (B1 _ _) (Dc hj)).symm
    rw [<-Be,<-Be,B8] at sw;exact sw
   ·simpa [Be] using hA3
end
noncomputable def bS (o:Nat):List (List Keyed)->List (Nat×Nat)
 | []=>[]
 |r::Rs=>(o,r.length)::bS (o+r.length) Rs
theorem bO (o:Nat):∀Rs,(bS o Rs).length=Rs.length
 | []=>rfl
 |r::Rs=>by show(bS _ Rs).length+1=_;rw [bO _ Rs];rfl
theorem bQ (o:Nat):∀(As Bs:List (List Keyed)),bS o (As++Bs)=bS o As++bS (o+As.flatten.length) Bs
 | [],Bs=>by simp [bS]
 |r::As,Bs=>by
  show(o,r.length)::bS (o+r.length) (As++Bs)=(o,r.length)::(bS (o+r.length) As++_);rw [bQ _ As Bs,CG,Bb,CI]
theorem ja {α β:Type}(f:α->β):∀(l:List α) (i:Nat),(l.eraseIdx i).map f=(l.map f).eraseIdx i
 | [],_=>rfl
 |a::l,0=>rfl
 |a::l,i+1=>by show f a::(l.eraseIdx i).map f=f a::(l.map f).eraseIdx i;rw [ja f l i]
noncomputable abbrev two (e:Nat×Nat×Nat):Nat×Nat:=(e.1,e.2.1)
def Pend (Rs:List (List Keyed))(pe:Array (Nat×Nat×Nat)):Prop:=pe.toList.map two=bS 0 Rs
theorem Pend.size (h:Pend Rs pe):pe.size=Rs.length:=by
 have:=congrArg List.length h;rw [A9,bO,CY] at this;exact this
theorem Pend.push (h:Pend Rs pe){r:List Keyed}(e1:lo=Rs.flatten.length)(e2:n=r.length):Pend (Rs++[r]) (pe.push (lo,n,pw)):=by
 unfold Pend at h ⊢;subst e1 e2;rw [HC,Bm,h,bQ,C5];rfl
theorem Pend.modify (h:Pend Rs pe)(i:Nat){f:Nat×Nat×Nat->Nat×Nat×Nat}(hf:∀e,two (f e)=two e):Pend Rs (pe.modify i f):=by
 unfold Pend at h ⊢;rw [<-h];apply Dq;intro j;rw [B4,B4];have:(pe.modify i f).toList[j]?=if i=j then(pe.toList[j]?).map f else pe.toList[j]?:=by
  rw [GD,GD,Array.getElem?_modify]
 rw [this]
 split
 ·cases e:pe.toList[j]? with
  |none=>rfl
  |some v=>show some (two (f v))=some (two v);rw [hf]
 ·rfl
theorem Pend.at (h:Pend (As++X::Bs) pe){i:Nat}(hi:i=As.length):∃pw,pe[i]?=some (As.flatten.length,X.length,pw):=by
 subst hi;unfold Pend at h;have e:(pe.toList.map two)[As.length]?=some (As.flatten.length,X.length):=by
  rw [h,bQ,BJ (by rw [bO];exact Bh _),bO,EU,C5];rfl
 rw [B4,GD] at e;cases e2:pe[As.length]? with
 |none=>rw [e2] at e;cases e
 |some v=>
  rw [e2] at e;have e3:two v=(As.flatten.length,X.length):=BU e;obtain⟨v1,v2,v3⟩:=v;have e4:=congrArg Prod.fst e3;have e5:=congrArg Prod.snd e3;dsimp only at e4 e5;subst e4 e5;exact⟨v3,rfl⟩
theorem Pend.merge {Z:List Keyed}{i:Nat}(h:Pend (As++X::Y::Bs) pe)(hi:i=As.length)(hZ:Z.length=X.length+Y.length):
  Pend (As++Z::Bs) ((pe.setIfInBounds i (As.flatten.length,X.length+Y.length,pw)).eraseIdxIfInBounds (i+1)):=by
 subst hi;have hs:=h.size;unfold Pend at h ⊢;rw [Bb,Bq,Bq] at hs;have e1:((pe.setIfInBounds As.length (As.flatten.length,X.length+Y.length,pw)).eraseIdxIfInBounds (As.length+1)).toList=(pe.toList.set As.length (As.flatten.length,X.length+Y.length,pw)).eraseIdx (As.length+1):=by
  unfold Array.eraseIdxIfInBounds;rw [dif_pos (by rw [FU];lia),Array.toList_eraseIdx,Hi]
 rw [e1,ja,List.map_set,h,bQ,bQ];show((bS 0 As++(0+As.flatten.length,X.length)::(0+As.flatten.length+X.length,Y.length)::bS (0+As.flatten.length+X.length+Y.length) Bs).set As.length (As.flatten.length,X.length+Y.length)).eraseIdx (As.length+1)=bS 0 As++(0+As.flatten.length,Z.length)::bS (0+As.flatten.length+Z.length) Bs;have lA:=bO 0 As;rw [List.set_append,Bu (Hx.mpr (Bz lA)),lA,EU,List.set_cons_zero,List.eraseIdx_append_of_length_le (Nat.le.intro (congrFun (congrArg HAdd.hAdd lA) 1)),lA,show As.length+1-As.length=1 from DQ _ 1,hZ,C5];show _++(_::bS _ Bs)=_;rw [CI]
section
variable {prog:Ie}{w:Ig}{A:Ii}{E:Ib -> Ic -> Prop}{s:Ic}{κ:KeyKind}
structure Rn (κ:KeyKind)(a0:List Keyed)(st:SortSt)(L:Nat)(Rs:List (List Keyed))(tail:List Keyed):Prop where
 at':∃pe,At κ st pe (Rs.flatten++tail)/\Pend Rs pe
 so:∀r∈Rs,r.Pairwise (LeK κ)/\0<r.length
 len:Rs.flatten.length=L
 st':Stb κ.blt (kf κ) (Rs.flatten++tail) a0
theorem gX (hO:κ.OneLt){a0:List Keyed}{L i:Nat}{tail:List Keyed}(h:Rn κ a0 st L (As++X::Y::Bs) tail)(hi:i=As.length)
  (hq:∀st' Z,Rn κ a0 st' L (As++Z::Bs) tail->Q true st'):wpS (model prog w) A E s (mergeAt' i) Q st:=by
 obtain⟨⟨pe,hA,hP⟩,so,hlen,hst⟩:=h;obtain⟨sX,nX⟩:=so X Z6;obtain⟨sY,nY⟩:=so Y Z6;have ef:(As++X::Y::Bs).flatten++tail=As.flatten++X++Y++(Bs.flatten++tail):=by simp [Be]
 obtain⟨pw,p1⟩:=hP.at hi;obtain⟨pw2,p2⟩:=Pend.at (As:=As++[X]) (X:=Y) (Bs:=Bs) (pe:=pe) (i:=i+1) (by simpa using hP) (by simp [hi]);refine lO hO (P:=As.flatten) (X:=X) (Y:=Y) (S:=Bs.flatten++tail) (pw:=pw) (pw2:=pw2) hA.k hA.f (λ p hp=>hA.has p (by rw [hA.a] at hp;exact hp)) (by rw [hA.a,ef]) sX sY nX nY (by rw [hA.p];exact p1) (by rw [hA.p,p2];simp) λ st' Z b1 b2 b3 b4 b5 b6=>?_
 have lZ:Z.length=X.length+Y.length:=by rw [(stb_perm (ord κ) b6).length_eq,Bb]
 have ez:(As++Z::Bs).flatten++tail=As.flatten++Z++(Bs.flatten++tail):=by simp [Be]
 have st1:Stb κ.blt (kf κ) ((As++Z::Bs).flatten++tail) ((As++X::Y::Bs).flatten++tail):=by
  rw [ez,ef,Be As.flatten X];exact((Stb.refl _).app b6).app (Stb.refl _)
 refine hq st' Z ⟨⟨_,⟨b1,b2,b3,by rw [b4,ez],λ p hp=>hA.has p (Stb.mem (ord κ) st1 hp)⟩,?_⟩,λ r hr=>?_,?_,st1.trans hst⟩
 ·rw [hA.p];exact hP.merge hi lZ
 ·rcases Br.mp hr with z|z
  ·exact so r (by simp [z])
  ·rcases BA.mp z with rfl|z
   ·exact⟨b5,Z5⟩
   ·exact so r (by simp [z])
 ·rw [<-hlen];simp [lZ,CI]
end
theorem nU {α:Type}:∀{Rs:List α} {j:Nat},j+1<Rs.length->∃As X Y Bs,Rs=As++X::Y::Bs/\j=As.length
 | [],j,h=>by simp at h
 | [x],j,h=>by simp at h
 |x::y::Rs,0,_=>⟨[],x,y,Rs,rfl,rfl⟩
 |x::Rs,j+1,h=>by
  obtain⟨As,X,Y,Bs,e,hj⟩:=nU (Rs:=Rs) (j:=j) (by simp at h;assumption);exact⟨x::As,X,Y,Bs,by rw [e];rfl,by simp [hj]⟩
theorem pO:∀{Rs:List (List Keyed)},(∀r∈Rs,0<r.length)->Rs.length≤Rs.flatten.length
 | [],_=>Bh _
 |r::Rs,h=>by
  have h1:=h r Z6;have h2:=pO (Rs:=Rs) λ q hq=>h q (by simp [hq])
  rw [CG,Bb,Bq];lia
section
variable {prog:Ie}{w:Ig}{A:Ii}{E:Ib -> Ic -> Prop}{s:Ic}{κ:KeyKind}
def SrP (κ:KeyKind)(a0:List Keyed)(x:Nat){γ:Type}(r:ForInStep (Option γ×Nat))(st':SortSt):Prop:=match r with
 | .done c'=>∃Rs L,c'=(none,L)/\Rn κ a0 st' L Rs []
 | .yield c'=>∃Rs tail L,c'=(none,L)/\Rn κ a0 st' L Rs tail/\x+1≤L
theorem zg (h:1<n):n-2+1<n:=by omega
theorem wpS_sortAll (hO:κ.OneLt){Q:Unit->SortSt->Prop}(hk:kindOf st=oneType')(hf:failedOf st=none)(hp:pendingOf st=#[])(hall:∀p∈(arrOf st).toList,Has κ p)
  (h:∀st',failedOf st'=none->(arrOf st').toList.Pairwise (LeK κ)->Stb κ.blt (kf κ) (arrOf st').toList (arrOf st).toList->Q () st'):wpS (model prog w) A E s sortRuns' Q st:=by
 obtain⟨a0,ha0⟩:∃a0,(arrOf st).toList=a0:=⟨_,rfl⟩;have hsz:(arrOf st).size=a0.length:=by rw [<-ha0,CY]
 refine wpS_bind (wpS_get ?_)
 extract_lets size minrun lo0
 have hsize:size=a0.length:=hsz
 clear_value size
 have tot:∀{st' L Rs tail},Rn κ a0 st' L Rs tail->L+tail.length=size:=λ {st' L Rs tail} hR=>by
  have:=(stb_perm (ord κ) hR.st').length_eq;rw [Bb,hR.len] at this;exact this.trans hsize.symm
 refine wpS_bind (D2 (DC (I:=λ x c st'=>∃Rs tail L,c=(none,L)/\Rn κ a0 st' L Rs tail/\x≤L) (Q:=λ c st'=>∃Rs L,c=(none,L)/\Rn κ a0 st' L Rs []) ?_ ?_ ?_) ?_)
 rotate_left
 ·rintro c st' ⟨Rs,tail,L,rfl,hR,hx⟩;have t:=tot hR;have:tail=[]:=Db.mp ((EG t).trans (GB hx));subst this;exact⟨Rs,L,rfl,hR⟩
 ·exact⟨[],a0,0,rfl,⟨⟨#[],⟨hk,hf,hp,ha0,λ p hp'=>hall p (by rw [ha0];exact hp')⟩,rfl⟩,(λ _ h=>nomatch h),rfl,Stb.refl _⟩,Bh _⟩
 ·rintro c st2 ⟨Rs,L,rfl,hR⟩;have hlen:=tot hR;have hge:=pO (Rs:=Rs) λ r hr=>(hR.so r hr).2
  rw [hR.len] at hge;refine wpS_bind (D2 (DC (I:=λ x c st'=>c=(none,())/\∃Rs',Rn κ a0 st' L Rs' []/\Rs'.length≤max 1 (size-x)) (Q:=λ c st'=>c=(none,())/\∃Rs',Rn κ a0 st' L Rs' []/\Rs'.length≤1) ?_ ?_ ⟨rfl,Rs,hR,Ba hge (Ba (Bz hlen) (Nat.le_max_right _ _))⟩) ?_)
  ·rintro x c st3 _ hx ⟨rfl,Rs',hR3,hl3⟩;refine wpS_bind (wpS_get ?_);obtain⟨pe,hA,hP⟩:=hR3.at';have hs4:(pendingOf st3).size=Rs'.length:=by rw [hA.p];exact hP.size
   extract_lets p i before i2
   by_cases h1:p.size≤1
   ·refine aI h1 (BG ⟨rfl,Rs',hR3,?_⟩);have h1':(pendingOf st3).size≤1:=h1;exact De hs4.symm h1'
   ·refine aG h1 ?_;have h1':¬(pendingOf st3).size≤1:=h1;have hi2:i2+1<Rs'.length:=by
     have e1:i=(pendingOf st3).size-2:=rfl;have e2:i2=i-1\/i2=i:=by
      show(if _ then _ else _)=i-1\/(if _ then _ else _)=i
      split
      ·exact .inl rfl
      ·exact .inr rfl
     exact hs4▸B0 (Ew (e2.elim (λ e=>e▸Ek _ _) Bz)) (zg (FJ h1'))
    clear_value i2
    obtain⟨As,X,Y,Bs,rfl,hj⟩:=nU hi2;refine wpS_bind (gX hO hR3 hj λ st4 Z hR4=>?_);refine aG Z9 (BG ⟨rfl,_,hR4,?_⟩);simp only [Bb,Bq] at hl3 ⊢;exact Ba (DZ ((Std.le_max.1 hl3).resolve_left λ z=>Nat.not_succ_le_zero _ (Nat.le_of_succ_le_succ (Ba (Nat.le_add_left _ _) z)))) (Nat.le_max_right _ _)
  ·rintro c st3 ⟨rfl,Rs',hR3,hl3⟩;exact⟨rfl,Rs',hR3,Ba hl3 (Nat.max_le.2 ⟨Bh _,Ba (Bz (EU size)) (BX _)⟩)⟩
  ·rintro c st3 ⟨rfl,Rs',hR3,hl3⟩;obtain⟨pe,hA,hP⟩:=hR3.at';refine BG (h st3 hA.f ?_ ?_)
   ·rw [hA.a,Ct];rcases Rs' with _|⟨r,_|⟨_,R⟩⟩
    ·simp
    ·simpa using(hR3.so r Z6).1
    ·cases Nat.le_of_succ_le_succ hl3
   ·rw [ha0,hA.a];exact hR3.st'
 rintro x c st1 _ hx ⟨Rs,tail,L,ec,hR,hxL⟩;subst ec;have t:=tot hR
 extract_lets lo jp force nf
 have elo:lo=L:=rfl
 clear_value lo
 subst elo;by_cases hge:lo≥size
 ·have:tail=[]:=Db.mp ((EG t).trans (GB hge));subst this;exact aI hge (BG ⟨Rs,lo,rfl,hR⟩)
 refine aG hge ?_;obtain⟨pe,hA,hP⟩:=hR.at';refine wpS_bind (jX hO (P:=Rs.flatten) (X:=tail) (S:=[]) (by simpa using hA) hR.len.symm (show size-lo=tail.length from DR (EG t)) ((Nat.le_sub_iff_add_le' (B7 (Nat.not_le.1 hge))).mpr (Nat.not_le.1 hge)) λ m Y st2 m1 m2 lY sY tY hA2=>?_);have m2':m≤tail.length:=Ba m2 (Bz (EG t).symm);dsimp-zeta only
 extract_lets n0
 have hjp:∀(n:Nat) (Y tail':List Keyed) (st3:SortSt),Y.length=n->0<n->Y.Pairwise (LeK κ)->Stb κ.blt (kf κ) (Y++tail') tail->At κ st3 pe (Rs.flatten++(Y++tail'))->
   wpS (model prog w) A E s (jp () n) (SrP κ a0 x) st3:=by
  intro n Y tail' st3 lY nY sY tY hA3;have hR3:Rn κ a0 st3 lo Rs (Y++tail'):=⟨⟨pe,hA3,hP⟩,hR.so,hR.len,((Stb.refl _).app tY).trans hR.st'⟩;refine wpS_bind (wpS_get ?_)
  extract_lets v1 jp2
  have hjp2:∀(st4:SortSt) (Rs':List (List Keyed)),Rn κ a0 st4 lo Rs' (Y++tail')->wpS (model prog w) A E s (jp2 ()) (SrP κ a0 x) st4:=by
   intro st4 Rs' hR4;obtain⟨pe4,hA4,hP4⟩:=hR4.at';have ef:(Rs'++[Y]).flatten++tail'=Rs'.flatten++(Y++tail'):=by simp [Be]
   refine wpS_bind (wpS_modify (BG ⟨Rs'++[Y],tail',lo+n,rfl,⟨⟨(pendingOf st4).push (lo,n,0),⟨hA4.k,hA4.f,rfl,by rw [ef];exact hA4.a,λ p hp=>hA4.has p (by rw [ef] at hp;exact hp)⟩,?_⟩,λ r hr=>?_,?_,by rw [ef];exact hR4.st'⟩,E9 hxL nY⟩))
   ·rw [hA4.p];exact hP4.push hR4.len.symm lY.symm
   ·rcases Br.mp hr with z|z
    ·exact hR4.so r z
    ·have:r=Y:=by simpa using z
     subst this;exact⟨sY,Bn nY lY.symm⟩
   ·have:=hR4.len;simp only [DO,Bb,CG,List.flatten_nil,Ct];rw [this,lY]
  clear_value jp2
  cases hb:(pendingOf st3).back? with
  |none=>
   have:wpS (model prog w) A E s (jp2 ()) (SrP κ a0 x) st3:=hjp2 st3 Rs hR3;simpa only [hb] using this
  |some e=>
   obtain⟨s1,n1,p1⟩:=e;simp only [hb];refine wpS_bind (D2 (DC (I:=λ _ c st'=>c=(none,())/\∃Rs',Rn κ a0 st' lo Rs' (Y++tail')) (Q:=λ c st'=>c=(none,())/\∃Rs',Rn κ a0 st' lo Rs' (Y++tail')) ?_ (λ _ _ q=>q) ⟨rfl,Rs,hR3⟩) ?_)
   ·rintro x2 c st4 _ _ ⟨rfl,Rs',hR4⟩;refine wpS_bind (wpS_get ?_);obtain⟨pe4,hA4,hP4⟩:=hR4.at';have hs4:(pendingOf st4).size=Rs'.length:=by rw [hA4.p];exact hP4.size
    by_cases h2:(pendingOf st4).size>1
    ·obtain⟨As,X,Y1,Bs,rfl,hj⟩:=nU (Rs:=Rs') (j:=(pendingOf st4).size-2) (hs4▸zg h2);obtain⟨pw,p1⟩:=hP4.at (i:=(pendingOf st4).size-2) hj;have e1:(if(pendingOf st4).size>1 then(pendingOf st4)[(pendingOf st4).size-2]? else none)=some (As.flatten.length,X.length,pw):=by
      rw [BM h2,<-p1,hA4.p]
     rw [e1];dsimp only;refine cu (BG ⟨rfl,_,hR4⟩) (wpS_bind (gX hO hR4 hj λ st5 Z hR5=>?_));exact aG Z9 (BG ⟨rfl,_,hR5⟩)
    ·have e1:(if(pendingOf st4).size>1 then(pendingOf st4)[(pendingOf st4).size-2]? else none)=none:=Bu h2;rw [e1];exact BG ⟨rfl,Rs',hR4⟩
   ·rintro c st4 ⟨rfl,Rs',hR4⟩;refine wpS_bind (wpS_modify (hjp2 _ Rs' ?_));obtain⟨pe4,hA4,hP4⟩:=hR4.at';refine⟨⟨_,⟨hA4.k,hA4.f,rfl,hA4.a,hA4.has⟩,?_⟩,hR4.so,hR4.len,hR4.st'⟩;show Pend Rs' ((pendingOf st4).modify ((pendingOf st4).size-1) _);rw [hA4.p];exact hP4.modify _ λ e=>rfl
 clear_value jp
 by_cases Ir:m<minrun
 ·refine aI Ir (wpS_bind (wpS_lift (Fa ⟨rfl,?_⟩)));refine wpS_bind (iT hO (P:=Rs.flatten) (Y:=Y) (R:=tail.drop m) (S:=[]) hA2 hR.len.symm sY lY m1 (show m≤min (size-lo) minrun from Nat.le_min_of_le_of_le m2 (B7 Ir)) (show min (size-lo) minrun≤m+(tail.drop m).length by rw [By,Cf m2'];exact Ba (Da _ _) (Bz (EG t).symm)) λ Y' st3 lY' sY' tY' hA3=>?_);refine aG Z9 (D2 (hjp _ Y' ((tail.drop m).drop (min (size-lo) minrun-m)) st3 lY' (Bf m1 (Nat.le_min_of_le_of_le m2 (B7 Ir))) sY' ?_ (by simpa using hA3)) λ r st' q=>by cases r<;>exact q);have e1:Stb κ.blt (kf κ) (Y'++(tail.drop m).drop (min (size-lo) minrun-m)) ((tail.take m++(tail.drop m).take (min (size-lo) minrun-m))++(tail.drop m).drop (min (size-lo) minrun-m)):=(tY'.trans (tY.app (Stb.refl _))).app (Stb.refl _);rw [Be,B8,B8] at e1;exact e1
 ·refine aG Ir (D2 (hjp m Y (tail.drop m) st2 lY (‹_›) sY ?_ (by simpa using hA2)) λ r st' q=>by cases r<;>exact q);have e1:=tY.app (Stb.refl (blt:=κ.blt) (kf:=kf κ) (tail.drop m));rw [B8] at e1;exact e1
end
end SG
set_option maxHeartbeats 2000000
namespace SG
open PySem PyProof.Rows
abbrev ltI:Int->Int->Bool:=λ a b=>decide (a<b)
noncomputable abbrev ky {β:Type} (p:Int×β):Int:=p.1
theorem ordI:SM.Ord ltI:=⟨λ a=>DT (Int.lt_irrefl a),λ a b c h1 h2=>Bj (Int.lt_trans (Bp h1) (Bp h2)),λ a b c h=>by
  have:=Bp h;by_cases c1:a<b
  ·exact .inl (Bj c1)
  ·exact .inr (Bj (Int.lt_of_le_of_lt (Int.not_lt.1 c1) this)),λ a b h1 h2=>by
  have:=Ff h1;have:=Ff h2;lia⟩
noncomputable def kInt:KeyKind where
 α:=Int
 blt:=λ a b=>decide (a<b)
 irrefl:=λ a=>DT (Int.lt_irrefl a)
 trans:=λ a b c h1 h2=>Bj (Int.lt_trans (Bp h1) (Bp h2))
 negTrans:=λ a b c h=>by
  have:=Bp h;by_cases c1:a<b
  ·exact .inl (Bj c1)
  ·exact .inr (Bj Z5)
 total:=λ a b h1 h2=>by
  have:=Ff h1;have:=Ff h2;lia
 keyOf:=λ v=>match v with
  | .int n _=>some n
  |_=>none
 dflt:=0
theorem kInt_one:kInt.OneLt:=by
 intro prog w A E s x y a b Q hx hy hq;cases x with
 |int n t=>
  cases y with
  |int m u=>
   cases hx;cases hy;exact oneLt_int hq
  |_=>cases hy
 |_=>cases hx
theorem pw_small {α:Type}{R:α->α->Prop}:∀{l:List α},l.length<2->l.Pairwise R
 | [],_=>.nil
 | [x],_=>by simp
 |x::y::l,h=>by simp at h;lia
end SG
namespace L2
open PySem PyProof.Rows QQ
variable {f:HZ}{X:Cx}{s:Ic}{E:Ib->Ic->Prop}{its:List Ib}{H:Hp}{Io:List (HZ×Il)}{ks:List Int}{σ:St}
theorem lF:∀{l1:List (Ib×Ib)} {x:Ib×Ib} {l2:List (Ib×Ib)} {m:List (Int×V)},PR (l1++x::l2) m->∃m1 y m2,m=m1++y::m2/\PR l1 m1/\(∃t,x.1=.int y.1 t)/\RelV y.2 x.2/\PR l2 m2
 | [],x,l2,m,h=>by
  cases h with
  |cons a b c=>exact⟨[],_,_,rfl,.nil,a,b,c⟩
 |z::l1,x,l2,m,h=>by
  cases h with
  |cons a b c=>
   obtain⟨m1,y,m2,rfl,h1,h2,h3,h4⟩:=lF c;exact⟨_::m1,y,m2,rfl,.cons a b h1,h2,h3,h4⟩
theorem x9 {l1 l2:List (Ib×Ib)}{m1 m2:List (Int×V)}(g:PR l1 m1)(h:PR l2 m2):PR (l1++l2) (m1++m2):=by
 induction g with
 |nil=>exact h
 |cons a b _ ih=>exact .cons a b ih
theorem u7 {l:List (Ib×Ib)}{m:List (Int×V)}(h:PR l m){k:Int}(hn:∀z∈l,¬SM.eqv SG.kInt.blt (SG.kf SG.kInt) k z=true):∀z∈m,¬SM.eqv SG.ltI SG.ky k z=true:=by
 induction h with
 |nil=>intro z hz;cases hz
 |cons a b c ih=>
  intro z hz;rcases BA.mp hz with rfl|hz
  ·obtain⟨t,rfl⟩:=a;exact hn _ (BF ..)
  ·exact ih (λ u hu=>hn u (Bw _ hu)) z hz
theorem uK:∀{l' l:List (Ib×Ib)} {m:List (Int×V)},SM.Stb SG.kInt.blt (SG.kf SG.kInt) l' l->PR l m->∃m',SM.Stb SG.ltI SG.ky m' m/\PR l' m'
 | [],l,m,hs,h=>by
  have e:=(SM.stb_perm (SG.ord SG.kInt) hs).length_eq;cases h with
  |nil=>exact⟨[],SM.Stb.refl _,.nil⟩
  |cons a b c=>cases e
 |x::l',l,m,hs,h=>by
  have O:=SG.ord SG.kInt;have hx:=SM.Stb.mem O hs (BF (a:=x) (l:=l'));obtain⟨l1,y,l2,rfl,hy,h1⟩:=SM.first_split ⟨x,hx,SM.eqv_self (blt:=SG.kInt.blt) (kf:=SG.kf SG.kInt) O x⟩;have e:=hs (SG.kf SG.kInt x);have n1:l1.filter (SM.eqv SG.kInt.blt (SG.kf SG.kInt) (SG.kf SG.kInt x))=[]:=Dw.mpr h1;rw [BE (SM.eqv_self O x),BK,n1,CJ,BE hy] at e;obtain⟨rfl,e2⟩:=F5 e;have ht:SM.Stb SG.kInt.blt (SG.kf SG.kInt) l' (l1++l2):=λ k=>by
   by_cases hk:SM.eqv SG.kInt.blt (SG.kf SG.kInt) k x=true
   ·have z:=SM.eqv_iff.mp hk;have:SG.kf SG.kInt x=k:=O.tot _ _ z.1 z.2;subst this;rw [BK,n1,CJ];exact e2
   ·have e3:=hs k;rw [BN hk,BK,BN hk] at e3;rw [BK];exact e3
  obtain⟨m1,y,m2,rfl,p1,⟨t,hy1⟩,p2,p3⟩:=lF h;obtain⟨m',q1,q2⟩:=uK ht (x9 p1 p3);have hkx:SG.kf SG.kInt x=y.1:=by
   obtain⟨x1,x2⟩:=x;have e9:x1=.int y.1 t:=hy1;subst e9;rfl
  have km:∀z∈m1,¬SM.eqv SG.ltI SG.ky y.1 z=true:=by
   rw [hkx] at h1;exact u7 p1 h1
  refine⟨y::m',λ k=>?_,?_⟩
  ·by_cases hk:SM.eqv SG.ltI SG.ky k y=true
   ·have z:=SM.eqv_iff.mp hk;have:y.1=k:=SG.ordI.tot _ _ z.1 z.2;subst this;have n2:m1.filter (SM.eqv SG.ltI SG.ky y.1)=[]:=Dw.mpr km;have q:=q1 y.1;rw [BK,n2,CJ] at q;rw [BE hk,BK,n2,CJ,BE hk,q]
   ·have q:=q1 k;rw [BK] at q;rw [BN hk,BK,BN hk,q]
  ·obtain⟨x1,x2⟩:=x;obtain⟨y1,y2⟩:=y;exact .cons ⟨t,hy1⟩ p2 q2
theorem rk {A:Ii}{a:HZ}{n:Nat}{P:Fin->Ic->Prop}
  (I:Inv X Io σ H s) (ho:s.heap.get? a=some (seqObj "list" its.toArray n)) (fa:FpOk X Io H a) (hl:its.length=ks.length) (h64:its.length≤1000)
  (hcall:∀(pins':List (HZ×Il)) (s':Ic) (E':Ib->Ic->Prop) (i:Nat) (x:Ib) (k:Int),its[i]?=some x->ks[i]?=some k->Inv X pins' σ H s'->wpAny (model X.prog X.w) A (call (.ref f) [x]) (λ r s''=>(∃t,r=.int k t)/\Inv X pins' σ H s'') E' s')
  (h:∀(s':Ic) (out:Array Keyed) (kv:List Ib),Inv X Io σ H s'->(∃e,s'.heap.get? a=some (seqObj "list" (out.map (·.2)) e))->IntsAre kv ks->out.toList.Pairwise (SG.LeK SG.kInt)->SM.Stb SG.kInt.blt (SG.kf SG.kInt) out.toList (kv.zip its)->P (.done (.ret .none)) s'):
  wpAny (model X.prog X.w) A (Builtin.«list.sort» ⟨[.ref a],[(Str.ofString "key",.ref f)]⟩) P E s:=by
 rw [iX];have ha:a<s.heap.objs.size:=BD ho;refine Bc (listItems_at ho rfl ?_);refine Bc (F6 ho rfl ?_);obtain⟨e1,ho1⟩:∃e1,(s.heap.update a (Obj.mapSeq λ _=>#[])).get? a=some (seqObj "list" #[] e1):=⟨_,F7 ho (λ _=>#[])⟩;have I1:Inv X Io σ H {s with heap:=s.heap.update a (Obj.mapSeq λ _=>#[])}:=I.turn fa;have hs1:(s.heap.update a (Obj.mapSeq λ _=>#[])).objs.size=s.heap.objs.size:=Heap.size_update ..;generalize s.heap.update a (Obj.mapSeq λ _=>#[])=h1 at*;refine Bc (seqEpoch_at ho1 rfl ?_);refine Bc (wpAny_newTuple ?_);refine Bc (wpAny_newList ?_);refine Dh ?_;have ho3:((h1.push (seqObj "tuple" its.toArray 0)).push (seqObj "list" #[] 0)).get? a=some (seqObj "list" #[] e1):=Bi _ (Bi _ ho1);have I3:Inv X Io σ H {s with heap:=(h1.push (seqObj "tuple" its.toArray 0)).push (seqObj "list" #[] 0)}:=I1.kept (t':=s.toks) λ b o e=>Bi _ (Bi _ e)
 have hc3:((h1.push (seqObj "tuple" its.toArray 0)).push (seqObj "list" #[] 0)).get? (h1.push (seqObj "tuple" its.toArray 0)).objs.size=some (seqObj "list" ([]:List Ib).toArray 0):=BY _ rfl;have hcs:s.heap.objs.size≤(h1.push (seqObj "tuple" its.toArray 0)).objs.size:=by rw [size_push',hs1];lia
 have fc:FpOk X Io H (h1.push (seqObj "tuple" its.toArray 0)).objs.size:=I.fpOk hcs (I.hok.fresh hcs);have nac:a≠(h1.push (seqObj "tuple" its.toArray 0)).objs.size:=Ci (Bf ha hcs);show wpAny (model X.prog X.w) A _ P E {s with heap:=(h1.push (seqObj "tuple" its.toArray 0)).push (seqObj "list" #[] 0)};generalize (h1.push (seqObj "tuple" its.toArray 0)).objs.size=c at*;generalize (h1.push (seqObj "tuple" its.toArray 0)).push (seqObj "list" #[] 0)=h3 at*;dsimp only;refine Bc (Fa ?_);refine Bc (wpAny_forIn_array' _ (λ rest _ s'=>∃(i:Nat) (kv:List Ib),rest=its.drop i/\i≤its.length/\IntsAre kv (ks.take i)/\Inv X Io σ H s'/\s'.heap.get? a=some (seqObj "list" #[] e1)/\∃e2,s'.heap.get? c=some (seqObj "list" kv.toArray e2)) _ ?_ ?_ _ _ ⟨0,[],rfl,BX _,.nil,I3,ho3,0,hc3⟩)
 ·rintro x rest _ s' ⟨i,kv,hr,hi,hkv,I',hoa,e2,hoc⟩;have hx:its[i]?=some x:=by
   have:(its.drop i)[0]?=some x:=by rw [<-hr];rfl
   rw [ED] at this;simpa using this
  have hil:i<its.length:=(Bo.mp hx).1;have hk:ks[i]?=some ks[i]:=Bg Z4;have hrest:rest=its.drop (i+1):=by
   rw [Dr hil] at hr;exact(F5 hr).2
  have Ip:=I'.pinned (fp:=[a,c]) (λ b hb=>by
   rcases BA.mp hb with rfl|hb
   ·exact fa
   ·rw [Bx.mp hb];exact fc) (λ b hb=>by
   rcases BA.mp hb with rfl|hb
   ·exact⟨_,hoa,dy⟩
   ·rw [Bx.mp hb];exact⟨_,hoc,dy⟩)
  refine Bc (E2 (Dj (hcall _ s' _ i x ks[i] hx hk Ip) (λ r s'' z9=>?_) λ _ _ e=>e));obtain⟨⟨t,hrv⟩,I''⟩:=z9;subst hrv;have hoa':s''.heap.get? a=some (seqObj "list" #[] e1):=(I''.pin _ (BB _ (BB _ (bp Z6 hoa)))).1;have hoc':s''.heap.get? c=some (seqObj "list" kv.toArray e2):=(I''.pin _ (BB _ (BB _ (bp Z6 hoc)))).1;have I2:=I''.unpinned;have hlk:kv.length=i:=by rw [hkv.length,Bv];lia
  dsimp only;refine Bc (F6 hoc' rfl (BH ?_) (hsz:=by rw [BC,hlk,EJ];lia) (hsz2:=by rw [Array.size_push,BC,hlk,EJ];lia));refine⟨i+1,kv++[.int ks[i] t],hrest,hil,?_,I2.turn fc,?_,?_⟩
  ·rw [CQ,hk];exact qk hkv
  ·show(s''.heap.update c _).get? a=_;rw [DP _ _ _ _ nac];exact hoa'
  ·have e:=F7 hoc' (λ x=>x.push (Value.int ks[i] t));rw [List.push_toArray] at e;exact⟨_,e⟩
 ·rintro _ s' ⟨i,kv,hr,hi,hkv,I',hoa,e2,hoc⟩;have hie:i=its.length:=by
   have:=congrArg List.length hr;rw [By] at this;simp at this;lia
  rw [hie,hl,Cc] at hkv;have hlk:kv.length=its.length:=by rw [hkv.length,hl]
  have hz:(kv.toArray.zip its.toArray).size=its.length:=by rw [Array.size_zip];simp;exact DD (Bz hlk.symm)
  have I4:Inv X Io σ H {s' with heap:=s'.heap.update c (Obj.mapSeq λ _=>#[])}:=I'.turn fc;have hoa4:(s'.heap.update c (Obj.mapSeq λ _=>#[])).get? a=some (seqObj "list" #[] e1):=by rw [DP _ _ _ _ nac];exact hoa
  have fin:∀out:Array Keyed,out.toList.Pairwise (SG.LeK SG.kInt)->SM.Stb SG.kInt.blt (SG.kf SG.kInt) out.toList (kv.zip its)->P (.done (.ret .none)) {s' with heap:=(s'.heap.update c (Obj.mapSeq λ _=>#[])).update a (Obj.mapSeq λ _=>out.map (·.2))}:=by
   intro out hp hs;have e5:=F7 hoa4 (λ _=>out.map (·.2));generalize s'.heap.update c (Obj.mapSeq λ _=>#[])=h4 at*;have I5:Inv X Io σ H {s' with heap:=h4.update a (Obj.mapSeq λ _=>out.map (·.2))}:=Inv.turn (s:={s' with heap:=h4}) I4 fa;generalize h4.update a (Obj.mapSeq λ _=>out.map (·.2))=h5 at*;exact h _ out kv I5 ⟨_,e5⟩ hkv hp hs
  refine Bc (listItems_at hoc rfl ?_);by_cases h2:its.toArray.size<2
  ·rw [BM h2,BM h2];refine Bc (BH ?_);rw [StateT.run_pure];refine Bc (BH ?_);dsimp only;refine Bc (F6 hoc rfl ?_ (hsz:=by rw [BC,hlk,EJ];lia));refine Bc (Ha ?_);refine Bc (seqEpoch_at hoa4 rfl ?_);refine Bc (F6 hoa4 rfl ?_ (hsz2:=by rw [Array.size_map];show(kv.toArray.zip its.toArray).size≤_;rw [hz,EJ];lia));simp only [bne_self_eq_false,Dk,FE];refine BH (fin _ (SG.pw_small ?_) ?_)
   ·rw [CY];show(kv.toArray.zip its.toArray).size<2;rw [BC] at h2;exact lt_of_eq_of_lt hz h2
   ·have:(kv.toArray.zip its.toArray).toList=kv.zip its:=Z6;show SM.Stb _ _ (kv.toArray.zip its.toArray).toList _;rw [this];exact SM.Stb.refl _
  ·rw [Bu h2,Bu h2];rw [BC] at h2;have hkk:keyKind' kv.toArray=pure oneType':=by
    match kv,hkv,hlk with
    | [],_,hlk=>simp at hlk;lia
    | [_],_,hlk=>simp at hlk;lia
    |v₁::v₂::vs,hkv,_=>exact keyKind_ints hkv
   rw [hkk];refine Bc (BH ?_);have hzl:(kv.toArray.zip its.toArray).toList=kv.zip its:=Z6;have hik:∀p∈(arrOf (SortSt.mk' oneType' (kv.toArray.zip its.toArray) #[] 7 none)).toList,SG.Has SG.kInt p:=by
    intro p hp;have hp':p∈kv.zip its:=by rw [<-hzl];exact hp
    obtain⟨n,t,e⟩:=hkv.all _ (F3 hp').1;exact⟨n,by rw [e];rfl⟩
   refine Bc (Dj (SG.wpS_sortAll SG.kInt_one (st:=SortSt.mk' oneType' (kv.toArray.zip its.toArray) #[] 7 none)
    (Q:=λ _ st'=>(arrOf st').toList.Pairwise (SG.LeK SG.kInt)/\failedOf st'=none/\SM.Stb SG.kInt.blt (SG.kf SG.kInt) (arrOf st').toList (kv.zip its))
    rfl rfl rfl hik λ st' a1 a2 a3=>⟨a2,a1,by rw [<-hzl];exact a3⟩) ?_ λ _ _ e=>e)
   rintro⟨⟨⟩,st'⟩ s'' ⟨rfl,hp,hf,hs⟩;have hsz9:(arrOf st').size=its.length:=by rw [<-CY,(SM.stb_perm (SG.ord SG.kInt) hs).length_eq,G8,hlk,Nat.min_self]
   dsimp only;refine Bc (F6 hoc rfl ?_ (hsz:=by rw [BC,hlk,EJ];exact Ba h64 Z9));refine Bc (Ha ?_);refine Bc (seqEpoch_at hoa4 rfl ?_);refine Bc (F6 hoa4 rfl ?_ (hsz2:=by rw [Array.size_map,hsz9,EJ];omega));rw [hf];simp only [bne_self_eq_false,Dk,FE];exact BH (fin _ hp hs)
theorem lG {p:HZ}{Q:Ib->Ic->Prop}
  (I:Inv X Io σ H s) (hp:s.heap.IsList p its.toArray) (hl:its.length=ks.length) (h64:its.length≤1000)
  (hcall:∀(pins':List (HZ×Il)) (s':Ic) (E':Ib->Ic->Prop) (i:Nat) (x:Ib) (k:Int),its[i]?=some x->ks[i]?=some k->Inv X pins' σ H s'->wpAny (model X.prog X.w) X.A.in1.in1 (call (.ref f) [x]) (λ r s''=>(∃t,r=.int k t)/\Inv X pins' σ H s'') E' s')
  (h:∀(s':Ic) (l:HZ) (out:Array Keyed) (kv:List Ib),Inv X Io σ H s'->FpOk X Io H l->(∃e,s'.heap.get? l=some (seqObj "list" (out.map (·.2)) e))->IntsAre kv ks->out.toList.Pairwise (SG.LeK SG.kInt)->SM.Stb SG.kInt.blt (SG.kf SG.kInt) out.toList (kv.zip its)->Q (.ref l) s'):
  wpAny (model X.prog X.w) X.A (call (.builtin "sorted") [.ref p] [(Str.ofString "key",.ref f)]) Q E s:=by
 refine call_function_entry_kw kind_sorted plain_sorted entry_sorted (gy _ _) ?_;unfold Builtin.«sorted»;refine Bc (m:=checkCount "sorted" 1 1 _) (BH ?_);refine Bc (collect_list hp ?_);refine Bc (wpAny_newList ?_);have hsz:((s.heap.push (seqObj "list" #[] 0)).update s.heap.objs.size (Obj.mapSeq (·++its.toArray))).objs.size=s.heap.objs.size+1:=by
  rw [Heap.size_update,size_push']
 have hoL:(((s.heap.push (seqObj "list" #[] 0)).update s.heap.objs.size (Obj.mapSeq (·++its.toArray))).push (seqObj "list" its.toArray 0)).get? (s.heap.objs.size+1)=some (seqObj "list" its.toArray 0):=by
  rw [<-hsz];exact BY _ rfl
 have I2:Inv X Io σ H {s with heap:=((s.heap.push (seqObj "list" #[] 0)).update s.heap.objs.size (Obj.mapSeq (·++its.toArray))).push (seqObj "list" its.toArray 0)}:=I.kept (t':=s.toks) λ b o e=>
  Bi _ (by rw [DP _ _ _ _ (Ci (BD e))];exact Bi _ e)
 show wpAny _ _ _ _ _ {s with heap:=((s.heap.push (seqObj "list" #[] 0)).update s.heap.objs.size (Obj.mapSeq (·++its.toArray))).push (seqObj "list" its.toArray 0)};rw [hsz];have fl:FpOk X Io H (s.heap.objs.size+1):=I.fpOk (Es _) (I.hok.fresh (Es _));refine Bc (Dh (wpAny_call_entry_kw slot_list_sort ⟨_,hoL,rfl⟩ entry_list_sort (rk I2 hoL fl hl h64 hcall λ s' out kv a1 a2 a3 a4 a5=>⟨_,rfl,?_⟩) (eF _ _)));exact BH ⟨_,rfl,h s' _ out kv a1 fl a2 a3 a4 a5⟩
def vZ (K:Frag)(sp:Sp)(t:TA):TE:=λ σ H Q=>t σ H λ zs H1=>∃(p:HZ) (xs:List V) (ks:List Int),zs=[.ref p]/\SqL K H1 p xs/\xs.length=ks.length/\xs.length≤1000/\
 (∀(i:Nat) (v:V) (k:Int),xs[i]?=some v->ks[i]?=some k->sp [v] H1 (λ r H2=>r=.int k/\H2=H1) E0)/\
 ∀(l:HZ) (m:List (Int×V)),H1 l=none->(m.map (·.1)).Pairwise (·≤·)->SM.Stb SG.ltI SG.ky m (ks.zip xs)->Q (.ref l) (upd H1 l (.lst (m.map (·.2))))
section
variable {X:Cx}{k:Nat}{f:HZ}{fd:Ih}{x:Str}{sp:Sp}{e:Ik}{te:TE}{fe:Ik}{p kp pos:Pos}{y:Str}
theorem jf {t:TA}(F:FnOk X.prog X.w X.K X.mg X.base CX0 k f fd [y] sp)(hr:Room (k+2) X.A)(hb:Binds X.K fd [y] [])(hg:Gl X "sorted")(hm:X.mg "sorted"=none)(hf:PE X fe (tC (.ref f)))(ha:PA X [e] t)
  (he:autoParam (backTo pos (starEach (e:: []) X.env)=(false,eval e X.env)::backTo pos (starEach [] X.env)) Z0) (hplain:autoParam ((backTo pos (starEach (e:: []) X.env)).any (·.1)=false) Z0)
  (hall:autoParam ((backToKw pos (keywordEach [⟨some "key",fe,kp⟩] X.env)).all (·.1.isSome)=true) Z0)
  (hkw:autoParam ((backToKw pos (keywordEach [⟨some "key",fe,kp⟩] X.env)).any (·.1.isNone)=false) Z0)
  (hfm:autoParam ((backToKw pos (keywordEach [⟨some "key",fe,kp⟩] X.env)).filterMap (·.1)=[("key":Str)]) Z0):
  PE X (.Call (.Name "sorted" p) [e] [⟨some "key",fe,kp⟩] pos) (vZ X.K sp t):=by
 intro Io s σ H Q I h;refine DJ (ld_blt I hg hm (show bootBuiltins "sorted"=some (.builtin "sorted") from Z8) ?_);refine PyProof.Rows.callWith_kw (e:=e) (rest:=[]) (thn (ha pos Io s σ H _ I h) λ us s1 z9=>?_) he hplain hall hkw;obtain⟨vs,H1,I1,r1,q1⟩:=z9;refine kws_cons (thn (hf Io s1 σ H1 (λ v H2=>v=.ref f/\H2=H1) I1 ⟨rfl,rfl⟩) λ fv s2 ⟨v,H2,I2,r2,e1,e2⟩=>kws_nil ?_);subst e1 e2;obtain rfl:fv=Value.ref f:=r2;rw [hfm];obtain⟨p,xs,ks,rfl,hq,hlen,h64,hsp,q⟩:=q1;obtain⟨u,rfl,ru⟩:=fk r1;obtain rfl:u=Value.ref p:=ru;obtain⟨its,rv,pl,hz⟩:=I2.list hq;have hil:=rv.length;show wpAny _ _ (call (.builtin "sorted") [.ref p] [(Str.ofString "key",.ref f)]) _ _ s2;refine lG (ks:=ks) I2 pl.isList Z5 (Ba (Bz hil.symm) h64) (λ pins' s' E' i x k' hx hk I'=>?_) λ s' l out kv I' fl ⟨en,ho⟩ hkv hp hs=>?_
 ·obtain⟨v,hv,rvv⟩:∃v,xs[i]?=some v/\RelV v x:=by
   have hix:i<xs.length:=by have:=(Bo.mp hx).1;exact Bn this hil.symm
   obtain⟨u,e3,r3⟩:=rv.get (i:=i) (x:=xs[i]) (Bg hix);rw [hx] at e3;cases e3;exact⟨_,Bg hix,r3⟩
  refine Gp (Gu (F.run X.A.in1.in1 X.stack s' H2 ⟨[x],[]⟩ [x] [v] _ E0 hr.in1.in1 I'.env0.in1.in1 (hb s' [x] I'.kIn rfl) (.cons rvv .nil) (hsp i v k' hv hk)) λ r s'' hq=>?_);cases r with
  |error e=>exact False.elim hq
  |ok fl=>
   cases fl with
   |ret u=>
    obtain⟨v',H',I'',rr,e1,e2⟩:=I'.after hq;subst e1 e2;exact⟨rr,I''⟩
   |next=>exact False.elim hq
   |brk=>exact False.elim hq
   |cont=>exact False.elim hq
 ·obtain⟨m,hst,hpr⟩:=uK hs (yP hkv rv);have hvals:=wu hpr;have hml:=yO hpr;have hol:out.toList.length=its.length:=by rw [(SM.stb_perm (SG.ord SG.kInt) hs).length_eq,G8,hkv.length];lia
  refine⟨.ref l,_,I'.adopt fl (its:=out.toList.map (·.2)) hvals (by rw [A9];rw [EJ];lia) (n:=en) (by rw [ho,<-Array.toList_map]),rfl,q l m fl.1 ?_ hst⟩;rw [Cw];intro i j hi hj hij;rw [A9] at hi hj;have key:∀(i:Nat) (h:i<m.length) (h2:i<out.toList.length),SG.kf SG.kInt (out.toList[i]'h2)=m[i].1:=by
   intro i hi hi2;obtain⟨t,v,e⟩:=An hpr (Bg hi);have e':out.toList[i]=(.int m[i].1 t,v):=BU ((Bg hi2).symm.trans e);rw [e'];rfl
  have l1:=(Cw.mp hp) i j Z5 Z5 hij;rw [List.getElem_map,List.getElem_map];have l2:SG.kInt.blt (SG.kf SG.kInt (out.toList[j]' Z4)) (SG.kf SG.kInt (out.toList[i]' Z4))=false:=l1;rw [key i hi,key j hj] at l2;have l3:¬m[j].1<m[i].1:=λ z=>by
   have:SG.kInt.blt m[j].1 m[i].1=true:=Bj z;rw [this] at l2;cases l2
  exact Int.not_lt.mp l3
end
end L2
namespace PM
variable {f wt:Nat->Nat}{L S:List Nat}{k m p:Nat}{R:List Bd}
abbrev Bd:=Nat×List Nat
noncomputable def pairs:List Bd->List Bd
 |a::b::r=>(a.1+b.1,a.2++b.2)::pairs r
 |_=>[]
def occ (R:List Bd)(p:Nat):Nat:=(R.map λ b=>b.2.count p).sum
def Sorted (B:List Bd):Prop:=B.Pairwise λ a b=>a.1≤b.1
theorem eZ {a b:List Nat}(h:a.Perm b):a.sum=b.sum:=by
 induction h with
 |nil=>rfl
 |cons x _ ih=>simp [ih]
 |swap x y l=>simp;exact Nat.add_left_comm _ _ _
 |trans _ _ h1 h2=>exact h1.trans h2
theorem lR {S:List Bd}(h:R.Perm S)(p:Nat):occ R p=occ S p:=eZ (h.map _)
theorem iM (R S:List Bd)(p:Nat):occ (R++S) p=occ R p+occ S p:=by simp [occ]
theorem dm (b:Bd)(S:List Bd)(p:Nat):occ (b::S) p=b.2.count p+occ S p:=by simp [occ]
theorem AZ {U X Y:List Bd}(h:(R++U).Perm (X++Y)):∃RX RY UX UY,R.Perm (RX++RY)/\U.Perm (UX++UY)/\X.Perm (RX++UX)/\Y.Perm (RY++UY):=by
 induction R generalizing X Y with
 |nil=>exact⟨[],[],X,Y,.nil,h,.refl _,.refl _⟩
 |cons r R ih=>
  have hr:r∈X++Y:=h.subset BF;rcases Br.mp hr with hX|hY
  ·have e:=Fv hX;have h2:(R++U).Perm (X.erase r++Y):=(h.trans (e.append_right Y)).cons_inv;obtain⟨RX,RY,UX,UY,h3,h4,h5,h6⟩:=ih h2;exact⟨r::RX,RY,UX,UY,h3.cons r,h4,e.trans (h5.cons r),h6⟩
  ·have e:=Fv hY;have h2:(R++U).Perm (X++Y.erase r):=(h.trans ((e.append_left X).trans E7)).cons_inv;obtain⟨RX,RY,UX,UY,h3,h4,h5,h6⟩:=ih h2;exact⟨RX,r::RY,UX,UY,(h3.cons r).trans E7.symm,h4,h5,e.trans (h6.cons r)⟩
theorem qN:∀(n:Nat) {B RP UP:List Bd},B.length≤n->Sorted B->(RP++UP).Perm (pairs B)->(∀r∈RP,∀u∈UP,r.1≤u.1)->
  ∃R U,(R++U).Perm B/\(∀r∈R,∀u∈U,r.1≤u.1)/\R.length=2*RP.length/\(∀p,occ R p=occ RP p)/\∀r∈R,∃q∈RP,∃x∈B,q.1=r.1+x.1:=by
 intro n
 induction n with
 |zero=>
  intro B RP UP hB _ h _;have e:B=[]:=Db.mp (Nat.eq_zero_of_le_zero hB);subst e;have:RP=[]/\UP=[]:=by
   have:=HE.mp h;simpa using this
  obtain⟨rfl,rfl⟩:=this;exact⟨[],[],.nil,λ _ h=>(by simp at h),rfl,λ _=>rfl,λ _ h=>(by simp at h)⟩
 |succ n ih=>
  intro B RP UP hB hs h hle
  match B,hB,hs,h with
  | [],_,_,h=>
   have:RP=[]/\UP=[]:=by
    have:=HE.mp h;simpa using this
   obtain⟨rfl,rfl⟩:=this;exact⟨[],[],.nil,λ _ h=>(by simp at h),rfl,λ _=>rfl,λ _ h=>(by simp at h)⟩
  | [x],_,_,h=>
   have:RP=[]/\UP=[]:=by
    have:=HE.mp h;simpa using this
   obtain⟨rfl,rfl⟩:=this;exact⟨[],[x],.refl _,λ _ h=>(by simp at h),rfl,λ _=>rfl,λ _ h=>(by simp at h)⟩
  |a::b::r,hB,hs,h=>
   have hs':Sorted r:=(Dl.mp (Dl.mp hs).2).2;have ha:=(Dl.mp hs).1;have hb:=(Dl.mp (Dl.mp hs).2).1;have hab:a.1≤b.1:=ha b BF;have hm:(a.1+b.1,a.2++b.2)∈RP++UP:=h.symm.subset BF;rcases Br.mp hm with hR|hU
   ·have e:=Fv hR;have h2:(RP.erase (a.1+b.1,a.2++b.2)++UP).Perm (pairs r):=((e.append_right UP).symm.trans h).cons_inv;obtain⟨R,U,h3,h4,h5,h6,h7⟩:=ih (by simp at hB;exact Dp hB) hs' h2 λ x hx u hu=>hle x (Gz hx) u hu
    have hl:=e.length_eq;rw [Bq] at hl;refine⟨a::b::R,U,(h3.cons b).cons a,?_,?_,λ p=>?_,?_⟩
    ·intro x hx u hu;have hur:u∈r:=h3.subset (BB _ hu);rcases BA.mp hx with rfl|hx
     ·exact ha u (Bw _ hur)
     ·rcases BA.mp hx with rfl|hx
      ·exact hb u hur
      ·exact h4 x hx u hu
    ·rw [Bq,Bq,h5];lia
    ·rw [lR e p,dm,dm,dm,h6 p];show _=(a.2++b.2).count p+_;rw [Fs];lia
    ·intro x hx;rcases BA.mp hx with rfl|hx
     ·exact⟨_,hR,b,Z6,rfl⟩
     ·rcases BA.mp hx with rfl|hx
      ·exact⟨_,hR,a,Z6,Fh _ _⟩
      ·obtain⟨q,hq,y,hy,e⟩:=h7 x hx;exact⟨q,Gz hq,y,Bw _ (Bw _ hy),e⟩
   ·have e:=Fv hU;have h2:(RP++UP.erase (a.1+b.1,a.2++b.2)).Perm (pairs r):=(E7.symm.trans ((e.append_left RP).symm.trans h)).cons_inv;obtain⟨R,U,h3,h4,h5,h6,h7⟩:=ih (by simp at hB;lia) hs' h2 λ x hx u hu=>hle x hx u (Gz hu)
    have key:∀x∈R,x.1≤a.1/\x.1≤b.1:=by
     intro x hx;obtain⟨q,hq,y,hy,e⟩:=h7 x hx;have h8:q.1≤a.1+b.1:=hle q hq _ hU;have h9:=hb y hy;lia
    refine⟨R,a::b::U,?_,?_,h5,h6,λ x hx=>?_⟩
    ·exact E7.trans ((E7.trans (h3.cons b)).cons a)
    ·intro x hx u hu;rcases BA.mp hu with rfl|hu
     ·exact(key x hx).1
     ·rcases BA.mp hu with rfl|hu
      ·exact(key x hx).2
      ·exact h4 x hx u hu
    ·obtain⟨q,hq,y,hy,e⟩:=h7 x hx;exact⟨q,hq,y,Bw _ (Bw _ hy),e⟩
inductive Lev (sg:List Bd):Nat->List Bd->Prop
 |zero:Lev sg 0 []
 |step {k:Nat} {B B':List Bd}:Lev sg k B->B'.Perm (sg++pairs B)->Sorted B'->Lev sg (k+1) B'
noncomputable def sgl (wt:Nat->Nat) (p:Nat):Bd:=(wt p,[p])
theorem kT {RX UX:List Bd}(h:(L.map (sgl wt)).Perm (RX++UX)):∃RL UL,L.Perm (RL++UL)/\RX=RL.map (sgl wt)/\UX=UL.map (sgl wt):=by
 have g:∀b∈RX++UX,sgl wt (b.2.headD 0)=b:=by
  intro b hb;obtain⟨p,_,rfl⟩:=DI.mp (h.symm.subset hb);rfl
 refine⟨RX.map (·.2.headD 0),UX.map (·.2.headD 0),?_,?_,?_⟩
 ·have:=h.map (·.2.headD 0);rw [Dv,Bm] at this;have e:((λ b:Bd=>b.2.headD 0)∘sgl wt)=id:=by funext p;rfl
  rw [e,List.map_id] at this;exact this
 ·rw [Dv]
  conv=>lhs;rw [<-List.map_id RX]
  exact FQ λ b hb=>(g b (C4 _ hb)).symm
 ·rw [Dv]
  conv=>lhs;rw [<-List.map_id UX]
  exact FQ λ b hb=>(g b (BB _ hb)).symm
theorem oR:∀{M:List Nat} {p:Nat},occ (M.map (sgl wt)) p=M.count p
 | [],p=>rfl
 |q::M,p=>by
  rw [DE,dm,oR];show [q].count p+_=_;rw [FW,FW];simp;exact Fh _ _
theorem jx:∀{M:List Nat},M.Nodup->p∈M->M.count p=1
 | [],_,h=>by simp at h
 |a::M,hn,h=>by
  have hn':=F9.mp hn;rw [FW];by_cases e:a=p
  ·subst e;rw [Ef hn'.1];simp
  ·have hm:p∈M:=by
    rcases BA.mp h with h|h
    ·exact absurd h.symm e
    ·exact h
   rw [jx hn'.2 hm];simp [e]
def kr (R:List Bd)(k:Nat)(S:List Nat):Nat:=(S.map λ p=>2^(k-occ R p)).sum
theorem qM {c:Nat}(h:∀p∈S,f p=c):(S.map f).sum=c*S.length:=by
 induction S with
 |nil=>rfl
 |cons a S ih=>
  rw [DE,Ft,h a BF,ih λ p hp=>h p (Bw _ hp),Bq,Nat.mul_succ];exact Fh _ _
theorem qK {g:Nat->Nat}(h:∀p∈S,f p=g p):(S.map f).sum=(S.map g).sum:=by rw [FQ h]
theorem uf (hL:L.Nodup)(hw:∀p∈L,0<wt p){B:List Bd}(lv:Lev (L.map (sgl wt)) k B):Sorted B/\(∀b∈B,0<b.1)/\
  ∀R U,(R++U).Perm B->(∀r∈R,∀u∈U,r.1≤u.1)->∃S T,L.Perm (S++T)/\(∀p∈S,1≤occ R p/\occ R p≤k/\sgl wt p∈R)/\(∀p,p∉S->occ R p=0)/\2*kr R k S+2^k*R.length=2^(k+1)*S.length:=by
 induction lv with
 |zero=>
  refine⟨.nil,λ _ h=>(by simp at h),λ R U h _=>?_⟩;have:R=[]/\U=[]:=by
   have:=HE.mp h;simpa using this
  obtain⟨rfl,rfl⟩:=this;exact⟨[],L,.refl _,λ _ h=>(by simp at h),λ _ _=>rfl,rfl⟩
 | @step k B B' _ hp hs ih=>
  obtain⟨hsB,hpos,ih⟩:=ih;have pos_pairs:∀(n:Nat) (B:List Bd),B.length≤n->(∀b∈B,0<b.1)->∀b∈pairs B,0<b.1:=by
   intro n
   induction n with
   |zero=>intro B hB _ b hb;have:B=[]:=Db.mp Z5;subst this;simp [pairs] at hb
   |succ n ih2=>
    intro B hB h b hb
    match B,hB,h,hb with
    | [],_,_,hb=>simp [pairs] at hb
    | [x],_,_,hb=>simp [pairs] at hb
    |x::y::r,hB,h,hb=>
     rcases BA.mp hb with rfl|hb
     ·have:=h x BF;show 0<x.1+y.1;exact Nat.add_pos_left this _
     ·exact ih2 r (by simp at hB;lia) (λ b hb=>h b (Bw _ (Bw _ hb))) b hb
  refine⟨hs,λ b hb=>?_,λ R U h hle=>?_⟩
  ·rcases Br.mp (hp.subset hb) with hb|hb
   ·obtain⟨p,hpL,rfl⟩:=DI.mp hb;exact hw p hpL
   ·exact pos_pairs _ B (Bh _) hpos b hb
  ·obtain⟨RX,RP,UX,UP,h1,h2,h3,h4⟩:=AZ (h.trans hp);obtain⟨RL,UL,h5,rfl,rfl⟩:=kT h3;have mR:∀b,b∈RL.map (sgl wt)\/b∈RP->b∈R:=λ b hb=>h1.symm.subset (Br.mpr hb)
   have mU:∀b,b∈UL.map (sgl wt)\/b∈UP->b∈U:=λ b hb=>h2.symm.subset (Br.mpr hb)
   obtain⟨R',U',h6,h7,h8,h9,h10⟩:=qN _ (Bh _) hsB h4.symm λ r hr u hu=>hle r (mR r (.inr hr)) u (mU u (.inr hu))
   obtain⟨S,T,h11,h12,h13,h14⟩:=ih R' U' h6 h7;have hocc:∀p,occ R p=RL.count p+occ R' p:=λ p=>by rw [lR h1 p,iM,oR,h9 p]
   have hndR:RL.Nodup:=(List.nodup_append.mp (h5.nodup_iff.mp hL)).1;have hndS:S.Nodup:=(List.nodup_append.mp (h11.nodup_iff.mp hL)).1;have hsub:∀p∈S,p∈RL:=by
    intro p hpS;have hpL:p∈RL++UL:=h5.subset (h11.symm.subset (C4 _ hpS));rcases Br.mp hpL with hh|hh
    ·exact hh
    ·obtain⟨q,hq,x,hx,e⟩:=h10 _ (h12 p hpS).2.2;have:=hle q (mR q (.inr hq)) _ (mU _ (.inl (G9 hh)));have hx0:=hpos x hx;have e':q.1=wt p+x.1:=e;have:q.1≤wt p:=this;lia
   have hcnt:∀p∈RL,RL.count p=1:=λ p hp=>jx hndR hp
   refine⟨RL,UL,h5,λ p hpR=>⟨?_,?_,mR _ (.inl (G9 hpR))⟩,λ p hpR=>?_,?_⟩
   ·rw [hocc,hcnt p hpR];exact B1 1 _
   ·rw [hocc,hcnt p hpR];by_cases hpS:p∈S
    ·have:=(h12 p hpS).2.1;lia
    ·rw [h13 p hpS];lia
   ·rw [hocc,Ef hpR,h13 p λ z=>hpR (hsub p z)]
   ·
    have hspl:RL.Perm (S++RL.filter (λ p=> !decide (p∈S))):=by
     have e1:RL.Perm (RL.filter (λ p=>decide (p∈S))++RL.filter (λ p=> !decide (p∈S))):=(List.filter_append_perm _ _).symm;refine e1.trans (List.Perm.append_right _ ?_);rw [List.perm_ext_iff_of_nodup (hndR.filter _) hndS];intro p;simp only [DU,decide_eq_true_eq];exact⟨λ h=>h.2,λ h=>⟨hsub p h,h⟩⟩
    have hkr:kr R (k+1) RL=kr R' k S+2^k*(RL.filter (λ p=> !decide (p∈S))).length:=by
     unfold kr;have e2:(RL.map λ p=>2^(k+1-occ R p)).sum=(RL.map λ p=>2^(k-occ R' p)).sum:=by
      refine qK λ p hp=>?_
      rw [hocc,hcnt p hp,show k+1-(1+occ R' p)=k-occ R' p by lia]
     rw [e2,eZ (hspl.map _),Bm,Eo];congr 1;refine qM λ p hp=>?_
     simp only [DU,HA,decide_eq_false_iff_not] at hp;rw [h13 p hp.2,ES]
    have hlR:=h1.length_eq;have hlS:=hspl.length_eq;rw [Bb,A9] at hlR;rw [Bb] at hlS;rw [hkr,hlR,Df 2 (k+1),Df 2 k];rw [h8,Df 2 k] at h14;generalize (RL.filter (λ p=> !decide (p∈S))).length=xl at*;generalize 2^k=q at*;rw [hlS];have e0:∀z,q*2*z=2*(q*z):=λ z=>by rw [Dt q 2,CN]
    have e00:∀z,q*2*2*z=4*(q*z):=λ z=>by rw [CN (q*2) 2 z,e0 (2*z),HB q 2 z];lia
    have e3:q*(2*RP.length)=2*(q*RP.length):=by rw [HB]
    have e4:q*2*S.length=2*(q*S.length):=e0 _;have e5:q*2*(S.length+xl+RP.length)=2*(q*S.length)+2*(q*xl)+2*(q*RP.length):=by
     rw [e0,EW q,EW q];lia
    have e6:q*2*2*(S.length+xl)=4*(q*S.length)+4*(q*xl):=by
     rw [e00,EW q];exact EW 4 _ _
    rw [e5,e6];rw [e3,e4] at h14;lia
theorem di:∀(n:Nat) {B:List Bd},B.length≤n->(pairs B).length=B.length/2
 |0,[],_=>rfl
 |_+1,[],_=>rfl
 |_+1,[_],_=>by simp [pairs]
 |n+1,a::b::r,hB=>by
  have h1:=di n (B:=r) (by simp at hB;lia);rw [pairs,Bq,h1,Bq,Bq];lia
theorem lu:∀(n:Nat) {B:List Bd},B.length≤n->(∀b∈B,∀p∈b.2,p∈L)->∀b∈pairs B,∀p∈b.2,p∈L
 |0,[],_,_,_,hb=>by cases hb
 |_+1,[],_,_,_,hb=>by cases hb
 |_+1,[_],_,_,_,hb=>by cases hb
 |n+1,x::y::r,hB,h,b,hb=>by
  rcases BA.mp hb with rfl|hb
  ·exact λ p hp=>(Br.mp hp).elim (h x BF p) (h y (Bw _ BF) p)
  ·exact lu n (by simp at hB;lia) (λ b hb=>h b (Bw _ (Bw _ hb))) b hb
theorem x6 {B:List Bd}(lv:Lev (L.map (sgl wt)) k B):∀b∈B,∀p∈b.2,p∈L:=by
 induction lv with
 |zero=>intro b hb;cases hb
 | @step k B B' _ hp hs ih=>
  intro b hb;rcases Br.mp (hp.subset hb) with hb|hb
  ·obtain⟨p,hpL,rfl⟩:=DI.mp hb;exact λ q hq=>by rw [Bx.mp hq];exact hpL
  ·exact lu _ (Bh _) ih b hb
theorem wR {B:List Bd}(lv:Lev (L.map (sgl wt)) k B):2*L.length*2^k+1≤2^k*B.length+2*L.length+2^k:=by
 induction lv with
 |zero=>simp
 | @step k B B' _ hp hs ih=>
  have hl:=hp.length_eq;rw [Bb,A9,di _ (B:=B) (Bh _)] at hl;rw [hl,Df];have h2:B.length≤2*(B.length/2)+1:=Z5;generalize B.length/2=h at*;generalize B.length=b at*;generalize L.length=n at*;generalize 2^k=q at*;have h3:q*b≤q*(2*h+1):=Dz _ h2;have e1:q*(2*h+1)=2*(q*h)+q:=by rw [EW,HB];lia
  have e2:2*n*q=2*(q*n):=by rw [CN,Dt n]
  have e3:2*n*(q*2)=4*(q*n):=by rw [<-CN,e2];lia
  have e4:q*2*(n+h)=2*(q*n)+2*(q*h):=by rw [Dt q 2,CN,EW q];exact EW 2 _ _
  rw [e3,e4];rw [e2] at ih;lia
theorem best (hL:L.Nodup)(hw:∀p∈L,0<wt p){B:List Bd}(lv:Lev (L.map (sgl wt)) m B)(hn:2≤L.length)(hm:L.length≤2^m):
  (∀p∈L,1≤occ (B.take (2*L.length-2)) p/\occ (B.take (2*L.length-2)) p≤m)/\(∀p,p∉L->occ (B.take (2*L.length-2)) p=0)/\
  (L.map λ p=>2^(m-occ (B.take (2*L.length-2)) p)).sum≤2^m:=by
 obtain⟨hs,hpos,hpart⟩:=uf hL hw lv;have hlen:2*L.length-2≤B.length:=by
  have h1:=wR lv;have h0:0<2^m:=DG Z9;rcases Dm B.length (2*L.length-2) with h|h
  ·exfalso;have h2:2^m*(B.length+3)≤2^m*(2*L.length):=Dz _ Z5;rw [EW] at h2;rw [Dt (2*L.length)] at h1;lia
  ·exact h
 have hRl:(B.take (2*L.length-2)).length=2*L.length-2:=by rw [Bv];exact CA hlen
 have hsplit:(B.take (2*L.length-2)++B.drop (2*L.length-2)).Perm B:=by rw [B8]
 have hle:∀r∈B.take (2*L.length-2),∀u∈B.drop (2*L.length-2),r.1≤u.1:=by
  have:Sorted (B.take (2*L.length-2)++B.drop (2*L.length-2)):=by rw [B8];exact hs
  exact(Bt.mp this).2.2
 obtain⟨S,T,h1,h2,h3,h4⟩:=hpart _ _ hsplit hle;rw [hRl] at h4;generalize B.take (2*L.length-2)=R at*;have hlL:=h1.length_eq;rw [Bb] at hlL;have hT:T=[]:=by
  rcases Ed T.length with h|h
  ·exact Db.mp h
  ·exfalso;have h0:0<2^m:=DG Z9;have h5:2^(m+1)*S.length≤2^m*(2*L.length-2):=by
    have:2*S.length≤2*L.length-2:=Z5;rw [Df,CN];exact Dz _ this
   have hk0:kr R m S=0:=Z5;have hS0:S=[]:=by
    match S,hk0 with
    | [],_=>rfl
    |p::S',hk0=>
     exfalso;unfold kr at hk0;rw [DE,Ft] at hk0;have:0<2^(m-occ R p):=DG Z9;lia
   subst hS0;rw [hk0] at h4;have h6:2^m*(2*L.length-2)=0:=by simpa using h4
   rcases Nat.mul_eq_zero.mp h6 with h|h<;>lia
 subst hT;rw [Ct] at h1;rw [List.length_nil,Ey] at hlL;have hkL:kr R m S=(L.map λ p=>2^(m-occ R p)).sum:=(eZ (h1.map _)).symm;refine⟨λ p hp=>?_,λ p hp=>h3 p λ z=>hp (h1.symm.subset z),?_⟩
 ·obtain⟨a,b,_⟩:=h2 p (h1.subset hp);exact⟨a,b⟩
 ·rw [<-hkL];rw [<-hlL,Df] at h4;have e:2^m*(2*L.length-2)+2*2^m=2^m*2*L.length:=by
   rw [Dt 2 (2^m),<-EW,CN];congr 1;lia
  lia
theorem lev_one {B:List Bd}(lv:Lev ([p].map (sgl wt)) k B):k=0\/B=[sgl wt p]:=by
 induction lv with
 |zero=>exact .inl rfl
 | @step k B B' _ hp hs ih=>
  right
  have:pairs B=[]:=by
   rcases ih with rfl|rfl
   ·rename_i h;cases h;rfl
   ·rfl
  rw [this] at hp;exact List.perm_singleton.mp hp
def Best (P:List Nat)(wt:Nat->Nat)(m:Nat)(ln:Nat->Nat):Prop:=
 (∀p∈P,1≤ln p/\ln p≤m)/\(∀p,p∉P->ln p=0)/\(P.map λ p=>2^(m-ln p)).sum≤2^m
theorem Best.perm {P:List Nat}{ln:Nat->Nat}(h:Best L wt m ln)(hp:L.Perm P):Best P wt m ln:=by
 obtain⟨h1,h2,h3⟩:=h;exact⟨λ p hpP=>h1 p (hp.symm.subset hpP),λ p hpP=>h2 p λ z=>hpP (hp.subset z),by rw [<-eZ (hp.map _)];exact h3⟩
theorem sU (hL:L.Nodup)(hw:∀p∈L,0<wt p){B:List Bd}(lv:Lev (L.map (sgl wt)) m B)(h1:1≤L.length)(hm1:1≤m)(hm:L.length≤2^m):
  Best L wt m (occ (B.take (max 1 (2*L.length-2)))):=by
 by_cases hn:2≤L.length
 ·have e:max 1 (2*L.length-2)=2*L.length-2:=Z5;rw [e];exact best hL hw lv hn hm
 ·match L,h1,hn,hL,hw,lv with
  | [p],_,_,_,hw,lv=>
   rcases lev_one lv with h|rfl
   ·lia
   ·have e:∀q,occ ([sgl wt p].take (max 1 (2* [p].length-2))) q=[p].count q:=λ q=>by
     show occ [sgl wt p] q=_;rw [dm];show [p].count q+occ [] q=_;rfl
    have ep: [p].count p=1:=Z6;refine⟨λ q hq=>?_,λ q hq=>?_,?_⟩
    ·rw [Bx.mp hq,e,ep];exact⟨Bh _,hm1⟩
    ·rw [e];exact Ef hq
    ·rw [DE,HP,Ft,List.sum_nil,e,ep];have:2^(m-1)≤2^m:=Du Z9 (Ek _ 1)
     assumption
  |a::b::r,_,hn,_,_,_=>exact absurd Z6 hn
end PM
namespace SM
variable {α β κ:Type}{blt:κ -> κ -> Bool}{kf:β -> κ}
theorem stb_lift (O:Ord blt)(φ:α->β):∀{mm:List β} {Z:List α},Stb blt kf mm (Z.map φ)->∃Z',mm=Z'.map φ/\Stb blt (λ z=>kf (φ z)) Z' Z
 | [],Z,h=>by
  have e:=(stb_perm O h).length_eq;rw [A9] at e;have:Z=[]:=Db.mp e.symm;subst this;exact⟨[],rfl,Stb.refl _⟩
 |x::mm,Z,h=>by
  have hx:=Stb.mem O h (BF (a:=x) (l:=mm));obtain⟨z0,hz0,ez0⟩:=DI.mp hx;obtain⟨l1,y,l2,rfl,hy,h1⟩:=first_split (p:=λ z=>eqv blt kf (kf x) (φ z)) (ys:=Z) ⟨z0,hz0,by rw [ez0];exact eqv_self O x⟩;have e:=h (kf x);have n1:(l1.map φ).filter (eqv blt kf (kf x))=[]:=Dw.mpr λ u hu=>by
   obtain⟨z,hz,rfl⟩:=DI.mp hu;exact h1 z hz
  rw [Bm,DE,BE (eqv_self O x),BK,n1,CJ,BE hy] at e;obtain⟨ex,e2⟩:=F5 e;subst ex;have ht:Stb blt kf mm ((l1++l2).map φ):=λ k=>by
   rw [Bm,BK];by_cases hk:eqv blt kf k (φ y)=true
   ·have z:=eqv_iff.mp hk;have:kf (φ y)=k:=O.tot _ _ z.1 z.2;subst this;rw [n1,CJ];exact e2
   ·have e3:=h k;rw [Bm,DE,BN hk,BK,BN hk] at e3;exact e3
  obtain⟨Z',rfl,hs⟩:=stb_lift O φ ht;refine⟨y::Z',rfl,λ k=>?_⟩;have hs':=hs k;rw [BK] at hs';rw [BK];by_cases hk:eqv blt (λ z=>kf (φ z)) k y=true
  ·have z:=eqv_iff.mp hk;have ek:kf (φ y)=k:=O.tot _ _ z.1 z.2;subst ek;have n2:l1.filter (eqv blt (λ z=>kf (φ z)) (kf (φ y)))=[]:=Dw.mpr λ u hu=>h1 u hu
   rw [n2,CJ] at hs' ⊢;rw [BE hk,BE hk,hs']
  ·rw [BN hk,BN hk,hs']
theorem stb_push {γ:Type}{kg:γ->κ}(ψ:α->γ){kf':α->κ}(hk:∀z,kf' z=kg (ψ z)){Z' Z:List α}(h:Stb blt kf' Z' Z):Stb blt kg (Z'.map ψ) (Z.map ψ):=λ k=>by
 rw [G4,G4];have e:(eqv blt kg k∘ψ)=eqv blt kf' k:=by
  funext z;show eqv blt kg k (ψ z)=eqv blt kf' k z;unfold eqv;rw [hk]
 rw [e,h k]
end SM
namespace D6
open PM SM
variable {sg:List Bd}{k:Nat}
abbrev wI (b:Bd):Int:=((b.1:Nat):Int)
inductive LevS (sg:List Bd):Nat->List Bd->Prop
 |zero:LevS sg 0 []
 |step {k:Nat} {B B':List Bd}:LevS sg k B->Stb SG.ltI wI B' (sg++pairs B)->Sorted B'->LevS sg (k+1) B'
theorem LevS.lev {B:List Bd}(h:LevS sg k B):Lev sg k B:=by
 induction h with
 |zero=>exact .zero
 |step _ hs hso ih=>exact .step ih (stb_perm SG.ordI hs) hso
theorem pz {B:List Bd}(h:Sorted B):B.Pairwise (Le SG.ltI wI):=h.imp λ {a b} hab=>by
 show decide (((b.1:Nat):Int)<((a.1:Nat):Int))=false;exact DT Z5
theorem LevS.uniq {B B':List Bd}(h:LevS sg k B)(h':LevS sg k B'):B=B':=by
 induction h generalizing B' with
 |zero=>cases h';rfl
 |step _ hs hso ih=>
  cases h' with
  |step h2 hs2 hso2=>
   have:=ih h2;subst this;exact stb_uniq SG.ordI (pz hso) (pz hso2) (hs.trans hs2.symm)
end D6
set_option maxHeartbeats 4000000
namespace QQ
open PySem PyProof.Rows
section
variable {prog:Ie}{w:Ig}{A:Ii}{E:Ib -> Ic -> Prop}{s:Ic}
theorem nP {e it l:HZ}{i:Nat}{items:Array Ib}{old:Ib}{Q:Option Ib->Ic->Prop}(hq:Hq A s.heap)
  (he:IsEnum s.heap e it i old) (hit:s.heap.IsListIter it l i) (hl:s.heap.IsList l items) (hx:items[i]?=none)
  (hQ:∀h',Heap.ExtBut it s.heap h'->Q none {s with heap:=h'}):wpAny (model prog w) A (pyNext (.ref e)) Q E s:=by
 have hT:s.TypeIs (.ref e) "enumerate":=⟨_,he,rfl⟩;unfold pyNext;refine Bc (E2 (Ei (name:=Str.ofString "__next__") hT He
  (FM He hT PySem.F.entry_enumerate_next ?_ (PySem.F.args_enumerate_next_1 _))))
 show wpAny _ _ (field (.ref e) 2>>= _) _ _ _;refine Bc (DB he rfl (x:=.ref it) rfl ?_);refine Bc (ka (A:=A.in1) hq hit hl hx λ h' x he' hx'=>?_);obtain⟨o,ho,hc⟩:=hx';refine Bc (GQ (T:="StopIteration") (b:=true) ⟨o,ho,hc⟩ isSubtype_stop ?_);exact BH (hQ _ he')
end
end QQ
namespace L2
open PySem PySem.Spec PyProof.Rows QQ
variable {es:List Ik}{k:Nat}{K:Frag}
def Ite (K:Frag)(a:HZ):It:=
 ⟨λ i H=>∃xs x,SqL K H a xs/\xs[i]?=some x,λ i H v H'=>∃p x,H p=none/\v=.ref p/\H'=upd H p (.tup [.int (i:Int),x])/\∀xs,SqL K H a xs->xs[i]?=some x,λ i H=>∃xs,SqL K H a xs/\xs.length≤i⟩
theorem qU {P:Ie}{w:Ig}{pos:Pos}(a e it:HZ)(hne:e≠it):
  Turn P w K (.Tuple es k pos) (Ite K a) [e,it] e (λ i h=>(∃old,IsEnum h e it ((i:Nat):Int) old)/\h.IsListIter it a i) where
 mem:=Z6
 obj:=λ i h st b hb=>by
  obtain⟨⟨old,he⟩,hit⟩:=st;rcases BA.mp hb with hb|hb
  ·subst hb;exact⟨_,he,λ v z=>by
    have z':Data.fields _=Data.cell v:=z;cases z'⟩
  ·obtain rfl:=Bx.mp hb;obtain⟨o,e',c,d⟩:=hit;exact⟨o,e',λ v z=>by rw [d] at z;cases z⟩
 keep:=λ i h h' st k=>by
  obtain⟨⟨old,he⟩,hit⟩:=st;exact⟨⟨old,k e Z6 _ he⟩,hit.at λ o x=>k it Z6 o x⟩
 item:=by
  intro X hP hw hK hc i Io s σ H E I hf st hg;subst hP hw hK;obtain⟨⟨old,he⟩,hit⟩:=st;obtain⟨xs,x,hq,hx⟩:=hg;obtain⟨its,rv,p,hz⟩:=I.list hq;obtain⟨u,hu,ru⟩:=rv.get hx;obtain⟨e0,e1,e2,e3,e4,e5⟩:=hf e Z6;obtain⟨f0,f1,f2,f3,f4,f5⟩:=hf it Z6;have elt:e<s.heap.objs.size:=BD he;have ilt:it<s.heap.objs.size:=by obtain⟨o,e',_⟩:=id hit;exact BD e'
  have hT:H s.heap.objs.size=none:=I.hok.fresh (Bh _);refine wpAny_pyNext_enum_item he hit p.isList (x:=u) (by simpa using hu) hne λ h1 ho hit1 ht hsz kk=>?_
  refine⟨_,rfl,wpAny_letOwnedTupleGo_enum (s:={s with heap:=h1,toks:=s.toks+1}) ho λ h2 he2 hs2=>?_⟩;have kept:∀b o,b≠e->b≠it->s.heap.get? b=some o->h2.get? b=some o:=λ b o n1 n2 x=>(hs2.2 b n1).trans (kk b o n1 n2 x)
  have htup:h2.get? s.heap.objs.size=some {cls:=.type "tuple",data:=.seq #[.int i s.toks,u]}:=(hs2.2 _ (Gx elt)).trans ht;have hT2:∀b o,s.heap.get? b=some o->b≠s.heap.objs.size:=λ b o x=>Ci (BD x)
  have nT:∀b o,H b=some o->b≠s.heap.objs.size:=λ b o x z=>by rw [z,hT] at x;cases x
  have nE:∀b o,H b=some o->b≠e/\b≠it:=λ b o x=>⟨λ z=>(by rw [z,e0] at x;cases x),λ z=>(by rw [z,f0] at x;cases x)⟩
  have he3:IsEnum h2 e it (((i+1:Nat):Int)) u:=by
   have:(((i+1:Nat):Int))=(i:Int)+1:=Nat.ToInt.add_congr rfl rfl;rw [this];exact he2
  have hit2:h2.IsListIter it a (i+1):=hit1.at λ o x=>(hs2.2 it hne.symm).trans x
  have I2:Inv X Io σ (upd H s.heap.objs.size (.tup [.int (i:Int),x])) {s with heap:=h2,toks:=s.toks+1}:=by
   refine I.step (g':=s.gens) (d':=s.drawn) (ch:=[e,it]) (λ b hb=>?_) (λ b o _ _ hb x _=>kept b o (λ z=>hb (by simp [z])) (λ z=>hb (by simp [z])) x)
    (λ b o _ _ hb x _=>⟨o.slots,kept b o (λ z=>hb (by simp [z])) (λ z=>hb (by simp [z])) x⟩) (λ b o _ x n=>by rw [upd_ne (hT2 b o x)];exact n)
    (λ b o hb x=>⟨o,kept b o (λ z=>hb (by simp [z])) (λ z=>hb (by simp [z])) x⟩) (λ b xs x=>by rw [upd_ne (nT b _ x)];exact x) (λ b o u x=>by rw [upd_ne (nT b _ x)];exact x)
    (λ b ps x=>⟨#[],by rw [upd_ne (nT b _ x),x];simp⟩) (λ m hm=>?_) (λ b o x=>?_) I.bare
   ·rcases BA.mp hb with hb|hb
    ·subst hb;exact⟨e3,e1,e4,e5⟩
    ·obtain rfl:=Bx.mp hb;exact⟨f3,f1,f4,f5⟩
   ·obtain⟨o,es',ep,ho',r⟩:=hm;exact⟨o,es',ep,kept _ o (Fb e1) (Fb f1) ho',r⟩
   ·by_cases hb:b=s.heap.objs.size
    ·subst hb;rw [ac] at x;cases x;exact⟨by show 2≤sizeLine;decide,[.int i s.toks,u],.cons ⟨_,rfl⟩ (.cons ru .nil),⟨_,htup,rfl,_,rfl⟩⟩
    ·rw [upd_ne hb] at x;refine(I.hok b o x).stay (λ c v hc' q=>?_) (λ c q=>by rw [upd_ne (nT c _ q)];exact q) λ c xs q=>by rw [upd_ne (nT c _ q)];exact q
     rcases hc' with z|z
     ·subst z;exact kept c v (nE c _ x).1 (nE c _ x).2 q
     ·exact kept c v (nE c _ z).1 (nE c _ z).2 q
  refine⟨.ref s.heap.objs.size,_,I2,rfl,⟨_,x,hT,rfl,rfl,λ ys hy=>by rw [I.list_inj hy hq];exact hx⟩,⟨⟨u,he3⟩,hit2⟩,λ b hb=>?_⟩;rcases BA.mp hb with hb|hb
  ·subst hb;rw [upd_ne (Ci elt)];exact e0
  ·obtain rfl:=Bx.mp hb;rw [upd_ne (Ci ilt)];exact f0
 done:=by
  intro X hP hw hK hc i Io s σ H E I hf st hg;subst hP hw hK;obtain⟨⟨old,he⟩,hit⟩:=st;obtain⟨xs,hq,hx⟩:=hg;obtain⟨its,rv,p,hz⟩:=I.list hq;obtain⟨f0,f1,f2,f3,f4,f5⟩:=hf it Z6;have hl:=rv.length;exact nP I.hq he hit p.isList (by simp;exact De hl.symm hx) λ h' eb=>⟨rfl,I.turned (t':=s.toks) (λ b o hb e=>eb b o hb e) f0 f1 f3 f4 f5⟩
 self:=λ _ _ _ _ _ st h=>by
  obtain⟨⟨old,he⟩,hit⟩:=st;exact wpAny_pyIter_enum he h
def zI (K:Frag)(ta:TA):TI:=λ σ H R=>ta σ H λ vs H1=>∃l xs,vs=[.ref l]/\SqL K H1 l xs/\R (Ite K l) H1
theorem pj {X:Cx}{a:Ik}{ta:TA}{p pos q:Pos}(hg:Gl X "enumerate")(hm:X.mg "enumerate"=none)(ha:PA X [a] ta)(hs:autoParam (starEach [a] X.env=[(false,eval a X.env)]) Z0):
  PI X (.Tuple es k q) (.Call (.Name "enumerate" p) [a] [] pos) (zI X.K ta):=by
 intro Io s σ H R I h;refine Call_ (ld_blt I hg hm boot_enumerate (DV (thn (ha pos Io s σ H _ I h) λ us s1 z9=>?_) hs rfl));obtain⟨vs,H1,I1,r1,q1⟩:=z9;obtain⟨l,xs,e,hq,q⟩:=q1;subst e;cases r1 with
 |cons r rr=>
  cases rr;cases r;obtain⟨its,rv,p,hz⟩:=I1.list hq;refine call_enumerate_list p.isList λ h' he hit hsz hk=>?_
  have I2:Inv X Io σ H1 {s1 with heap:=h'}:=I1.kept (t':=s1.toks) hk;refine wpAny_pyIter_enum he ⟨s1.heap.objs.size+1,[s1.heap.objs.size+1,s1.heap.objs.size],_,_,H1,rfl,I2,qU l _ _ (Nat.succ_ne_self _),⟨⟨_,he⟩,hit⟩,λ b hb=>?_,q⟩;have hb':s1.heap.objs.size≤b:=by
   rcases BA.mp hb with hb|hb
   ·rw [hb];exact Es _
   ·rw [Bx.mp hb];exact Bh _
  exact I1.fpOk hb' (I1.hok.fresh hb')
theorem um {a l:HZ}{xs:List V}{n:Nat}{g:TG}{tt:TT}{te:TE}{R:Hp->Prop}{H1:Hp}(Pv:Nat->List V->Hp->Prop)(h0:Pv 0 [] (upd H1 l (.lst [])))(hl:∀i ys H,i≤xs.length->Pv i ys H->SqL K H a xs)
  (hs:∀i x ys σ H p,xs[i]?=some x->Pv i ys H->σ.length=n->H p=none->g (.ref p) σ (upd H p (.tup [.int ((i:Nat):Int),x])) λ σ3 H3=>tt σ3 H3 λ c H5=>if c=true then te σ3 H5 λ y H4=>H4 l=some (.lst ys)/\ys.length<sizeLine/\σ3.length=n/\Pv (i+1) (ys++[y]) (upd H4 l (.lst (ys++[y]))) else σ3.length=n/\Pv (i+1) ys H5)
  (hd:∀ys H,Pv xs.length ys H->R H) (mg:∀x σ H (A B:St->Hp->Prop),(∀σ' H',A σ' H'->B σ' H')->g x σ H A->g x σ H B) (mtt:∀σ H (A B:Bool->Hp->Prop),(∀v H',A v H'->B v H')->tt σ H A->tt σ H B) (mt:∀σ H (A B:VK),(∀v H',A v H'->B v H')->te σ H A->te σ H B):
  ∃W:Nat->Nat->List V->St->Hp->Prop,(∃m,W 0 m [] (List.replicate n none) (upd H1 l (.lst [])))/\∀i m ys σ' H',W i m ys σ' H'->
   ((Ite K a).stop i H'/\R H')\/((Ite K a).go i H'/\∀x H2,(Ite K a).yld i H' x H2->g x σ' H2 λ σ3 H3=>tt σ3 H3 λ c H5=>if c=true then te σ3 H5 λ y H4=>
    H4 l=some (.lst ys)/\ys.length<sizeLine/\∃m',m'<m/\W (i+1) m' (ys++[y]) σ3 (upd H4 l (.lst (ys++[y]))) else∃m',m'<m/\W (i+1) m' ys σ3 H5):=by
 refine⟨λ i m ys σ H=>m=xs.length-i/\i≤xs.length/\σ.length=n/\Pv i ys H,⟨xs.length,Z6,BX _,C6,h0⟩,?_⟩;rintro i m ys σ H ⟨rfl,hi,hn,p⟩;have q:=hl i ys H hi p;by_cases Ir:i<xs.length
 ·refine .inr ⟨⟨xs,xs[i],q,by simp [Ir]⟩,λ x H' y=>?_⟩;obtain⟨p1,x1,hp1,e1,e2,y⟩:=y;subst e1 e2;refine mg _ _ _ _ _ (λ σ3 H3 z=>mtt _ _ _ _ (λ c H5 z=>?_) z) (hs i x1 ys σ _ p1 (y xs q) p hn hp1);cases c with
  |true=>
   rw [BM rfl] at z ⊢;exact mt _ _ _ _ (λ y H4 z9=>by obtain⟨z1,z2,z3,z4⟩:=z9;exact⟨z1,z2,xs.length-(i+1),Cy _ _ Ir,rfl,Ir,z3,z4⟩) z
  |false=>
   rw [Bu BL] at z ⊢;exact⟨xs.length-(i+1),Cy _ _ Ir,rfl,Ir,z.1,z.2⟩
 ·have e:i=xs.length:=BI hi (Nat.not_lt.1 Ir);subst e;exact .inl ⟨⟨xs,q,Bh _⟩,hd ys H p⟩
end L2
set_option maxHeartbeats 4000000
namespace K24.S
open PySem L2 QQ PM D6
seal PE PA PS PSs PT PW PG PI
variable {f fA fT:HZ}{fd fdA fdP fdT fdW:Ih}{A ts:List HZ}{n:Nat}{H H':Hp}
section
def rT:Sp:=λ vs H Q _=>∃(a:HZ) (B:List Nat) (hi:Nat),vs=[.ref a,vN hi]/\H a=some (.lst (B.map vN))/\(∀b∈B,b≤hi)/\1≤B.length/\B.length≤300/\(∃b∈B,0<b)/\Q (.bl true) H
theorem tG:FnScope ["thing","most"] ["thing","most"] (ak eg):=scK Z8
theorem xz (R:List Nat):R.map vN=(R.map λ b=>((b:Nat):Int)).map V.int:=by rw [Dv];rfl
theorem ok_things {fW:HZ}(F:Fn K mg "are_of_things" eg ["thing","most"] f fd)(AW:Fn K mg "are_whole" bK ["thing","least","most"] fA fdA)(W:Fn K mg "is_whole" bE ["thing","least","most"] fW fdW)(T:Txt K mg):FnOk P w K mg base CX0 31 f fd ["thing","most"] rT:=by
 obtain⟨tt,ht⟩:=T.things;refine F.F.ok tG λ Iq A outer s H vs Q E hr h=>?_
 intro _;obtain⟨a,B,hi,rfl,hB,hb,h1,h3,⟨b0,hb0,hp0⟩,k⟩:=h;have hr2:Room 2 _:=hr.mono Z9;have hn:=hr.hd Z9;refine⟨_,ad (aL (bM (bq (aq (cy AW W T) hr2 Z7 AW.m AW.F.kp AW.b .nil aw (aa (pv 0) (aa af (aa (pv 1) ae)))))) (ag (ax bU)) aD)
  (ag (ax (gP (iC i7 i7 af (az ay Z7 T.len BV (aa (pv 0) ae)) (aH (v:=.int 300) Z7 ht ⟨tt,rfl⟩))
   (io (fF dH (az (rq hn) Z7 T.max PyProof.Rows.boot_max (aa (pv 0) ae)) af (aC _)))))),?_⟩
 refine⟨_,rfl,_,rfl,a,B,0,_,rfl,hB,λ b z=>by have:=hb b z;lia,_,rfl,bV ?_⟩;refine⟨_,rfl,a,_,rfl,.inl (SqL.of hB),_,_,rfl,rfl,_,rfl,bd (λ _=>?_) (λ h=>absurd (Bj (by rw [A9];exact Int.toNat_le.mp h1)) h)⟩;refine⟨_,_,rfl,rfl,_,rfl,bd (λ _=>?_) (λ h=>absurd (Bj (by rw [A9];exact HR rfl rfl h3)) h)⟩;refine⟨_,rfl,a,B.map (λ b=>((b:Nat):Int)),rfl,by rw [<-xz];exact SqL.of hB,by rw [A9];assumption,λ n hn hmax=>?_⟩;have:((b0:Nat):Int)≤n:=hmax _ (G9 hb0);refine⟨_,_,rfl,rfl,?_⟩;dsimp only;rw [show decide (0<n)=true from Bj Z5];exact k
def xI:Sp:=λ vs H Q _=>∃(a:HZ) (B:List Nat) (m:Nat),vs=[.ref a,vN m]/\H a=some (.lst (B.map vN))/\(∀b∈B,b≤1000000)/\1≤B.length/\B.length≤300/\(∃b∈B,0<b)/\1≤m/\m≤12/\(B.filter (λ b=>decide (0<b))).length≤2^m/\∀H',Same H H'->Q .non H'
theorem xY:FnScope ["counts","most"] ["counts","most"] (ak pN):=scK Z8
theorem ndC:(["count"]:List Str).Nodup:=Z8
theorem vQ {fW:HZ}(F:Fn K mg "need_shares" pN ["counts","most"] f fd)(Th:Fn K mg "are_of_things" eg ["thing","most"] fT fdT)(AW:Fn K mg "are_whole" bK ["thing","least","most"] fA fdA)(W:Fn K mg "is_whole" bE ["thing","least","most"] fW fdW)(T:Txt K mg):FnOk P w K mg base CX0 32 f fd ["counts","most"] xI:=by
 obtain⟨tc,hc⟩:=T.count;obtain⟨tm,hm⟩:=T.mlen;refine F.F.ok xY λ Iq A outer s H vs Q E hr h=>?_
 intro _;obtain⟨a,B,m,rfl,hB,hb,h1,h3,hpos,m1,m2,hfit,k⟩:=h;have hr1:Room 1 _:=hr.mono Z9;refine⟨_,ad (aL (bM (bq (aq (ok_things Th AW W T) hr Z7 Th.m Th.F.kp Th.b .nil aw (aa (pv 0) (aa (aH (v:=.int 1000000) Z7 hc ⟨tc,rfl⟩) ae))))) (ag bD) aD)
  (ad (aL (bM (bq (aq (cT W T) hr1 Z7 W.m W.F.kp W.b .nil aw (aa (pv 1) (aa af (aa (aH (v:=.int 12) Z7 hm ⟨tm,rfl⟩) ae)))))) (ag bD) aD)
  (ag (aL (aA dH (az ay Z7 T.len BV (aa (eQ (N:=["count"]) (g:=bz 0) (tt:=lB (tOp (rI0 λ i j=>.bl (decide (j<i))) (dW 0) (tC (.int 0)))) (te:=dW 0) rfl rfl Z8 Z8 Z8 (bi (pv 0))
   (λ fp s H=>aJ (i:=0) ndC) (λ fp s H=>aA dH (pv 0) af (aC _)) (λ fp s H=>pv 0)) ae)) (am b8 af (pv 1)) (aC _)) (ag bD) aD))),?_⟩
 refine seq_g λ _ g1=>⟨_,rfl,a,B,1000000,rfl,hB,hb,h1,h3,hpos,_,rfl,bV (g1 _ _ ?_)⟩
 clear g1;refine seq_g λ R1 g1=>?_
 have e1:(decide ((1:Int)≤((m:Nat):Int))&&decide (((m:Nat):Int)≤12))=true:=by
  rw [Bj (show(1:Int)≤((m:Nat):Int) from Int.toNat_le.mp m1),Bj (show((m:Nat):Int)≤12 by lia)];rfl
 refine⟨_,rfl,((m:Nat):Int),1,12,rfl,?_⟩;rw [e1];refine⟨_,rfl,bV (g1 _ _ ?_)⟩;clear g1;refine⟨_,rfl,a,rfl,⟨_,SqL.of hB⟩,λ l nl=>?_⟩;refine fo (K:=K) (a:=a) (l:=l) (xs:=B.map vN) (n:=1) (g:=bz 0) (tt:=lB (tOp (rI0 λ i j=>.bl (decide (j<i))) (dW 0) (tC (.int 0)))) (te:=dW 0)
  (λ i ys H'=>ys=((B.take i).filter (λ b=>decide (0<b))).map vN/\H' l=some (.lst ys)/\Same H H') ⟨rfl,ac,aj nl⟩ (λ i ys H' _ z9=>by obtain⟨_,_,sm⟩:=z9;exact SqL.of (sm _ _ hB)) ?_ ?_ ?_ ?_ ?_
 ·rintro i x ys σ H' hx ⟨rfl,hl,sm⟩ hσ;obtain⟨b,hb1,rfl⟩:=cj hx;have hil:i<B.length:=(Bo.mp hb1).1;obtain⟨u0,rfl⟩:∃u0,σ=[u0]:=match σ,hσ with| [u0],_=>⟨u0,rfl⟩
  have hlen:((B.take i).filter (λ b=>decide (0<b))).length≤300:=Ba (Fk _ _) (by rw [Bv];exact Ba (Di _ _) h3);refine⟨_,rfl,_,_,rfl,rfl,_,rfl,?_⟩;rw [cM hb1,BK];dsimp only;by_cases h0:0<b
  ·rw [BM (Bj (show(0:Int)<((b:Nat):Int) from G6.mpr h0))];refine⟨_,rfl,hl,bF (by rw [A9];exact Ba hlen Z9),rfl,?_,ac,λ c o e=>?_⟩
   ·rw [BE (by simpa using h0),Bm];rfl
   ·rw [upd_ne (ai e nl)];exact sm _ _ e
  ·rw [Bu (λ z=>absurd (Bp z) Z5)];refine⟨rfl,?_,?_,sm⟩
   ·rw [BN (by simpa using h0)];simp
   ·exact hl
 ·rintro ys H' ⟨rfl,hl,sm⟩;rw [A9,Cc] at hl;refine⟨l,_,rfl,.inl (SqL.of hl),_,rfl,_,_,rfl,rfl,⟨Z5,Z5,Z9⟩,_,_,rfl,rfl,_,rfl,bd (λ h=>?_) (λ _=>k _ sm)⟩;exfalso;have:=Bp h;rw [A9,BO] at this;have e2:(1:Int)*2^m=((2^m:Nat):Int):=by rw [Int.one_mul];simp
  rw [e2] at this;lia
 ·exact λ x σ H A B h z=>h _ _ z
 ·exact λ σ H A B h z9=>by obtain⟨v,e1,i,j,e2,e3,c,e4,z⟩:=z9;exact⟨v,e1,i,j,e2,e3,c,e4,h _ _ z⟩
 ·exact λ σ H A B h z9=>by obtain⟨v,e1,z⟩:=z9;exact⟨v,e1,h _ _ z⟩
def Bun (H:Hp)(A:List HZ)(t:HZ)(b:Bd):Prop:=∃l,t∉A/\l∉A/\H t=some (.tup [vN b.1,.ref l])/\H l=some (.lst (b.2.map vN))
def iJ:Sp:=λ vs H Q _=>∃(t l:HZ) (n:Nat),vs=[.ref t]/\H t=some (.tup [vN n,.ref l])/\Q (vN n) H
theorem sV:FnScope ["bundle"] ["bundle"] (ak fz):=scK Z8
theorem i9 (F:Fn K mg "weight_of" fz ["bundle"] f fd):FnOk P w K mg base CX0 1 f fd ["bundle"] iJ:=by
 refine F.F.ok sV λ Iq A outer s H vs Q E hr h=>?_
 intro _;obtain⟨t,l,n,rfl,ht,k⟩:=h;refine⟨_,ag (ax (aM aZ (pv 0) af (λ _ _=>rfl))),?_⟩;exact⟨_,rfl,t,_,_,_,rfl,rfl,SqT.of ht,aB (j:=0) rfl,k⟩
end
inductive Buns (H:Hp) (A:List HZ):List HZ->List Bd->Prop
 |nil:Buns H A [] []
 |cons {t:HZ} {b:Bd} {ts:List HZ} {bs:List Bd}:Bun H A t b->Buns H A ts bs->Buns H A (t::ts) (b::bs)
theorem Buns.keepA {bs:List Bd}(h:Buns H A ts bs)(s:∀c o,c∉A->H c=some o->H' c=some o):Buns H' A ts bs:=by
 induction h with
 |nil=>exact .nil
 |cons a _ ih=>
  obtain⟨l,n1,n2,h1,h2⟩:=a;exact .cons ⟨l,n1,n2,s _ _ n1 h1,s _ _ n2 h2⟩ ih
theorem Buns.keep {bs:List Bd}(h:Buns H A ts bs)(s:Same H H'):Buns H' A ts bs:=h.keepA λ c o _ e=>s c o e
theorem Buns.sub {A':List HZ}{bs:List Bd}(h:Buns H A ts bs)(s:∀a∈A',a∈A):Buns H A' ts bs:=by
 induction h with
 |nil=>exact .nil
 |cons a _ ih=>
  obtain⟨l,n1,n2,h1,h2⟩:=a;exact .cons ⟨l,λ z=>n1 (s _ z),λ z=>n2 (s _ z),h1,h2⟩ ih
theorem Buns.app {us:List HZ}{bs cs:List Bd}(h:Buns H A ts bs)(g:Buns H A us cs):Buns H A (ts++us) (bs++cs):=by
 induction h with
 |nil=>exact g
 |cons a _ ih=>exact .cons a ih
theorem Buns.len {bs:List Bd}(h:Buns H A ts bs):ts.length=bs.length:=by
 induction h with
 |nil=>rfl
 |cons a _ ih=>rw [Bq,Bq,ih]
theorem Buns.at {bs:List Bd}(h:Buns H A ts bs):∀{i:Nat} {b:Bd},bs[i]?=some b->∃t,ts[i]?=some t/\Bun H A t b:=by
 induction h with
 |nil=>intro i b h;simp at h
 |cons a _ ih=>
  intro i b h;cases i with
  |zero=>simp at h;subst h;exact⟨_,rfl,a⟩
  |succ i=>simp at h;simpa using ih h
theorem tI:∀(n:Nat) {B:List Bd} {i:Nat} {a b:Bd},B.length≤n->B[2*i]?=some a->B[2*i+1]?=some b->(pairs B)[i]?=some (a.1+b.1,a.2++b.2):=by
 intro n
 induction n with
 |zero=>intro B i a b hB h1 _;have:B=[]:=Db.mp Z5;subst this;simp at h1
 |succ n ih=>
  intro B i a b hB h1 h2
  match B,hB,h1,h2 with
  | [],_,h1,_=>simp at h1
  | [x],_,h1,h2=>simp at h2
  |x::y::r,hB,h1,h2=>
   cases i with
   |zero=>simp at h1 h2;subst h1 h2;rfl
   |succ i=>
    rw [show 2*(i+1)=2*i+1+1 from DR (Nat.succ_add _ 1)] at h1 h2;simp at h1 h2;show(pairs r)[i]?=_;exact ih (by simp at hB;exact Dp hB) h1 h2
theorem fh {i:Nat}{t:HZ}(h:ts[i]?=some t):(ts.map V.ref)[i]?=some (.ref t):=by rw [B4,h];rfl
section
theorem yN (m:Nat)(h:m≤2000):Builtin.Range.small 1 ((m:Nat):Int) 2=true/\Builtin.Range.rangeSize 1 ((m:Nat):Int) 2=((m/2:Nat):Int):=by
 have e:Builtin.Range.rangeSize 1 ((m:Nat):Int) 2=((m/2:Nat):Int):=by
  unfold Builtin.Range.rangeSize;rw [BM Z9]
  split<;>lia
 refine⟨?_,e⟩;have f:∀i:Int,0≤i->i<100000->Builtin.Range.rangeFitsLong i=true:=λ i h0 h1=>by
  unfold Builtin.Range.rangeFitsLong;rw [Bj Z5,Bj Z5];rfl
 unfold Builtin.Range.small;rw [e]
 try dsimp only
 rw [f 1 Z9 Z9,f ((m:Nat):Int) Z5 (Int.ofNat_lt.2 (B0 h Z9)),f 2 Z9 Z9,f ((m/2:Nat):Int) (BZ _) Z5,BM Z9,f (((m:Nat):Int)+(2-1)) Z5 Z5];simp
def uT:Sp:=λ vs H Q _=>∃(p av:HZ) (ts:List HZ) (B:List Bd),vs=[.ref p]/\H p=some (.lst (ts.map V.ref))/\(∃o,H av=some o)/\Buns H [av] ts B/\B.length≤1000/\(∀b∈B,b.2.length≤8000000)/\
 ∀(l:HZ) (us:List HZ) (H':Hp),Same H H'->H l=none->H' l=some (.lst (us.map V.ref))->Buns H' [av] us (pairs B)->Q (.ref l) H'
theorem scPairs:FnScope ["bundles","pairs","place","first","second"] ["bundles"] (ak iK):=scK Z8
theorem sk (F:Fn K mg "in_pairs" iK ["bundles"] f fd)(T:Txt K mg):FnOk P w K mg base CX0 1 f fd ["bundles"] uT:=by
 refine F.F.ok scPairs λ Iq A outer s H vs Q E hr h=>?_
 intro _;obtain⟨p,av,ts,B,rfl,hp,⟨oav,hav⟩,hB,hBl,hsm,k⟩:=h;refine⟨_,ad (ar (i:=1) scPairs.nd (aE ae))
  (ad (bf BW rfl (jq Z7 T.range (aa af (aa (az ay Z7 T.len BV (aa (pv 0) ae)) (aa af ae)))) (aJ (i:=2) scPairs.nd)
   (ad (ar (i:=3) scPairs.nd (aM aW (pv 0) (am aY (pv 2) af) (λ _ _=>rfl)))
   (ad (ar (i:=4) scPairs.nd (aM aW (pv 0) (pv 2) (λ _ _=>rfl)))
   (ag (aF (dI Cj CD CS bv (pv 1) (aa (bL (aa (am aK (aM aZ (pv 3) af (λ _ _=>rfl)) (aM aZ (pv 4) af (λ _ _=>rfl)))
    (aa (am aR (aM aZ (pv 3) af (λ _ _=>rfl)) (aM aZ (pv 4) af (λ _ _=>rfl))) ae))) ae)))))))
  (ag (ax (pv 1)))),?_⟩
 have htl:=hB.len;refine seq_g λ _ g1=>⟨Z9,λ l nl=>g1 _ _ ?_⟩
 clear g1;have s0:=aj (o:=.lst []) nl;have hs2:=yN ts.length Z5;refine seq_g λ _ g1=>⟨_,rfl,p,_,rfl,.inl (SqL.of (s0 _ _ hp)),1,_,2,ts.length/2,rfl,Z9,by rw [A9];exact hs2.1,by rw [A9];exact hs2.2,Gf Z9,iN (D:=⟨_,_,λ _ _=>False,λ _ _=>False⟩) (lo:=1) (c:=2) (n:=ts.length/2)
  (λ i σ H2=>∃(v2 v3 v4:Option V) (us:List HZ),σ=[some (.ref p),some (.ref l),v2,v3,v4]/\H2 l=some (.lst (us.map V.ref))/\Buns H2 [l,av] us ((pairs B).take i)/\Same H H2) ⟨none,none,none,[],rfl,ac,.nil,s0⟩ ?_ ?_⟩
 ·clear g1;rintro i σ H2 hi ⟨v2,v3,v4,us,rfl,h2l,hus,sm⟩;have l0:2*i<B.length:=Z5;have l1:2*i+1<B.length:=Z5;have g0:B[2*i]?=some B[2*i]:=Bg l0;have g1:B[2*i+1]?=some B[2*i+1]:=Bg l1;have z0:=hsm _ (Dn l0);have z1:=hsm _ (Dn l1);have hpa:=tI _ (Bh _) g0 g1;obtain⟨t0,ht0,la,_,_,ha1,ha2⟩:=(hB.keep sm).at g0;obtain⟨t1,ht1,lb,_,_,hb1,hb2⟩:=(hB.keep sm).at g1;generalize B[2*i]=ba at*;generalize B[2*i+1]=bb at*;have e1:(1:Int)+((i:Nat):Int)*2=((2*i+1:Nat):Int):=Z5;have e2:((2*i+1:Nat):Int)-1=((2*i:Nat):Int):=Z5;have hp2:=sm _ _ hp;rw [e1];refine seq_g λ _ g2=>⟨_,rfl,_,rfl,_,_,rfl,rfl,?_⟩
  try dsimp only
  rw [e2];refine⟨p,_,_,_,rfl,rfl,SqL.of hp2,aB (fh ht0),g2 _ _ ?_⟩;clear g2;refine seq_g λ _ g2=>⟨_,rfl,_,rfl,p,_,_,_,rfl,rfl,SqL.of hp2,aB (fh ht1),g2 _ _ ?_⟩
  clear g2;have hul:=hus.len;rw [Bv] at hul;refine⟨_,rfl,.inl ⟨rfl,_,SqL.of h2l⟩,_,rfl,t0,_,_,_,rfl,rfl,SqT.of ha1,aB (j:=0) rfl,_,rfl,t1,_,_,_,rfl,rfl,SqT.of hb1,aB (j:=0) rfl,_,_,rfl,rfl,
   _,rfl,t0,_,_,_,rfl,rfl,SqT.of ha1,aB (j:=1) rfl,_,rfl,t1,_,_,_,rfl,rfl,SqT.of hb1,aB (j:=1) rfl,la,lb,_,_,rfl,rfl,ha2,hb2,(by rw [A9,A9,EJ];lia),λ q nq=>?_⟩
  have e3:V.int (((ba.1:Nat):Int)+((bb.1:Nat):Int))=vN (ba.1+bb.1):=congrArg V.int Z5;have s3:=aj (o:=.lst (ba.2.map vN++bb.2.map vN)) nq;have h3q:(upd H2 q (.lst (ba.2.map vN++bb.2.map vN))) q=some (.lst ((ba.2++bb.2).map vN)):=by rw [ac,Bm]
  have h3l:=s3 _ _ h2l;generalize upd H2 q (.lst (ba.2.map vN++bb.2.map vN))=H3 at*;refine⟨(by show 2≤sizeLine;decide),λ t nt=>?_⟩
  try dsimp only
  rw [e3];have s4:=aj (o:=.tup [vN (ba.1+bb.1),V.ref q]) nt;have h4t:(upd H3 t (.tup [vN (ba.1+bb.1),V.ref q])) t=some (.tup [vN (ba.1+bb.1),V.ref q]):=ac;have h4l:=s4 _ _ h3l;have h4q:=s4 _ _ h3q;have nql:q≠l:=λ z=>by rw [z,h2l] at nq;cases nq
  generalize upd H3 t (.tup [vN (ba.1+bb.1),V.ref q])=H4 at*;have sm4:Same H2 H4:=s3.trans s4;refine⟨l,_,_,rfl,rfl,h4l,bF (by rw [A9];lia),some (vN (2*i+1)),some (.ref t0),some (.ref t1),us++[t],rfl,?_,?_,λ c o e=>?_⟩
  ·rw [ac,Bm];rfl
  ·rw [CQ,hpa];have kk:∀c o,c∉ [l,av]->H4 c=some o->(upd H4 l (.lst (us.map V.ref++[V.ref t]))) c=some o:=λ c o n e=>by rw [upd_ne (λ z=>n (by simp [z]))];exact e
   have h2av:=sm _ _ hav;have ntl:t∉ [l,av]:=λ z=>by
    simp only [BA,E6,or_false] at z;rcases z with rfl|rfl
    ·rw [h3l] at nt;cases nt
    ·rw [s3 _ _ h2av] at nt;cases nt
   have nqa:q∉ [l,av]:=λ z=>by
    simp only [BA,E6,or_false] at z;rcases z with rfl|rfl
    ·exact nql rfl
    ·rw [h2av] at nq;cases nq
   exact(hus.keepA λ c o n e=>kk _ _ n (sm4 _ _ e)).app (.cons ⟨q,ntl,nqa,kk _ _ ntl h4t,kk _ _ nqa h4q⟩ .nil)
  ·rw [upd_ne (ai e nl)];exact sm4 _ _ (sm _ _ e)
 ·rintro σ H2 ⟨v2,v3,v4,us,rfl,h2l,hus,sm⟩;rw [BQ (by rw [di _ (B:=B) (Bh _)];exact Bz (congrFun (congrArg HDiv.hDiv htl.symm) 2))] at hus;exact g1 _ _ ⟨_,rfl,k l us H2 sm nl h2l (hus.sub λ a h=>by simp at h;simp [h])⟩
end
theorem Buns.zip {bs:List Bd}(h:Buns H A ts bs):∀z∈ts.zip bs,Bun H A z.1 z.2:=by
 induction h with
 |nil=>intro z hz;simp at hz
 |cons a _ ih=>
  intro z hz;rw [List.zip_cons_cons] at hz;rcases BA.mp hz with rfl|hz
  ·exact a
  ·exact ih z hz
theorem ku:∀(as:List HZ) (bs:List Bd),(bs.map (λ b=>((b.1:Nat):Int))).zip (as.map V.ref)=(as.zip bs).map (λ z:HZ×Bd=>(((z.2.1:Nat):Int),V.ref z.1))
 | [],bs=>by simp
 |a::as,[]=>by simp
 |a::as,b::bs=>by
  have:=ku as bs;simp only [DE,List.zip_cons_cons,this]
theorem Buns.take {bs:List Bd}(h:Buns H A ts bs):∀n,Buns H A (ts.take n) (bs.take n):=by
 induction h with
 |nil=>intro n;rw [List.take_nil,List.take_nil];exact .nil
 |cons a _ ih=>
  intro n;cases n with
  |zero=>exact .nil
  |succ n=>exact .cons a (ih n)
theorem jR:∀{Z:List (HZ×Bd)},(∀z∈Z,Bun H A z.1 z.2)->Buns H A (Z.map (·.1)) (Z.map (·.2))
 | [],_=>.nil
 |z::Z,h=>.cons (h z BF) (jR λ y hy=>h y (Bw _ hy))
theorem uG {L:List Nat}{wt:Nat->Nat}{k:Nat}{B:List Bd}(lv:Lev (L.map (sgl wt)) k B):(∀b∈B,b.2.length≤2^k)/\B.length≤2*L.length:=by
 have ps:∀(n:Nat) (q:Nat) (B:List Bd),B.length≤n->(∀b∈B,b.2.length≤q)->∀b∈pairs B,b.2.length≤2*q:=by
  intro n
  induction n with
  |zero=>intro q B hB _ b hb;have:B=[]:=Db.mp (Nat.eq_zero_of_le_zero hB);subst this;simp [pairs] at hb
  |succ n ih=>
   intro q B hB h b hb
   match B,hB,h,hb with
   | [],_,_,hb=>simp [pairs] at hb
   | [x],_,_,hb=>simp [pairs] at hb
   |x::y::r,hB,h,hb=>
    rcases BA.mp hb with rfl|hb
    ·have h1:=h x BF;have h2:=h y (Bw _ BF);show(x.2++y.2).length≤_;rw [Bb];lia
    ·exact ih q r (by simp at hB;exact Dp hB) (λ b hb=>h b (Bw _ (Bw _ hb))) b hb
 induction lv with
 |zero=>exact⟨λ b hb=>by simp at hb,BX _⟩
 | @step k B B' _ hp hs ih=>
  have hpl:=di _ (B:=B) (Bh _);have hl:=hp.length_eq;rw [Bb,A9,hpl] at hl;refine⟨λ b hb=>?_,by have:=ih.2;lia⟩;have h1:1≤2^(k+1):=Nat.one_le_two_pow;rcases Br.mp (hp.subset hb) with hb|hb
  ·obtain⟨p,_,rfl⟩:=DI.mp hb;exact h1
  ·have:=ps _ _ B (Bh _) ih.1 b hb;rw [Df];lia
section
def wB:Sp:=λ vs H Q _=>∃(p av:HZ) (ts:List HZ) (L:List Nat) (wt:Nat->Nat) (m:Nat),vs=[.ref p,vN m]/\H p=some (.lst (ts.map V.ref))/\(∃o,H av=some o)/\Buns H [av] ts (L.map (sgl wt))/\Sorted (L.map (sgl wt))/\1≤L.length/\L.length≤300/\1≤m/\m≤12/\
 ∀(l:HZ) (us:List HZ) (B:List Bd) (H':Hp),Same H H'->H l=none->H' l=some (.lst (us.map V.ref))->Buns H' [av] us (B.take (max 1 (2*L.length-2)))->LevS (L.map (sgl wt)) m B->Q (.ref l) H'
theorem scLight:FnScope ["singles","most","bundles","step"] ["singles","most"] (ak jW):=scK Z8
theorem tz {fP fW:HZ}(F:Fn K mg "lightest_bundles" jW ["singles","most"] f fd)(Pa:Fn K mg "in_pairs" iK ["bundles"] fP fdP)(We:Fn K mg "weight_of" fz ["bundle"] fW fdW)(T:Txt K mg):FnOk P w K mg base CX0 31 f fd ["singles","most"] wB:=by
 refine F.F.ok scLight λ Iq A outer s H vs Q E hr h=>?_
 intro _;obtain⟨p,av,ts,L,wt,m,rfl,hp,⟨oav,hav⟩,hB,hso,n1,n2,m1,m2,k⟩:=h;have hr1:Room 1 _:=hr.mono Z9;have hr3:Room 3 _:=hr.mono Z9;have hn:=hr.hd Z9;refine⟨_,ad (ar (i:=2) scLight.nd (bw bC Z7 T.list C7 (aa (pv 0) ae)))
  (ad (bf BW rfl (cS Z7 T.range (aa (am aY (pv 1) af) ae)) (aJ (i:=3) scLight.nd)
   (ag (ar (i:=2) scLight.nd (jf (sp:=iJ) (i9 We) hr3 We.b Z7 T.sort (aH (v:=.ref fW) Z7 We.m rfl) (aa (am aR (pv 0) (aq (sk Pa T) hr1 Z7 Pa.m Pa.F.kp Pa.b .nil aw (aa (pv 2) ae))) ae)))))
  (ag (ax (bu bJ (pv 2) d7 (a6 (az (qQ hn) Z7 T.max PyProof.Rows.boot_max (aa af (aa (am aY (am bZ af (az ay Z7 T.len BV (aa (pv 0) ae))) af) ae)))))))),?_⟩
 have htl:=hB.len;rw [A9] at htl;refine seq_g λ _ g1=>⟨_,rfl,p,_,rfl,.inl (SqL.of hp),λ l0 nl0=>g1 _ _ ?_⟩
 clear g1;have s0:=aj (o:=.lst (ts.map V.ref)) nl0;have lv1:LevS (L.map (sgl wt)) 1 (L.map (sgl wt)):=.step .zero (by rw [show pairs ([]:List Bd)=[] from rfl,Ct];exact SM.Stb.refl _) hso;have e1:((m:Nat):Int)-1=((m-1:Nat):Int):=(Eh m1).symm;refine seq_g λ _ g1=>⟨_,rfl,_,_,rfl,rfl,?_⟩
 try dsimp only
 rw [e1];refine⟨((m-1:Nat):Int),rfl,Ec (2^62) _,Z5,?_⟩;rw [BO];refine b9 (D:=⟨_,_,λ _ _=>False,λ _ _=>False⟩) (lo:=0) (n:=m-1) (λ i σ H2=>∃(lb:HZ) (us:List HZ) (B:List Bd) (v3:Option V),σ=[some (.ref p),some (vN m),some (.ref lb),v3]/\H2 lb=some (.lst (us.map V.ref))/\Buns H2 [av] us B/\LevS (L.map (sgl wt)) (i+1) B/\Same H H2)
  ⟨l0,ts,_,none,rfl,ac,hB.keep s0,lv1,s0⟩ ?_ ?_
 ·clear g1;rintro i σ H2 hi ⟨lb,us,B,v3,rfl,hlb,hus,lv,sm⟩;obtain⟨hsz,hBl⟩:=uG lv.lev;have hsz2:∀b∈B,b.2.length≤8000000:=λ b hb=>by
   have h1:=hsz b hb;have h2:2^(i+1)≤2^12:=Du Z9 Z5;have h3:(2:Nat)^12=4096:=Z9;exact Ba h1 (Ba h2 Z9)
  have hpl:=di _ (B:=B) (Bh _);refine⟨_,rfl,_,rfl,lb,av,us,B,rfl,hlb,⟨_,sm _ _ hav⟩,hus,Z5,hsz2,λ l ps H3 s3 nl hl hps=>?_⟩;have hpsl:=hps.len;refine⟨p,l,_,_,rfl,rfl,s3 _ _ (sm _ _ hp),hl,(by rw [A9,A9,EJ];lia),λ q nq=>?_⟩;have s4:=aj (o:=.lst (ts.map V.ref++ps.map V.ref)) nq;have hall:Buns (upd H3 q (.lst (ts.map V.ref++ps.map V.ref))) [av] (ts++ps) (L.map (sgl wt)++pairs B):=((hB.keep (sm.trans s3)).app hps).keep s4;have h4q:(upd H3 q (.lst (ts.map V.ref++ps.map V.ref))) q=some (.lst ((ts++ps).map V.ref)):=by rw [ac,Bm]
  have sm4:=(sm.trans s3).trans s4;generalize upd H3 q (.lst (ts.map V.ref++ps.map V.ref))=H4 at*;have hal:=hall.len;refine⟨q,(ts++ps).map V.ref,(L.map (sgl wt)++pairs B).map (λ b=>((b.1:Nat):Int)),rfl,SqL.of h4q,by rw [A9,A9];exact hal,by rw [A9,Bb];lia,λ j v kk hv hk=>?_,λ lo mm nlo hpw hstb=>?_⟩
  ·rw [B4] at hk;cases e:(L.map (sgl wt)++pairs B)[j]? with
   |none=>rw [e] at hk;cases hk
   |some b=>
    rw [e] at hk;obtain⟨t,ht,lt,_,_,h1,h2⟩:=hall.at e;rw [fh ht] at hv;cases hv;cases hk;exact⟨t,lt,b.1,rfl,h1,rfl,rfl⟩
  ·have hz:((L.map (sgl wt)++pairs B).map (λ b=>((b.1:Nat):Int))).zip ((ts++ps).map V.ref)=((ts++ps).zip (L.map (sgl wt)++pairs B)).map (λ z:HZ×Bd=>(((z.2.1:Nat):Int),V.ref z.1)):=ku _ _;rw [hz] at hstb;obtain⟨Z',rfl,hst'⟩:=SM.stb_lift SG.ordI _ hstb;have hZ:=(SM.stb_perm SG.ordI hst').symm;have hSB:SM.Stb SG.ltI wI (Z'.map (·.2)) (L.map (sgl wt)++pairs B):=by
    have:=SM.stb_push (kg:=wI) (λ z:HZ×Bd=>z.2) (λ _=>rfl) hst';rw [GG (Bz hal.symm)] at this;exact this
   have hZB:(Z'.map (·.2)).Perm (L.map (sgl wt)++pairs B):=by
    have:=(hZ.symm.map (·.2));rw [GG (Bz hal.symm)] at this;exact this
   have hso':Sorted (Z'.map (·.2)):=by
    rw [Dv,Gn] at hpw;unfold Sorted;rw [Gn];exact hpw.imp (λ {a b} h=>by have h':((a.2.1:Nat):Int)≤((b.2.1:Nat):Int):=h;exact Hk.mp h')
   have s5:=aj (o:=.lst ((Z'.map (λ z:HZ×Bd=>(((z.2.1:Nat):Int),V.ref z.1))).map (·.2))) nlo;refine⟨lo,Z'.map (·.1),Z'.map (·.2),some (.int (0+((i:Nat):Int))),rfl,?_,?_,.step lv hSB hso',sm4.trans s5⟩
   ·rw [ac,Dv,Dv];rfl
   ·exact(jR λ z hz=>hall.zip z (hZ.symm.subset hz)).keep s5
 ·rintro σ H2 ⟨lb,us,B,v3,rfl,hlb,hus,lv,sm⟩;rw [show m-1+1=m by lia] at lv;refine g1 _ _ ?_;clear g1;obtain⟨_,hBl⟩:=uG lv.lev;have hul:=hus.len;refine⟨_,rfl,_,rfl,p,_,rfl,.inl (SqL.of (sm _ _ hp)),_,_,rfl,rfl,.inl ⟨Z9,Z9⟩,_,_,rfl,rfl,_,_,rfl,?_⟩;have e2:(if(2:Int)*(((ts.map V.ref).length:Nat):Int)-2>1 then(2:Int)*(((ts.map V.ref).length:Nat):Int)-2 else 1)=((max 1 (2*L.length-2):Nat):Int):=by
   rw [A9,htl];split<;>lia
  try dsimp only
  rw [e2];refine⟨_,rfl,lb,_,rfl,SqL.of hlb,λ l5 n5=>?_⟩
  try dsimp only
  rw [iS,<-E1];have s5:=aj (o:=.lst ((us.take (max 1 (2*L.length-2))).map V.ref)) n5;exact k l5 _ B _ (sm.trans s5) (none_of sm n5) ac ((hus.take _).keep s5) lv
end
structure FnL (K:Frag)(mg:Str->Option Ib)(x:Str)(st:Im)(ps:List Str)(f:HZ)(fd:Ih):Prop where
 F:∃dV,FunD K x x st dV f fd
 m:mg x=some (.ref f)
 b:Binds K fd ps []
 d:∃t,Binds K fd ps [.int 6 t]
theorem FnL.kp {K:Frag}{mg:Str->Option Ib}{x:Str}{st:Im}{ps:List Str}(F:FnL K mg x st ps f fd):keepIn K (.ref f)=true:=F.F.elim λ _ z=>z.kp
def cw (C:List Nat)(p:Nat):Nat:=C.getD p 0
def pos (C:List Nat):List Nat:=(List.range C.length).filter (λ p=>decide (0<cw C p))
def LnOf (C:List Nat)(m:Nat)(ln:Nat->Nat):Prop:=∃(L:List Nat) (B:List Bd),Sorted (L.map (sgl (cw C)))/\SM.Stb SG.ltI wI (L.map (sgl (cw C))) ((pos C).map (sgl (cw C)))/\LevS (L.map (sgl (cw C))) m B/\ln=occ (B.take (max 1 (2*L.length-2)))
theorem LnOf.uniq {C:List Nat}{m:Nat}{ln ln':Nat->Nat}(h:LnOf C m ln)(h':LnOf C m ln'):ln=ln':=by
 obtain⟨L,B,a1,a2,a3,a4⟩:=h;obtain⟨L',B',b1,b2,b3,b4⟩:=h';have e:=SM.stb_uniq SG.ordI (pz a1) (pz b1) (a2.trans b2.symm);have el:=congrArg List.length e;rw [A9,A9] at el;rw [<-e] at b3;have:=a3.uniq b3;subst this;rw [a4,b4,el]
theorem Buns.fresh {av:HZ}{bs:List Bd}(h:Buns H A ts bs)(n:H av=none):Buns H [av] ts bs:=by
 induction h with
 |nil=>exact .nil
 |cons a _ ih=>
  obtain⟨l,_,_,h1,h2⟩:=a;exact .cons ⟨l,λ z=>ai h1 n (Bx.mp z),λ z=>ai h2 n (Bx.mp z),h1,h2⟩ ih
theorem ixN_nat {j:Nat}(h:j<n):ixN n ((j:Nat):Int)=some j:=by
 unfold ixN;rw [BM (BZ _),BM (EC.mpr h)];simp
theorem set_range {q:Nat}{f f':Nat->Nat}(h:∀p,f' p=f p+ [q].count p):((List.range n).map λ p=>vN (f p)).set q (vN (f q+1))=(List.range n).map λ p=>vN (f' p):=by
 refine Dq λ i=>?_
 rw [List.getElem?_set,A9,Ej,B4,B4];by_cases hi:i<n
 ·rw [EY hi];by_cases e:q=i
  ·subst e;rw [BM rfl,BM hi,G7,h q];simp
  ·rw [Bu e,G7,G7,h i];have: [q].count i=0:=Ef (by simp;exact λ z=>e z.symm);rw [this,Ey]
 ·have e2:(List.range n)[i]?=none:=BS (by rw [Ej];exact Cv hi);rw [e2];by_cases e:q=i
  ·subst e;rw [BM rfl,Bu hi];rfl
  ·rw [Bu e];rfl
section
def rg:Sp:=λ vs H Q _=>∃(a:HZ) (C:List Nat) (m:Nat),vs=[.ref a,vN m]/\H a=some (.lst (C.map vN))/\(∀b∈C,b≤1000000)/\1≤C.length/\C.length≤300/\(∃b∈C,0<b)/\1≤m/\m≤12/\(C.filter (λ b=>decide (0<b))).length≤2^m/\(pos C).length≤300/\1≤(pos C).length/\(pos C).length≤2^m/\
 ∀(l:HZ) (ln:Nat->Nat) (H':Hp),H l=none->Same H H'->H' l=some (.lst ((List.range C.length).map λ p=>vN (ln p)))->Best (pos C) (cw C) m ln->LnOf C m ln->Q (.ref l) H'
theorem scLengths:FnScope ["counts","most","singles","lengths","bundle","place"] ["counts","most"] (ak ir):=scK Z8
theorem zE:(["place","count"]:List Str).Nodup:=Z8
def zw:TE:=yo (eh (dW 1) (eh (uV (eh (dW 0) gv)) gv))
def zU:TT:=lB (tOp (rI0 λ i j=>.bl (decide (j<i))) (dW 1) (tC (.int 0)))
theorem ok_lengths {fN fW' fL fP fW:HZ}{fdN fdW' fdL:Ih}(F:FnL K mg "lengths_of" ir ["counts","most"] f fd)(Ne:Fn K mg "need_shares" pN ["counts","most"] fN fdN)(Th:Fn K mg "are_of_things" eg ["thing","most"] fT fdT)(AW:Fn K mg "are_whole" bK ["thing","least","most"] fA fdA)(W:Fn K mg "is_whole" bE ["thing","least","most"] fW' fdW')
  (Li:Fn K mg "lightest_bundles" jW ["singles","most"] fL fdL) (Pa:Fn K mg "in_pairs" iK ["bundles"] fP fdP) (We:Fn K mg "weight_of" fz ["bundle"] fW fdW) (T:Txt K mg):FnOk P w K mg base CX0 33 f fd ["counts","most"] rg:=by
 obtain⟨dV,F0⟩:=F.F;refine F0.ok scLengths λ Iq A outer s H vs Q E hr h=>?_
 intro _;obtain⟨a,C,m,rfl,ha,hC,c1,c3,hpos,m1,m2,hfit,p30,p1,pm,k⟩:=h;have hr31:Room 31 _:=hr.mono Z9;have hr3:Room 3 _:=hr.mono Z9;refine⟨_,ad (aF (aq (vQ Ne Th AW W T) hr Z7 Ne.m Ne.F.kp Ne.b .nil aw (aa (pv 0) (aa (pv 1) ae))))
  (ad (ar (i:=2) scLengths.nd (jf (sp:=iJ) (i9 We) hr3 We.b Z7 T.sort (aH (v:=.ref fW) Z7 We.m rfl) (aa (eQ (N:=["place","count"]) (g:=qZ K 2 (dR (bz 0) (dR (bz 1) qB))) (tt:=zU) (te:=zw) rfl rfl Z8 Z8 Z8
   (pj Z7 T.enum (aa (pv 0) ae)) (λ fp s H=>ke rfl (cE (aJ (i:=0) zE) (cE (aJ (i:=1) zE) gJ)))
   (λ fp s H=>aA dH (pv 1) af (aC _)) (λ fp s H=>bL (aa (pv 1) (aa (aE (aa (pv 0) ae)) ae)))) ae)))
  (ad (ar (i:=3) scLengths.nd (am jP (aE (aa af ae)) (az ay Z7 T.len BV (aa (pv 0) ae))))
  (ad (bf BW rfl (bi (aq (tz Li Pa We T) hr31 Z7 Li.m Li.F.kp Li.b .nil aw (aa (pv 2) (aa (pv 1) ae)))) (aJ (i:=4) scLengths.nd)
   (ag (bf BW rfl (bi (aM aZ (pv 4) af (λ _ _=>rfl))) (aJ (i:=5) scLengths.nd)
    (ag (nN (am aK (aM aW (pv 3) (pv 5) (λ _ _=>rfl)) af) (mF (pv 3) (pv 5) iV))))))
  (ag (ax (pv 3)))))),?_⟩
 refine seq_g λ _ g1=>⟨_,rfl,_,rfl,a,C,m,rfl,ha,hC,c1,c3,hpos,m1,m2,hfit,λ H1 s1=>g1 _ _ ?_⟩
 clear g1;have ha1:=s1 _ _ ha;refine seq_g λ _ g1=>⟨_,rfl,a,_,rfl,SqL.of ha1,λ l nl=>?_⟩
 refine um (K:=K) (a:=a) (l:=l) (xs:=C.map vN) (n:=2) (g:=qZ K 2 (dR (bz 0) (dR (bz 1) qB))) (tt:=zU) (te:=zw)
  (λ i ys H2=>∃ts:List HZ,ys=ts.map V.ref/\H2 l=some (.lst ys)/\Same H1 H2/\Buns H2 [l] ts (((List.range i).filter (λ p=>decide (0<cw C p))).map (sgl (cw C))))
  ⟨[],rfl,ac,aj nl,.nil⟩ (λ i ys H2 _ z9=>by obtain⟨_,_,_,sm,_⟩:=z9;exact SqL.of (sm _ _ ha1)) ?_ ?_ ?_ ?_ ?_
 ·clear g1;rintro i x ys σ H2 p hx ⟨ts,rfl,hl,sm,hb⟩ hσ hp;obtain⟨c,hc,rfl⟩:=cj hx;have hil:i<C.length:=(Bo.mp hc).1;have hcw:cw C i=c:=by rw [cw,Ca,hc];rfl
  obtain⟨u0,u1,rfl⟩:∃u0 u1,σ=[u0,u1]:=match σ,hσ with| [u0,u1],_=>⟨u0,u1,rfl⟩
  have sp:=aj (o:=.tup [.int ((i:Nat):Int),vN c]) hp;have hlp:=sp _ _ hl;have hpp:(upd H2 p (.tup [.int ((i:Nat):Int),vN c])) p=some (.tup [vN i,vN c]):=ac;generalize upd H2 p (.tup [.int ((i:Nat):Int),vN c])=H3 at*;refine⟨p,_,rfl,SqT.of hpp,rfl,_,_,rfl,_,_,rfl,rfl,?_⟩;refine⟨_,rfl,_,_,rfl,rfl,_,rfl,?_⟩;have htl:=hb.len;rw [A9] at htl;have hfl:((List.range i).filter (λ p=>decide (0<cw C p))).length≤300:=Ba (Fk _ _) (by rw [Ej];exact Ba (B7 hil) c3);dsimp only;rw [HU,BK];by_cases h0:0<c
  ·rw [BM (Bj (show(0:Int)<((c:Nat):Int) from G6.mpr h0)),BE (by rw [hcw];exact Bj h0)];refine⟨_,rfl,_,rfl,(by show 1≤sizeLine;decide),λ q nq=>⟨(by show 2≤sizeLine;decide),λ t nt=>?_⟩⟩;have sq:=aj (o:=.lst [vN i]) nq;have hlq:=sq _ _ hlp;have hqq:(upd H3 q (.lst [vN i])) q=some (.lst [vN i]):=ac;have nql:q∉ [l]:=λ z=>by rw [Bx.mp z,hlp] at nq;cases nq
   generalize upd H3 q (.lst [vN i])=H4 at*;have st:=aj (o:=.tup [vN c,V.ref q]) nt;have Ir:=st _ _ hlq;have hqt:=st _ _ hqq;have htt:(upd H4 t (.tup [vN c,V.ref q])) t=some (.tup [vN c,V.ref q]):=ac;have ntl:t∉ [l]:=λ z=>by rw [Bx.mp z,hlq] at nt;cases nt
   generalize upd H4 t (.tup [vN c,V.ref q])=H5 at*;have s25:Same H2 H5:=(sp.trans sq).trans st;have kk:∀c' o,c'∉ [l]->H5 c'=some o->(upd H5 l (.lst (ts.map V.ref++[V.ref t]))) c'=some o:=λ c' o n e=>by rw [upd_ne (λ z=>n (by simp [z]))];exact e
   refine⟨Ir,bF (by rw [A9];lia),rfl,ts++[t],by rw [Bm];rfl,ac,λ c' o e=>?_,?_⟩
   ·rw [upd_ne (ai e nl)];exact s25 _ _ (sm _ _ e)
   ·rw [Bm];refine(hb.keepA λ c' o n e=>kk _ _ n (s25 _ _ e)).app (.cons ⟨q,ntl,nql,?_,kk _ _ nql hqt⟩ .nil);show _=some (HO.tup [vN (cw C i),V.ref q]);rw [hcw];exact kk _ _ ntl htt
  ·rw [Bu (λ z=>absurd (Bp z) Z4),BN (by rw [hcw];simpa using h0)];refine⟨rfl,ts,rfl,hlp,sm.trans sp,?_⟩;rw [List.filter_nil,Ct];exact hb.keep sp
 rotate_left
 ·rintro x σ H3 A' B' hAB ⟨a',xs,e,hq,hl',v,r,e2,v2,r2,e3,e4,h⟩;exact⟨a',xs,e,hq,hl',v,r,e2,v2,r2,e3,e4,hAB _ _ h⟩
 ·exact λ σ H A B h z9=>by obtain⟨v,e1,i,j,e2,e3,c,e4,z⟩:=z9;exact⟨v,e1,i,j,e2,e3,c,e4,h _ _ z⟩
 ·exact λ σ H A B h z9=>by obtain⟨v,e1,v2,e2,n1,z⟩:=z9;exact⟨v,e1,v2,e2,n1,λ q nq=>⟨(z q nq).1,λ t nt=>h _ _ ((z q nq).2 t nt)⟩⟩
 rintro ys H2 ⟨ts,rfl,hl,sm,hb⟩;rw [A9] at hb;have hb':Buns H2 [l] ts ((pos C).map (sgl (cw C))):=hb;clear hb;have hal:=hb'.len;rw [A9] at hal;refine⟨l,ts.map V.ref,((pos C).map (sgl (cw C))).map (λ b=>((b.1:Nat):Int)),rfl,SqL.of hl,by rw [A9,A9,A9];exact hal,by rw [A9];lia,λ j v kk hv hk=>?_,λ lo mm nlo hpw hstb=>g1 _ _ ?_⟩
 ·rw [B4] at hk;cases e:((pos C).map (sgl (cw C)))[j]? with
  |none=>rw [e] at hk;cases hk
  |some b=>
   rw [e] at hk;obtain⟨t,ht,lt,_,_,h1,h2⟩:=hb'.at e;rw [fh ht] at hv;cases hv;cases hk;exact⟨t,lt,b.1,rfl,h1,rfl,rfl⟩
 clear g1;rw [ku] at hstb;obtain⟨Z',rfl,hst'⟩:=SM.stb_lift SG.ordI _ hstb;have hZ:=(SM.stb_perm SG.ordI hst').symm;have hSB:SM.Stb SG.ltI wI (Z'.map (·.2)) ((pos C).map (sgl (cw C))):=by
  have:=SM.stb_push (kg:=wI) (λ z:HZ×Bd=>z.2) (λ _=>rfl) hst';rw [GG (by rw [A9];exact Bz hal.symm)] at this;exact this
 have hZB:(Z'.map (·.2)).Perm ((pos C).map (sgl (cw C))):=by
  have:=(hZ.symm.map (·.2));rw [GG (by rw [A9];exact Bz hal.symm)] at this;exact this
 have hso':Sorted (Z'.map (·.2)):=by
  rw [Dv,Gn] at hpw;unfold Sorted;rw [Gn];exact hpw.imp (λ {a b} h=>by have h':((a.2.1:Nat):Int)≤((b.2.1:Nat):Int):=h;omega)
 obtain⟨L,UL,hLp,eL,eU⟩:=kT (RX:=Z'.map (·.2)) (UX:=[]) (by rw [Ct];exact hZB.symm);have eU':UL=[]:=by simpa using eU.symm
 subst eU';rw [Ct] at hLp;have s5:=aj (o:=.lst ((Z'.map (λ z:HZ×Bd=>(((z.2.1:Nat):Int),V.ref z.1))).map (·.2))) nlo;have hbs:=(jR λ z hz=>hb'.zip z (hZ.symm.subset hz)).keep s5;have hlo:(upd H2 lo (.lst ((Z'.map (λ z:HZ×Bd=>(((z.2.1:Nat):Int),V.ref z.1))).map (·.2)))) lo=some (.lst ((Z'.map (·.1)).map V.ref)):=by
  rw [ac,Dv,Dv];rfl
 have sm3:=sm.trans s5;generalize upd H2 lo (.lst ((Z'.map (λ z:HZ×Bd=>(((z.2.1:Nat):Int),V.ref z.1))).map (·.2)))=H3 at*;rw [eL] at hbs hso' hSB;generalize Z'.map (·.1)=ss at*;clear hZ hZB hstb hst' hpw eL eU hl hb' sm s5 hal;have hLl:=hLp.length_eq;have s03:=s1.trans sm3;have ha3:=s03 _ _ ha;refine seq_g λ _ g1=>⟨(by show 1≤sizeLine;decide),λ l4 n4=>?_⟩
 have s4:=aj (o:=.lst [V.int 0]) n4;have h44:(upd H3 l4 (.lst [V.int 0])) l4=some (.lst [vN 0]):=ac;generalize upd H3 l4 (.lst [V.int 0])=H4 at*;refine⟨_,rfl,a,_,rfl,.inl (SqL.of (s4 _ _ ha3)),l4,_,_,rfl,rfl,h44,Z5,by rw [A9];exact Int.ofNat_lt.2 (B0 c3 Z9),(by rw [A9,BO];exact bj (by show 1*C.length≤2000;lia)),λ l5 n5=>g1 _ _ ?_⟩;clear g1;have ez:(List.replicate (((C.map vN).length:Nat):Int).toNat [vN 0]).flatten=(List.range C.length).map λ p=>vN (occ [] p):=by
  rw [BO,A9];show(List.replicate C.length [vN 0]).flatten=(List.range C.length).map λ _=>vN 0
  rw [HS,Ej];generalize C.length=n
  induction n with
  |zero=>rfl
  |succ n ih=>rw [CF,CG,ih,CF];rfl
 try dsimp only
 rw [ez];have s5:=aj (o:=.lst ((List.range C.length).map λ p=>vN (occ [] p))) n5;have h55:(upd H4 l5 (.lst ((List.range C.length).map λ p=>vN (occ [] p)))) l5=some (.lst ((List.range C.length).map λ p=>vN (occ [] p))):=ac;have hb5:=((hbs.keep s4).fresh n5).keep s5;have hlo5:=s5 _ _ (s4 _ _ hlo);have s05:=(s03.trans s4).trans s5;have n05:H l5=none:=none_of (s03.trans s4) n5;generalize upd H4 l5 (.lst ((List.range C.length).map λ p=>vN (occ [] p)))=H5 at*;clear s4 s5 h44 n4 n5 ez;refine seq_g λ _ g1=>⟨_,rfl,_,rfl,lo,l5,ss,L,cw C,m,rfl,hlo5,⟨_,h55⟩,hb5,hso',Gs p1 hLl,Z5,m1,m2,λ lb ub B H6 s6 nlb hlb hub lv=>?_⟩
 have h65:=s6 _ _ h55;have s06:=s05.trans s6;have hbest:Best L (cw C) m (occ (B.take (max 1 (2*L.length-2)))):=by
  refine sU (hLp.nodup_iff.mp ?_) (λ p hp=>?_) lv.lev (Gs p1 hLl) m1 (De hLl.symm pm)
  ·exact List.Pairwise.filter _ List.nodup_range
  ·have:=(DU.mp (hLp.symm.subset hp)).2;exact Bp this
 have hwR:∀b∈B.take (max 1 (2*L.length-2)),∀q∈b.2,q<C.length:=λ b hb q hq=>by
  have:=x6 lv.lev b (Cq hb) q hq;exact Fx.mp (DU.mp (hLp.symm.subset this)).1
 have hln:LnOf C m (occ (B.take (max 1 (2*L.length-2)))):=⟨L,B,hso',hSB,lv,rfl⟩;generalize B.take (max 1 (2*L.length-2))=R at*;have hulR:=hub.len;have hlb5:lb≠l5:=(ai h55 nlb).symm;clear hb5 hlo5 h55 hso' hbs hlo;refine⟨lb,rfl,⟨_,SqL.of hlb⟩,bx (D:=⟨_,_,λ _ _=>False,λ _ _=>False⟩) (K:=K) (a:=lb) (xs:=ub.map V.ref) (λ i σ H7=>∃v4 v5:Option V,σ=[some (.ref a),some (vN m),some (.ref lo),some (.ref l5),v4,v5]/\H7 l5=some (.lst ((List.range C.length).map λ p=>vN (occ (R.take i) p)))/\∀c o,c≠l5->H6 c=some o->H7 c=some o)
  ⟨none,none,rfl,h65,λ _ _ _ e=>e⟩ (λ i σ H7 _ z9=>by obtain⟨_,_,_,_,kp⟩:=z9;exact SqL.of (kp _ _ hlb5 hlb)) ?_ ?_⟩
 ·clear g1;rintro i y σ H7 hi ⟨v4,v5,rfl,h7,kp⟩;have hil:i<R.length:=by have:=(Bo.mp hi).1;rw [A9] at this;exact Bn this hulR
  have hRi:R[i]?=some R[i]:=Bg hil;obtain⟨t,ht,lq,nt,nq,h1,h2⟩:=hub.at hRi;have hy:y=.ref t:=by rw [fh ht] at hi;exact(BU hi).symm
  subst hy;have Ir:=hwR _ (Dn hil);have e1:∀p,occ (R.take (i+1)) p=occ (R.take i) p+R[i].2.count p:=λ p=>by
   rw [CQ,hRi];show occ (R.take i++[R[i]]) p=_;rw [iM,dm];rfl
  generalize R[i]=bb at*;have nq':lq≠l5:=λ z=>nq (by simp [z])
  have nt':t≠l5:=λ z=>nt (by simp [z])
  refine⟨_,rfl,t,_,_,_,rfl,rfl,SqT.of (kp _ _ nt' h1),aB (j:=1) rfl,lq,rfl,⟨_,SqL.of (kp _ _ nq' h2)⟩,bx (D:=⟨_,_,λ _ _=>False,λ _ _=>False⟩) (K:=K) (a:=lq) (xs:=bb.2.map vN) (λ j σ H8=>∃v5:Option V,σ=[some (.ref a),some (vN m),some (.ref lo),some (.ref l5),some (.ref t),v5]/\H8 l5=some (.lst ((List.range C.length).map λ p=>vN (occ (R.take i) p+(bb.2.take j).count p)))/\∀c o,c≠l5->H6 c=some o->H8 c=some o)
   ⟨v5,rfl,by simpa using h7,kp⟩ (λ j σ H8 _ z9=>by obtain⟨_,_,_,kp⟩:=z9;exact SqL.of (kp _ _ nq' h2)) ?_ ?_⟩
  ·rintro j y σ H8 hj ⟨v5,rfl,h8,kp8⟩;obtain⟨q,hq,rfl⟩:=cj hj;have hqn:q<C.length:=Ir q (Cm hq);have hg:((List.range C.length).map λ p=>vN (occ (R.take i) p+(bb.2.take j).count p))[q]?=some (vN (occ (R.take i) q+(bb.2.take j).count q)):=by
    rw [B4,EY hqn];rfl
   have e2:((occ (R.take i) q+(bb.2.take j).count q:Nat):Int)+1=((occ (R.take i) q+(bb.2.take j).count q+1:Nat):Int):=Gw _;refine⟨_,rfl,_,rfl,l5,_,_,_,rfl,rfl,SqL.of h8,aB hg,_,_,rfl,rfl,?_⟩
   try dsimp only
   rw [e2];refine⟨_,rfl,_,rfl,l5,_,_,q,rfl,rfl,h8,ixN_nat (by rw [A9,Ej];exact hqn),some (vN q),rfl,?_,λ c o n e=>?_⟩
   ·rw [ac,set_range (f:=λ p=>occ (R.take i) p+(bb.2.take j).count p) (f':=λ p=>occ (R.take i) p+(bb.2.take (j+1)).count p) λ p=>?_];rw [cM hq,Fs,CI]
   ·rw [upd_ne n];exact kp8 _ _ n e
  ·rintro σ H8 ⟨v5,rfl,h8,kp8⟩;rw [A9,Cc] at h8;refine⟨_,_,rfl,?_,kp8⟩;rw [h8];congr 2;refine FQ λ p _=>?_
   rw [e1 p]
 ·rintro σ H7 ⟨v4,v5,rfl,h7,kp⟩;rw [A9,hulR,Cc] at h7;refine g1 _ _ ⟨_,rfl,k l5 _ H7 n05 (λ c o e=>kp _ _ (ai e n05) (s06 _ _ e)) h7 (hbest.perm hLp.symm) hln⟩
end
end K24.S
set_option maxHeartbeats 4000000
namespace K24.Tb
open PySem L2 QQ W13 BP
seal PE PA PS PSs PT PW PG PI
variable {f:HZ}{fd:Ih}
section
variable {C:HZ}
def mw:Sp:=λ vs H Q _=>∃(a:HZ) (L:List Nat),vs=[.ref a]/\H a=some (.lst (L.map vN))/\L.length=272/\(∀b∈L,b≤6)/\Q .non H
theorem lm:FnScope ["lengths"] ["lengths"] (ak dE):=scK Z8
theorem jV (F:Fn K mg "need_table" dE ["lengths"] f fd)(Y:Rows K mg):FnOk P w K mg base CX0 3 f fd ["lengths"] mw:=by
 obtain⟨T,⟨_,_,W⟩,⟨_,_,AW⟩,_⟩:=Y;obtain⟨tb,hb⟩:=T.bits;obtain⟨tm,hm⟩:=T.many;refine F.F.ok lm λ Iq A outer s H vs Q E hr h=>?_
 intro _;obtain⟨a,L,rfl,hL,hl,h6,k⟩:=h;refine⟨_,ag (aL (PW.pt (fE (bM (bq (aq (cy AW W T) hr Z7 AW.m AW.F.kp AW.b .nil aw (aa (pv 0) (aa af (aa (aH (v:=.int 6) Z7 hb ⟨tb,rfl⟩) ae))))))
  (dP (aA xm (az ay Z7 T.len BV (aa (pv 0) ae)) (aH (v:=.int 272) Z7 hm ⟨tm,rfl⟩) (aC _))))) (ag bD) aD),?_⟩
 refine⟨_,rfl,a,L,0,6,rfl,hL,λ b z=>by have:=h6 b z;lia,_,rfl,bV ?_⟩;refine⟨_,rfl,a,_,rfl,.inl (SqL.of hL),rfl,_,rfl,dG ?_ k⟩;rw [A9,hl];rfl
def vJ:Sp:=λ vs H Q _=>∃(a:HZ) (L:List Nat) (p ah:Nat),vs=[.ref a,vN p,vN ah]/\H a=some (.lst (L.map vN))/\L.length=272/\p≤272/\Q (vN (min 66 (run ah (L.drop p)))) H
theorem scAgain:FnScope ["lengths","place","ahead","most","again"] ["lengths","place","ahead"] (ak jB):=scK Z8
theorem sH (F:Fn K mg "again_from" jB ["lengths","place","ahead"] f fd)(T:Txt K mg):FnOk P w K mg base CX0 31 f fd ["lengths","place","ahead"] vJ:=by
 obtain⟨tm,hm⟩:=T.many;obtain⟨ta,hma⟩:=T.mostA;refine F.F.ok scAgain λ Iq A outer st H vs Q E hr h=>?_
 intro _;obtain⟨a,L,p,ah,rfl,hL,hl,hp,k⟩:=h;have hn:=hr.hd Z9;refine⟨_,ad (ar (i:=3) scAgain.nd (az (dZ hn) Z7 T.min Fj (aa (aH (v:=.int 66) Z7 hma ⟨ta,rfl⟩) (aa (am aY (aH (v:=.int 272) Z7 hm ⟨tm,rfl⟩) (pv 1)) ae))))
  (ad (ar (i:=4) scAgain.nd af)
  (ad (cX BW (PW.pt (nJ (aA jw (pv 4) (pv 3) (aC _)) (j6 (aA bP (aM aW (pv 0) (am aK (pv 1) (pv 4)) (λ _ _=>rfl)) (pv 2) (aC _)))))
   (ag (ar (i:=4) scAgain.nd (am aK (pv 4) af))))
  (ag (ax (pv 4))))),?_⟩
 refine seq_g λ _ g1=>⟨_,rfl,_,_,rfl,rfl,_,_,rfl,g1 _ _ ?_⟩
 clear g1;obtain⟨m,em,hm1⟩:∃m:Nat,(if(272:Int)-((p:Nat):Int)<66 then(272:Int)-((p:Nat):Int) else 66)=((m:Nat):Int)/\m=min 66 (272-p):=⟨min 66 (272-p),by split<;>lia,rfl⟩
 try dsimp only
 rw [em];clear em;refine seq_g λ R1 g1=>g1 _ _ ?_
 clear g1;refine seq_g λ R1 g1=>?_
 have hrl:=iG ah (L.drop p);rw [By] at hrl;refine⟨λ n σ H2=>∃i:Nat,n=m-i/\σ=[some (.ref a),some (vN p),some (vN ah),some (vN m),some (vN i)]/\H2=H/\i≤m/\∀j<i,(L.drop p)[j]?=some ah,⟨m,0,rfl,rfl,rfl,BX _,λ j hj=>absurd hj (G1 _)⟩,?_⟩;rintro n σ H2 ⟨i,rfl,rfl,rfl,hi,hall⟩;refine⟨_,rfl,_,rfl,_,_,rfl,rfl,_,rfl,bd (λ h1=>?_) (λ h1=>?_)⟩
 ·have h2:i<m:=by have:=Bp h1;exact EC.mp this
  have e1:((p:Nat):Int)+((i:Nat):Int)=((p+i:Nat):Int):=Z5;have l1:p+i<L.length:=Bn (Dc (Bf h2 (Ba (Bz hm1) (Di _ _)))) hl.symm;refine⟨_,rfl,_,rfl,_,rfl,_,_,rfl,rfl,?_⟩
  try dsimp only
  rw [e1];have hgd:(L.drop p)[i]?=some L[p+i]:=by rw [ED,Bg l1]
  refine⟨a,_,_,_,rfl,rfl,SqL.of hL,aB (cU l1),_,rfl,rfl,_,rfl,bd (λ h3=>?_) (λ h3=>?_)⟩
  ·have h4:L[p+i]=ah:=vN_inj.mp (Bp h3);refine⟨λ σ' H'=>σ'=[some (.ref a),some (vN p),some (vN ah),some (vN m),some (vN (i+1))]/\H'=H2,λ σ' H' z=>⟨m-(i+1),Cy _ _ h2,i+1,rfl,z.1,z.2, ‹_›,λ j hj=>?_⟩,?_⟩
   ·by_cases e:j=i
    ·subst e;rw [hgd,h4]
    ·exact hall j (Cn (CM hj) e)
   ·exact⟨_,rfl,_,_,rfl,rfl,rfl,rfl⟩
  ·refine g1 _ _ ⟨_,rfl,?_⟩;have h4:(L.drop p)[i]?≠some ah:=by
    rw [hgd];intro z;exact h3 (Bj (vN_inj.mpr (BU z)))
   rw [rR hall h4,DD (Ba (B7 h2) (Ba (Bz hm1) (Da _ _)))] at k;exact k
 ·refine bV (g1 _ _ ⟨_,rfl,?_⟩);have h2:i=m:=by
   have h1':¬(decide ((i:Int)<(m:Int))=true):=h1;have:¬((i:Int)<(m:Int)):=λ z=>h1' (Bj z)
   exact BI hi (Cv λ z=>this (Int.ofNat_lt.2 z))
  subst h2;have h5:=oi hall;have e:min 66 (run ah (L.drop p))=i:=BI (Ba (Nat.le_min.2 ⟨Da _ _,Ba (Di _ _) (hl▸hrl)⟩) (Bz hm1.symm)) (Nat.le_min.2 ⟨Ba (Bz hm1) (Da _ _),h5⟩);rw [e] at k;exact k
theorem uY:∀P:List Itm,tots (puts P)≤9*P.length:=by
 intro P;have e:tots (puts P)=(P.map Itm.cost).sum:=gl P;rw [e];clear e
 induction P with
 |nil=>simp
 |cons x P ih=>
  have:x.cost≤9:=by cases x<;>simp [Itm.cost]
  simp;lia
def nQ (C:HZ):Sp:=λ vs H Q _=>∃(p d a:HZ) (N0 T0:Nat) (L:List Nat),vs=[.ref p,.ref a]/\BitsAt C H p d N0 T0/\T0≤1000/\H a=some (.lst (L.map vN))/\L.length=272/\(∀b∈L,b≤6)/\a≠d/\
 ∀(Pp:List Itm) (b:Nat) (H':Hp),Walk L 0 0 Pp 272 b->BitsAt C H' p d (dJ (puts Pp) N0) (T0+tots (puts Pp))->(∀c o,H c=some o->c≠p->c≠d->H' c=some o)->Q .non H'
theorem scPutTable:FnScope ["bits","lengths","place","ahead","again"] ["bits","lengths"] (ak fZ):=scK Z8
theorem ok_puttable {fN fA:HZ}{fdN fdA:Ih}(F:Fn K mg "put_table" fZ ["bits","lengths"] f fd)(NT:Fn K mg "need_table" dE ["lengths"] fN fdN)(AF:Fn K mg "again_from" jB ["lengths","place","ahead"] fA fdA)(B:Bts K mg C):FnOk P w K mg base CX0 32 f fd ["bits","lengths"] (nQ C):=by
 have X:=B.R.X;obtain⟨_,_,W⟩:=B.R.whole;obtain⟨_,_,S⟩:=B.needsize;obtain⟨_,_,O⟩:=B.ones;obtain⟨_,_,Pu⟩:=B.put;obtain⟨_,_,M⟩:=B.move;have T:=B.T;have GP:=ii (P:=P) (w:=w) (base:=base) Pu.F S W O M T X;obtain⟨tm,hm⟩:=X.many;obtain⟨ta,hag⟩:=X.again;obtain⟨tl,hle⟩:=X.leastA;refine F.F.ok scPutTable λ Iq A outer st H vs Q E hr h=>?_
 intro _;obtain⟨p,d,a,N0,T0,L,rfl,hB,hT0,ha,hl,h6,nad,k⟩:=h;have hr3:Room 3 _:=hr.mono Z9;have nap:a≠p:=by
  obtain⟨dx,_,_,_,hp,_⟩:=hB;exact ne_of ha hp (by intro z;cases z)
 refine⟨_,ad (aF (aq (jV NT B.R) hr3 Z7 NT.m NT.F.kp NT.b .nil aw (aa (pv 1) ae)))
  (ad (ar (i:=2) scPutTable.nd af)
  (ad (ar (i:=3) scPutTable.nd af)
  (ag (cX BW (aA jw (pv 2) (aH (v:=.int 272) Z7 hm ⟨tm,rfl⟩) (aC _))
   (ad (ar (i:=4) scPutTable.nd (aq (sH AF X) hr Z7 AF.m AF.F.kp AF.b .nil aw (aa (pv 1) (aa (pv 2) (aa (pv 3) ae)))))
   (ag (aL (aA pG (pv 4) (aH (v:=.int 3) Z7 hle ⟨tl,rfl⟩) (aC _))
    (ad (aF (aV (pv 0) T.cl Pu.m GP hr3 Pu.b .nil aw (aa (aH (v:=.int 7) Z7 hag ⟨ta,rfl⟩) (aa af ae))))
    (ad (aF (aV (pv 0) T.cl Pu.m GP hr3 Pu.b .nil aw (aa (am aY (pv 4) (aH (v:=.int 3) Z7 hle ⟨tl,rfl⟩)) (aa af ae))))
    (ag (ar (i:=2) scPutTable.nd (am aK (pv 2) (pv 4))))))
    (ad (ar (i:=3) scPutTable.nd (aM aW (pv 1) (pv 2) (λ _ _=>rfl)))
    (ad (aF (aV (pv 0) T.cl Pu.m GP hr3 Pu.b .nil aw (aa (pv 3) (aa af ae))))
    (ag (ar (i:=2) scPutTable.nd (am aK (pv 2) af)))))))))))),?_⟩
 refine seq_g λ _ g1=>⟨_,rfl,a,L,rfl,ha,hl,h6,g1 _ _ ?_⟩
 clear g1;refine seq_g λ R1 g1=>g1 _ _ ?_
 clear g1;refine seq_g λ R1 g1=>g1 _ _ ?_
 clear g1;refine⟨λ n σ H2=>∃(q ah:Nat) (Pp:List Itm) (v4:Option V),n=272-q/\σ=[some (.ref p),some (.ref a),some (vN q),some (vN ah),v4]/\q≤272/\Walk L 0 0 Pp q ah/\BitsAt C H2 p d (dJ (puts Pp) N0) (T0+tots (puts Pp))/\(∀c o,H c=some o->c≠p->c≠d->H2 c=some o),
  ⟨272,0,0,[],none,rfl,rfl,Z9,⟨rfl,rfl⟩,hB,λ c o e _ _=>e⟩,?_⟩
 rintro n σ H2 ⟨q,ah,Pp,v4,rfl,rfl,hq,hw,hB2,kp⟩;refine⟨_,rfl,_,_,rfl,rfl,_,rfl,bd (λ hc=>?_) (λ hc=>?_)⟩
 ·have hq2:q<272:=by have:=Bp hc;exact EC.mp this
  have hqL:q<L.length:=Bn hq2 hl.symm;refine⟨λ σ' H'=>∃(q' ah:Nat) (Pp:List Itm) (v4:Option V),q<q'/\σ'=[some (.ref p),some (.ref a),some (vN q'),some (vN ah),v4]/\q'≤272/\Walk L 0 0 Pp q' ah/\BitsAt C H' p d (dJ (puts Pp) N0) (T0+tots (puts Pp))/\(∀c o,H c=some o->c≠p->c≠d->H' c=some o),
   λ σ' H' z9=>by obtain⟨q',ah,Pp,v4,Ir,z1,z2,z⟩:=z9;exact⟨272-q',Nat.sub_lt_sub_left (Bf Ir z2) Ir,q',ah,Pp,v4,rfl,z1,z2,z⟩,?_⟩
  have hwl:=cz hw;have hcl:=uY Pp;have ha2:=kp _ _ ha nap nad;have hws:=cN hw hqL;have hsz:=ju (a:=ah) hqL;refine seq_g λ _ g2=>⟨_,rfl,_,rfl,_,rfl,a,L,q,ah,rfl,ha2,hl, ‹_›,g2 _ _ ?_⟩
  clear g2;obtain⟨dx,B2,r2,k2,hp2,hd2,br2,hk2⟩:=id hB2;have no:∀r k,(fW d r k).lookup ("put":Str)=none:=λ r k=>cY _ _ _
  refine⟨_,rfl,_,_,rfl,rfl,_,rfl,bd (λ h3=>?_) (λ h3=>?_)⟩
  ·have h4:3≤min 66 (run ah (L.drop q)):=by have:=Bp h3;exact Hk.mp this
   have est:stAt L q ah=.rep (min 66 (run ah (L.drop q))):=by unfold stAt;rw [BM h4]
   rw [est] at hws hsz;have hr66:min 66 (run ah (L.drop q))≤66:=Da 66 _;generalize min 66 (run ah (L.drop q))=r at*;refine⟨_,rfl,p,dx,_,rfl,hp2,no _ _,p,d,_,_,7,3,rfl,hB2,Z5,Z9,Z9,λ H3 hB3 kp3=>?_⟩;obtain⟨dx3,B3,r3,k3,hp3,hd3,br3,hk3⟩:=id hB3;have er:((r:Nat):Int)-3=((r-3:Nat):Int):=Z5;refine⟨_,rfl,p,dx3,_,rfl,hp3,no _ _,_,rfl,_,_,rfl,rfl,?_⟩
   try dsimp only
   rw [er];refine⟨p,d,_,_,r-3,6,rfl,hB3,Z5,Z9,(by show r-3<2^6;lia),λ H4 hB4 kp4=>?_⟩;refine⟨_,rfl,_,rfl,_,_,rfl,rfl,q+r,ah,Pp++[.rep r],some (vN r),Z5,?_,by have:=hsz.2;show q+r≤272;have e:(Itm.rep r).size=r:=rfl;lia,hws,?_,λ c o e n1 n2=>kp4 _ _ (kp3 _ _ (kp _ _ e n1 n2) n1 n2) n1 n2⟩
   ·have e2:((q:Nat):Int)+((r:Nat):Int)=((q+r:Nat):Int):=FN _ _
    try dsimp only
    rw [e2];rfl
   ·rw [gu,bG,aX];have e5:T0+(tots (puts Pp)+tots (puts [Itm.rep r]))=T0+tots (puts Pp)+3+6:=by
     have:tots (puts [Itm.rep r])=9:=rfl;lia
    rw [e5];exact hB4
  ·have h4:¬3≤min 66 (run ah (L.drop q)):=λ z=>h3 (Bj Z5)
   have est:stAt L q ah=.one L[q]:=by unfold stAt;rw [Bu h4];simp [List.getD,hqL]
   rw [est] at hws;have hx6:L[q]≤6:=h6 _ (Dn hqL);refine⟨_,rfl,_,rfl,a,_,_,_,rfl,rfl,SqL.of ha2,aB (cU hqL),?_⟩;refine⟨_,rfl,p,dx,_,rfl,hp2,no _ _,_,rfl,p,d,_,_,L[q],3,rfl,hB2,Z4,Z9,(by show L[q]<2^3;lia),λ H3 hB3 kp3=>?_⟩;refine⟨_,rfl,_,_,rfl,rfl,q+1,L[q],Pp++[.one L[q]],_,Gr _,rfl, ‹_›,hws,?_,λ c o e n1 n2=>kp3 _ _ (kp _ _ e n1 n2) n1 n2⟩;rw [gu,bG,aX];have e5:T0+(tots (puts Pp)+tots (puts [Itm.one L[q]]))=T0+tots (puts Pp)+3:=by
    have:tots (puts [Itm.one L[q]])=3:=rfl;lia
   rw [e5];exact hB3
 ·have hq2:q=272:=by
   have h1:¬(decide (((q:Nat):Int)<272)=true):=hc;have:¬(((q:Nat):Int)<272):=λ z=>h1 (Bj z)
   lia
  subst hq2;exact k Pp ah H2 hw hB2 kp
end
end K24.Tb
namespace C9
variable {L:List Nat}{j p q:Nat}
noncomputable def ed (L:List Nat):Nat->Nat
 |0=>0
 |j+1=>2*ed L j+L.count (j+1)
noncomputable def cdAt (L:List Nat) (q s:Nat):Nat:=2*ed L (s-1)+(L.take q).count s
noncomputable def itm (L:List Nat) (j p q:Nat):Option (Nat×Nat):=if 1≤L.getD q 0/\(L.getD q 0≤j\/(L.getD q 0=j+1/\q<p)) then some (cdAt L q (L.getD q 0),L.getD q 0) else none
def row (L:List Nat)(j p:Nat):List (Option (Nat×Nat)):=(List.range L.length).map (itm L j p)
def oX (L:List Nat):List (Option (Nat×Nat)):=row L 12 0
theorem bo (L:List Nat)(j p:Nat):(row L j p).length=L.length:=by simp [row]
theorem cL (h:q<L.length):(row L j p)[q]?=some (itm L j p q):=by simp [row,h]
theorem sK (L:List Nat):row L 0 0=List.replicate L.length none:=by
 apply Dq;intro q;by_cases h:q<L.length
 ·rw [cL h,EV,BM h];congr 1;unfold itm;rw [Bu Z5]
 ·rw [BS (by rw [bo];exact Cv h),BS (by rw [C6];exact Cv h)]
theorem tX (L:List Nat)(j:Nat):row L j L.length=row L (j+1) 0:=by
 apply Dq;intro q;by_cases h:q<L.length
 ·rw [cL h,cL h];congr 1;unfold itm;by_cases c:1≤L.getD q 0/\(L.getD q 0≤j\/(L.getD q 0=j+1/\q<L.length))
  ·rw [BM c,BM Z5]
  ·rw [Bu c,Bu Z5]
 ·rw [BS (by rw [bo];exact Cv h),BS (by rw [bo];exact Cv h)]
theorem wc (h:L[p]?=some (j+1)):row L j (p+1)=(row L j p).set p (some (cdAt L p (j+1),j+1)):=by
 have hp:p<L.length:=(Bo.mp h).1;have hg:L.getD p 0=j+1:=by rw [Ca,h];rfl
 apply Dq;intro q;by_cases e:p=q
 ·subst e;rw [cL hp,Dy (by rw [bo];exact hp)];congr 1;unfold itm;rw [hg,BM Z5]
 ·rw [Eg e];by_cases hq:q<L.length
  ·rw [cL hq,cL hq];congr 1;unfold itm;by_cases c:1≤L.getD q 0/\(L.getD q 0≤j\/(L.getD q 0=j+1/\q<p))
   ·rw [BM c,BM Z5]
   ·rw [Bu c,Bu Z5]
  ·rw [BS (by rw [bo];exact Cv hq),BS (by rw [bo];exact Cv hq)]
theorem sO (h:L[p]?≠some (j+1)):row L j (p+1)=row L j p:=by
 apply Dq;intro q;by_cases hq:q<L.length
 ·rw [cL hq,cL hq];congr 1;unfold itm;have hne:q=p->L.getD q 0≠j+1:=by
   rintro rfl e;apply h;rw [Ca,Bg hq] at e;rw [Bg hq];exact congrArg some e
  by_cases c:1≤L.getD q 0/\(L.getD q 0≤j\/(L.getD q 0=j+1/\q<p))
  ·rw [BM c,BM Z4]
  ·rw [Bu c,Bu (by
    intro z;apply c;refine⟨z.1,?_⟩;rcases z.2 with z|⟨z1,z2⟩
    ·exact .inl z
    ·refine .inr ⟨z1,?_⟩;have:q≠p:=λ e=>hne e z1
     lia)]
 ·rw [BS (by rw [bo];exact Cv hq),BS (by rw [bo];exact Cv hq)]
theorem pT (L:List Nat)(j p:Nat):cdAt L p (j+1)=2*ed L j+(L.take p).count (j+1):=rfl
theorem lL (h:L[p]?=some (j+1)):cdAt L (p+1) (j+1)=cdAt L p (j+1)+1:=by
 unfold cdAt;rw [CQ,h,Fs];simp;lia
theorem qT (h:L[p]?≠some (j+1)):cdAt L (p+1) (j+1)=cdAt L p (j+1):=by
 unfold cdAt;rw [CQ,Fs];cases e:L[p]? with
 |none=>simp
 |some z=>
  rw [e] at h;have:z≠j+1:=λ q=>h (by rw [q])
  simp [List.count_singleton,this]
theorem k7 (L:List Nat)(j:Nat):cdAt L L.length (j+1)=ed L (j+1):=by
 rw [pT,Cc];rfl
theorem xc (L:List Nat):∀j,ed L j+L.length≤L.length*2^j
 |0=>by simp [ed]
 |j+1=>by
  have:=xc L j;have:=List.count_le_length (a:=j+1) (l:=L);rw [ed,Df,<-CN];lia
theorem vF {s:Nat}(h:L[q]?=some s)(hs:1≤s):cdAt L q s<ed L s:=by
 obtain⟨j,rfl⟩:∃j,s=j+1:=⟨s-1,(Ez hs).mp rfl⟩;have h1:=lL (j:=j) h;have h2:cdAt L (q+1) (j+1)≤ed L (j+1):=by
  rw [<-k7];unfold cdAt;have:List.count (j+1) (List.take (q+1) L)≤List.count (j+1) (List.take L.length L):=by
   rw [Cc];exact List.Sublist.count_le _ (Fq _ _)
  exact DS.mpr this
 exact Bf (Bz h1.symm) h2
def krf (m:Nat)(L:List Nat):Nat:=((L.filter (λ l=>decide (0<l))).map (λ l=>2^(m-l))).sum
theorem o7 (m:Nat)(L M:List Nat):krf m (L++M)=krf m L+krf m M:=by
 unfold krf;rw [BK,Bm,Eo]
theorem krf_up {m:Nat}(hm:m≤12):∀L:List Nat,(∀l∈L,l≤m)->krf 12 L=2^(12-m)*krf m L
 | [],_=>rfl
 |a::L,h=>by
  have ih:=krf_up hm L λ l z=>h l (Bw _ z)
  have ha:=h a BF;unfold krf at ih ⊢;by_cases c:0<a
  ·simp only [HG,c,decide_true,if_true,DE,Ft];rw [ih,EW,<-Ee];congr 2;exact DR (Nat.sub_add_sub_cancel hm ha)
  ·simp only [HG,c,decide_false,Dk,FE];exact ih
structure Good (L:List Nat):Prop where
 ne:1≤L.length
 le:L.length≤300
 most:∀l∈L,l≤12
 some:∃l∈L,0<l
 room:krf 12 L≤4096
end C9
namespace C10
open BP C9
variable {L:List Nat}{q s:Nat}
def kle (L:List Nat)(j:Nat):Nat:=krf 12 (L.filter λ l=>decide (l≤j))
theorem eo (p:Nat->Bool):∀L:List Nat,krf 12 (L.filter p)≤krf 12 L
 | []=>Bh _
 |a::L=>by
  have ih:=eo p L;have e:∀M:List Nat,krf 12 (a::M)=krf 12 [a]+krf 12 M:=λ M=>o7 12 [a] M
  by_cases h:p a=true
  ·rw [BE h,e (L.filter p),e L];exact DS.mpr ih
  ·rw [BN h,e L];exact Gv ih
theorem sR (L:List Nat)(j:Nat):kle L (j+1)=kle L j+L.count (j+1)*2^(12-(j+1)):=by
 induction L with
 |nil=>simp [kle]
 |cons a L ih=>
  have e:∀M:List Nat,krf 12 (a::M)=krf 12 [a]+krf 12 M:=λ M=>o7 12 [a] M
  unfold kle at ih ⊢;rw [FW];by_cases h1:a≤j
  ·rw [BE (by simp;exact CV h1),BE (by simpa using h1),e (L.filter λ l=>decide (l≤j+1)),e (L.filter λ l=>decide (l≤j)),ih,Bu (by simp;lia)];simp only [Ey];exact DR (CI _ _ (_*2^(12-_)))
  ·by_cases h2:a=j+1
   ·subst h2;rw [BE Z6,BN Z6,e (L.filter λ l=>decide (l≤j+1)),ih,BM Z6];have:krf 12 [j+1]=2^(12-(j+1)):=by
     unfold krf;simp
    rw [this,Gm,Nat.one_mul];lia
   ·rw [BN (by simp;exact Cn (Nat.not_le.1 h1) λ a=>h2 (id (DR a))),BN (by simpa using h1),ih,Bu (by simpa using h2)];simp only [Ey]
theorem sQ (L:List Nat):∀j,j≤12->ed L j*2^(12-j)=kle L j
 |0,_=>by
  unfold kle krf;have:((L.filter λ l=>decide (l≤0)).filter λ l=>decide (0<l))=[]:=by
   rw [List.filter_filter,Dw];intro a _;simp;lia
  rw [this];simp [ed]
 |j+1,h=>by
  have ih:=sQ L j (Dp h);rw [sR,<-ih];show(2*ed L j+L.count (j+1))*2^(12-(j+1))=_;rw [Gm,show 12-j=(12-(j+1))+1 by lia,Df];congr 1;rw [Dt 2,CN,Dt 2]
theorem yF (g:Good L){j:Nat}(hj:j≤12):ed L j≤2^j:=by
 have h:=sQ L j hj;have h1:kle L j≤4096:=Ba (eo _ L) g.room;have h2:2^j*2^(12-j)=4096:=by rw [<-Ee,show j+(12-j)=12 from Cf hj]
 rw [<-h,<-h2] at h1;exact Nat.le_of_mul_le_mul_right h1 (DG Z9)
theorem yE (g:Good L)(h:L[q]?=some s):s≤12:=g.most s (Cm h)
theorem cd_lt (g:Good L)(h:L[q]?=some s)(hs:1≤s):cdAt L q s<2^s:=
 Bf (vF h hs) (yF g (yE g h))
theorem qA (g:Good L):(oX L)[q]?=if q<L.length then some (if 1≤L.getD q 0 then some (cdAt L q (L.getD q 0),L.getD q 0) else none) else none:=by
 unfold oX;by_cases h:q<L.length
 ·rw [cL h,BM h];congr 1;unfold itm;have:L.getD q 0≤12:=by
   rw [Ca,Bg h];exact g.most _ (Dn h)
  by_cases c:1≤L.getD q 0
  ·rw [BM ⟨c,.inl this⟩,BM c]
  ·rw [Bu (λ z=>c z.1),Bu c]
 ·rw [Bu h,BS (by rw [bo];exact Cv h)]
theorem codes_of_get (g:Good L)(h:L[q]?=some s)(hs:1≤s):(oX L)[q]?=some (some (cdAt L q s,s)):=by
 have hq:=(Bo.mp h).1;have e:L.getD q 0=s:=by rw [Ca,h];rfl
 rw [qA g,BM hq,e,BM hs]
end C10
set_option maxHeartbeats 4000000
namespace L2
open PySem PySem.Spec PyProof.Rows QQ
section
variable {κ:Type}[DecidableEq κ]
end
section
variable {P:Ie}{w:Ig}{H:Hp}{h:Ij}{a:HZ}
end
section
variable {X:Cx}{Io:List (HZ × Il)}{σ:St}{H:Hp}{s:Ic}{a:HZ}{y v:V}{u r:Ib}{o:Option V}{A:Ii}{E:Ib -> Ic -> Prop}
end
section
variable {X:Cx}{Io:List (HZ × Il)}{σ:St}{H:Hp}{s:Ic}{a:HZ}{kvs:List (Key × V)}{k:Key}{u:Ib}{A:Ii}{E:Ib -> Ic -> Prop}
end
section
variable {X:Cx}{o i e value:Ik}{pos pos' tpos:Pos}{td ty tv:TE}
end
section
variable {X:Cx}{pos:Pos}
end
section
variable {X:Cx}
theorem ym {K:Frag}{a:HZ}{xs:List V}{g:TG}{tb:TS}{D:Ends}{σ:St}{H:Hp}(Pv:Nat->St->Hp->Prop)(h0:Pv 0 σ H)(hl:∀i σ H,i≤xs.length->Pv i σ H->SqL K H a xs)
  (hs:∀i x p σ H,xs[i]?=some x->H p=none->Pv i σ H->g (.ref p) σ (upd H p (.tup [.int ((i:Nat):Int),x])) λ σ2 H2=>tb {D with nx:=Pv (i+1),ct:=Pv (i+1),bk:=D.nx} σ2 H2) (hd:∀σ H,Pv xs.length σ H->D.nx σ H):
  ∃W:Nat->Nat->St->Hp->Prop,(∃m,W 0 m σ H)/\∀i m σ H,W i m σ H->
   ((Ite K a).stop i H/\D.nx σ H)\/((Ite K a).go i H/\∃N:St->Hp->Prop,(∀σ' H',N σ' H'->∃m',m'<m/\W (i+1) m' σ' H')/\∀x H',(Ite K a).yld i H x H'->g x σ H' λ σ2 H2=>tb {D with nx:=N,ct:=N,bk:=D.nx} σ2 H2):=by
 refine⟨λ i m σ H=>m=xs.length-i/\i≤xs.length/\Pv i σ H,⟨xs.length,Z6,BX _,h0⟩,?_⟩;rintro i m σ H ⟨rfl,hi,p⟩;have q:=hl i σ H hi p;by_cases Ir:i<xs.length
 ·refine .inr ⟨⟨xs,xs[i],q,by simp [Ir]⟩,Pv (i+1),λ σ' H' p'=>⟨xs.length-(i+1),Cy _ _ Ir,rfl,Ir,p'⟩,λ x H' y=>?_⟩;obtain⟨p1,x1,hp1,e1,e2,y⟩:=y;subst e1 e2;exact hs i x1 p1 σ _ (y xs q) hp1 p
 ·have e:i=xs.length:=BI hi (Nat.not_lt.1 Ir);subst e;exact .inl ⟨⟨xs,q,Bh _⟩,hd σ H p⟩
end
end L2
set_option maxHeartbeats 4000000
namespace K24.C
open PySem L2 QQ C9 C10
seal PE PA PS PSs PT PW PG PI
variable {f:HZ}{fd:Ih}{H H':Hp}{xs:List V}
theorem xz (R:List Nat):R.map vN=(R.map λ b=>((b:Nat):Int)).map V.int:=by rw [Dv];rfl
def IsL (H:Hp)(x:V)(L:List Nat):Prop:=∃a,x=.ref a/\H a=some (.lst (L.map vN))/\∀l∈L,l≤12
def OT (H:Hp)(x:V):Option (Nat×Nat)->Prop
 |none=>x=.non
 |some c=>∃t,x=.ref t/\H t=some (.tup [vN c.1,vN c.2])
def CL (H:Hp)(xs:List V)(cs:List (Option (Nat×Nat))):Prop:=xs.length=cs.length/\∀(i:Nat) (x:V) (c:Option (Nat×Nat)),xs[i]?=some x->cs[i]?=some c->OT H x c
theorem OT.keep {x:V}{c:Option (Nat×Nat)}(h:OT H x c)(k:∀t ys,H t=some (.tup ys)->H' t=some (.tup ys)):OT H' x c:=by
 cases c with
 |none=>exact h
 |some c=>obtain⟨t,e,z⟩:=h;exact⟨t,e,k _ _ z⟩
theorem CL.keep {cs:List (Option (Nat×Nat))}(h:CL H xs cs)(k:∀t ys,H t=some (.tup ys)->H' t=some (.tup ys)):CL H' xs cs:=⟨h.1,λ i x c h1 h2=>(h.2 i x c h1 h2).keep k⟩
theorem CL.set {cs:List (Option (Nat×Nat))}(h:CL H xs cs){p:Nat}{y:V}{d:Option (Nat×Nat)}(hy:OT H y d):CL H (xs.set p y) (cs.set p d):=by
 refine⟨by rw [G5,G5];exact h.1,λ i x c h1 h2=>?_⟩;by_cases e:p=i
 ·subst e;have hp:p<xs.length:=by
   have:=(Bo.mp h1).1
   rwa [G5] at this
  rw [Dy hp] at h1;rw [Dy (by rw [<-h.1];exact hp)] at h2;cases h1;cases h2;exact hy
 ·rw [Eg e] at h1 h2;exact h.2 i x c h1 h2
theorem CL.none (H:Hp)(n:Nat):CL H (List.replicate n .non) (List.replicate n none):=by
 refine⟨by rw [C6,C6],λ i x c h1 h2=>?_⟩;rw [EV] at h1 h2
 split at h1
 ·cases h1;rw [BM (by assumption)] at h2;cases h2;rfl
 ·cases h1
theorem ndL:(["length"]:List Str).Nodup:=Z8
section
def xL:Sp:=λ vs H Q _=>∃(a:HZ) (L:List Nat),vs=[.ref a]/\H a=some (.lst (L.map vN))/\(∀l∈L,l≤12)/\L.length≤300/\∀H',Same H H'->Q (vN (krf 12 L)) H'
theorem x0:FnScope ["lengths"] ["lengths"] (ak tZ):=scK Z8
abbrev uP:TE:=tOp (rI zD λ i j=>.int (i*2^j.toNat)) (tC (.int 1)) (tOp (rI0 λ i j=>.int (i-j)) (tC (.int 12)) (dW 0))
abbrev rM:TT:=lB (tOp (rI0 λ i j=>.bl (decide (j<i))) (dW 0) (tC (.int 0)))
theorem vW (F:Fn K mg "room_taken" tZ ["lengths"] f fd)(T:Txt K mg):FnOk P w K mg base CX0 31 f fd ["lengths"] xL:=by
 obtain⟨tm,hm⟩:=T.mlen;refine F.F.ok x0 λ Iq A outer s H vs Q E hr h=>?_
 intro _;obtain⟨a,L,rfl,hL,hb,hl300,k⟩:=h;have hn:=hr.hd Z9;refine⟨_,ag (ax (az (ui hn) Z7 T.sum PyProof.Rows.boot_sum (aa (eQ (N:=["length"]) (g:=bz 0) (tt:=rM) (te:=uP) rfl rfl Z8 Z8 Z8 (bi (pv 0))
   (λ fp s H=>aJ (i:=0) ndL) (λ fp s H=>aA dH (pv 0) af (aC _)) (λ fp s H=>am b8 af (am aY (aH (v:=.int 12) Z7 hm ⟨tm,rfl⟩) (pv 0)))) ae))),?_⟩
 refine⟨_,rfl,a,rfl,⟨_,SqL.of hL⟩,λ l nl=>?_⟩;refine fo (K:=K) (a:=a) (l:=l) (xs:=L.map vN) (n:=1) (g:=bz 0) (tt:=rM) (te:=uP)
  (λ i ys H'=>ys=(((L.take i).filter (λ b=>decide (0<b))).map (λ b=>2^(12-b))).map vN/\H' l=some (.lst ys)/\Same H H') ⟨rfl,ac,aj nl⟩ (λ i ys H' _ z9=>by obtain⟨_,_,sm⟩:=z9;exact SqL.of (sm _ _ hL)) ?_ ?_ ?_ ?_ ?_
 ·rintro i x ys σ H' hx ⟨rfl,hl,sm⟩ hσ;obtain⟨b,hb1,rfl⟩:=cj hx;have hb12:=hb b (Cm hb1);have hil:i<L.length:=(Bo.mp hb1).1;obtain⟨u0,rfl⟩:∃u0,σ=[u0]:=match σ,hσ with| [u0],_=>⟨u0,rfl⟩
  have hlen:((L.take i).filter (λ b=>decide (0<b))).length≤300:=Ba (Fk _ _) (by rw [Bv];exact Ba (Di _ _) hl300);refine⟨_,rfl,_,_,rfl,rfl,_,rfl,?_⟩;rw [cM hb1,BK];dsimp only;by_cases h0:0<b
  ·rw [BM (Bj (show(0:Int)<((b:Nat):Int) from G6.mpr h0))];refine⟨_,rfl,_,_,rfl,rfl,_,_,rfl,rfl,⟨Z5,Z5,Z9⟩,hl,bF (by rw [A9,A9];exact Ba hlen Z9),rfl,?_,ac,λ c o e=>?_⟩
   ·rw [BE (by simpa using h0),Bm,Bm];have e1:(1:Int)*2^((12:Int)-((b:Nat):Int)).toNat=((2^(12-b):Nat):Int):=by
     rw [show((12:Int)-((b:Nat):Int)).toNat=12-b by lia,Int.one_mul];simp
    try dsimp only
    rw [e1];rfl
   ·rw [upd_ne (ai e nl)];exact sm _ _ e
  ·rw [Bu (λ z=>absurd (Bp z) Z5)];refine⟨rfl,?_,?_,sm⟩
   ·rw [BN (by simpa using h0)];simp
   ·exact hl
 ·rintro ys H' ⟨rfl,hl,sm⟩;rw [A9,Cc,xz] at hl;refine⟨l,_,rfl,SqL.of hl,?_⟩;have e:(((L.filter (λ b=>decide (0<b))).map (λ b=>2^(12-b))).map (λ b=>((b:Nat):Int))).sum=((krf 12 L:Nat):Int):=by
   unfold krf;generalize (L.filter (λ b=>decide (0<b))).map (λ b=>2^(12-b))=Y
   induction Y with
   |nil=>rfl
   |cons y Y ih=>simp only [DE,Ft];rw [ih];simp
  rw [e];exact k _ sm
 ·exact λ x σ H A B h z=>h _ _ z
 ·exact λ σ H A B h z9=>by obtain⟨v,e1,i,j,e2,e3,c,e4,z⟩:=z9;exact⟨v,e1,i,j,e2,e3,c,e4,h _ _ z⟩
 ·exact λ σ H A B h z9=>by obtain⟨v,e1,i,j,e2,e3,i2,j2,e4,e5,c,z⟩:=z9;exact⟨v,e1,i,j,e2,e3,i2,j2,e4,e5,c,h _ _ z⟩
def qG:Sp:=λ vs H Q _=>∃(x:V) (L:List Nat),vs=[x]/\IsL H x L/\Good L/\∀H',Same H H'->Q .non H'
theorem qS:FnScope ["lengths"] ["lengths"] (ak fq):=scK Z8
structure Lns (K:Frag)(mg:Str->Option Ib):Prop where
 X:Txt K mg
 whole:∃f fd,Fn K mg "is_whole" bE ["thing","least","most"] f fd
 arewhole:∃f fd,Fn K mg "are_whole" bK ["thing","least","most"] f fd
 things:∃f fd,Fn K mg "are_of_things" eg ["thing","most"] f fd
 room:∃f fd,Fn K mg "room_taken" tZ ["lengths"] f fd
theorem oB (F:Fn K mg "need_lengths" fq ["lengths"] f fd)(Y:Lns K mg):FnOk P w K mg base CX0 32 f fd ["lengths"] qG:=by
 obtain⟨T,⟨_,_,W⟩,⟨_,_,AW⟩,⟨_,_,Th⟩,⟨_,_,Ro⟩⟩:=Y;obtain⟨tm,hm⟩:=T.mlen;refine F.F.ok qS λ Iq A outer s H vs Q E hr h=>?_
 intro _;obtain⟨x,L,rfl,⟨a,rfl,hB,hb⟩,G,k⟩:=h;refine⟨_,ad (aL (bM (bq (aq (S.ok_things Th AW W T) hr Z7 Th.m Th.F.kp Th.b .nil aw (aa (pv 0) (aa (aH (v:=.int 12) Z7 hm ⟨tm,rfl⟩) ae))))) (ag bD) aD)
  (ag (aL (aA dH (aq (vW Ro T) hr Z7 Ro.m Ro.F.kp Ro.b .nil aw (aa (pv 0) ae)) (am b8 af (aH (v:=.int 12) Z7 hm ⟨tm,rfl⟩)) (aC _)) (ag bD) aD)),?_⟩
 refine seq_g λ _ g1=>⟨_,rfl,a,L,12,rfl,hB,hb,G.ne,G.le,G.some,_,rfl,bV (g1 _ _ ?_)⟩
 clear g1;refine⟨_,rfl,a,L,rfl,hB,hb,G.le,λ H' s1=>?_⟩;refine⟨_,_,rfl,rfl,⟨Z9,Z9,Z9⟩,_,_,rfl,rfl,_,rfl,bd (λ h=>?_) (λ _=>k _ s1)⟩;exfalso;have:=Bp h;have g:=G.room;have e:(1:Int)*2^(12:Int).toNat=4096:=Z9;rw [e] at this;lia
end
theorem wN {α:Type}(x:α)(k:Nat):(List.replicate k [x]).flatten=List.replicate k x:=by
 induction k with
 |zero=>rfl
 |succ k ih=>rw [CF,CG,ih,CF];rfl
theorem uB {L:List Nat}(hl:L.length≤300){j:Nat}(hj:j≤12):ed L j≤1228800:=by
 have h:=xc L j;have h1:2^j≤2^12:=Du Z9 hj;have h2:L.length*2^j≤300*4096:=Nat.mul_le_mul hl h1;lia
theorem vD (L:List Nat)(j:Nat):cdAt L 0 (j+1)=2*ed L j:=by rw [pT];simp
theorem ixN_nat {n i:Nat}(h:i<n):ixN n ((i:Nat):Int)=some i:=by
 unfold ixN;rw [BM Z5];simpa using h
section
def qW:Sp:=λ vs H Q _=>∃(x:V) (L:List Nat),vs=[x]/\IsL H x L/\Good L/\∀l xs H',H l=none->Same H H'->H' l=some (.lst xs)->CL H' xs (oX L)->Q (.ref l) H'
theorem scCodesOf:FnScope ["lengths","codes","code","size","place","length"] ["lengths"] (ak iu):=scK Z8
theorem ok_codesof {fN:HZ}{fdN:Ih}(F:Fn K mg "codes_of" iu ["lengths"] f fd)(N:Fn K mg "need_lengths" fq ["lengths"] fN fdN)(Y:Lns K mg):FnOk P w K mg base CX0 33 f fd ["lengths"] qW:=by
 have T:=Y.X;obtain⟨tm,hm⟩:=T.mlen;refine F.F.ok scCodesOf λ Iq A outer st H vs Q E hr h=>?_
 intro _;obtain⟨x,L,rfl,⟨a,rfl,hB,hb⟩,G,k⟩:=h;refine⟨_,ad (aF (aq (oB N Y) hr Z7 N.m N.F.kp N.b .nil aw (aa (pv 0) ae)))
  (ad (ar (i:=1) scCodesOf.nd (am jP (aE (aa eK ae)) (az ay Z7 T.len BV (aa (pv 0) ae))))
  (ad (ar (i:=2) scCodesOf.nd af)
  (ad (bf BW rfl (fX Z7 T.range (aa af (aa (am aK (aH (v:=.int 12) Z7 hm ⟨tm,rfl⟩) af) ae))) (aJ (i:=3) scCodesOf.nd)
   (ad (ar (i:=2) scCodesOf.nd (am b8 (pv 2) af))
   (ag (bf BW rfl (pj Z7 T.enum (aa (pv 0) ae)) (ke rfl (cE (aJ (i:=4) scCodesOf.nd) (cE (aJ (i:=5) scCodesOf.nd) gJ)))
    (ag (aL (aA bP (pv 5) (pv 3) (aC _))
     (ad (nN (bL (aa (pv 2) (aa (pv 3) ae))) (mF (pv 1) (pv 4) iV))
     (ag (ar (i:=2) scCodesOf.nd (am aK (pv 2) af)))) aD))))))
  (ag (ax (pv 1)))))),?_⟩
 refine seq_g λ _ g1=>⟨_,rfl,_,L,rfl,⟨a,rfl,hB,hb⟩,G,λ H1 s1=>g1 _ _ ?_⟩
 clear g1;have hl3:=G.le;refine seq_g λ _ g1=>⟨(by show 1≤sizeLine;decide),λ l0 n0=>?_⟩
 have s2:=aj (o:=.lst [.non]) n0;refine⟨_,rfl,a,_,rfl,.inl (SqL.of (s2 _ _ (s1 _ _ hB))),l0,_,_,rfl,rfl,ac,Ec (2^63) _,by rw [A9];exact Int.ofNat_lt.2 (B0 hl3 Z9),(by rw [A9,BO];exact bj (by show 1*_≤_;lia)),λ l nl=>g1 _ _ ?_⟩;clear g1;have s3:=aj (o:=.lst (List.replicate L.length V.non)) nl;have ez:(List.replicate (((L.map vN).length:Nat):Int).toNat [V.non]).flatten=List.replicate L.length V.non:=by rw [A9,BO,wN]
 try dsimp only
 rw [ez];have hl1:(upd (upd H1 l0 (.lst [.non])) l (.lst (List.replicate L.length V.non))) l=some (.lst (List.replicate L.length V.non)):=ac;have nlH:H l=none:=none_of (s1.trans s2) nl;have s03:=(s1.trans s2).trans s3;generalize upd (upd H1 l0 (.lst [.non])) l (.lst (List.replicate L.length V.non))=H3 at*;refine seq_g λ R1 g1=>g1 _ _ ?_
 clear g1;refine seq_g λ _ g1=>⟨_,_,rfl,rfl,1,13,rfl,⟨Z5,Z5,Z5,Z5⟩,?_⟩
 have en:((13:Int)-1).toNat=12:=Z9
 try dsimp only
 rw [en];refine b9 (D:=⟨_,_,λ _ _=>False,λ _ _=>False⟩) (lo:=1) (n:=12) (λ j σ H2=>∃v3 v4 v5:Option V,∃xs:List V,σ=[some (.ref a),some (.ref l),some (vN (ed L j)),v3,v4,v5]/\H2 l=some (.lst xs)/\CL H2 xs (row L j 0)/\Same H H2) ⟨none,none,none,_,rfl,hl1,by rw [sK];exact CL.none _ _,s03⟩ ?_ ?_
 ·clear g1 hl1 s03 s3 nl;rintro j σ H2 hj ⟨v3,v4,v5,xs,rfl,hl2,hC,sm⟩;have eb:(1:Int)+((j:Nat):Int)=((j+1:Nat):Int):=Z5
  try dsimp only
  rw [eb];have hes:=uB hl3 (show j≤12 from Dp hj);refine seq_g λ _ g2=>⟨_,rfl,_,_,rfl,rfl,⟨Z5,Z5,Z5⟩,g2 _ _ ?_⟩
  clear g2;have ec:((ed L j:Nat):Int)*2^(1:Int).toNat=((cdAt L 0 (j+1):Nat):Int):=by
   rw [vD,show((1:Int).toNat)=1 from rfl];lia
  try dsimp only
  rw [ec];refine⟨_,rfl,a,_,rfl,SqL.of (sm _ _ hB),ym (D:=⟨_,_,λ _ _=>False,λ _ _=>False⟩) (K:=K) (a:=a) (xs:=L.map vN) (λ p σ H'=>∃v4 v5:Option V,∃xs:List V,σ=[some (.ref a),some (.ref l),some (vN (cdAt L p (j+1))),some (vN (j+1)),v4,v5]/\H' l=some (.lst xs)/\CL H' xs (row L j p)/\Same H H')
   ⟨v4,v5,xs,rfl,hl2,hC,sm⟩ (λ i σ H' _ z9=>by obtain⟨_,_,_,_,_,_,e⟩:=z9;exact SqL.of (e _ _ hB)) ?_ ?_⟩
  ·rintro p y t σ H' hp ht ⟨v4,v5,xs,rfl,hl2,hC,sm⟩;obtain⟨b,hb1,rfl⟩:=cj hp;have hpl:p<L.length:=(Bo.mp hb1).1;have st:=aj (o:=.tup [vN p,vN b]) ht;refine⟨t,_,rfl,SqT.of ac,rfl,_,_,rfl,_,_,rfl,rfl,?_⟩;refine⟨_,rfl,_,rfl,rfl,_,rfl,bd (λ h1=>?_) (λ h1=>?_)⟩
   ·have e1:b=j+1:=vN_inj.mp (Bp h1);rw [e1] at hb1 st ⊢;refine seq_g λ _ g3=>⟨_,rfl,_,rfl,(by show 2≤sizeLine;decide),λ q nq=>?_⟩
    have sq:=aj (o:=.tup [vN (cdAt L p (j+1)),vN (j+1)]) nq;have hlq:=sq _ _ (st _ _ hl2);have hCq:CL _ xs (row L j p):=hC.keep λ t ys e=>sq _ _ (st _ _ e)
    refine⟨_,rfl,_,rfl,l,xs,_,p,rfl,rfl,hlq,ixN_nat (by rw [hC.1,bo];exact hpl),g3 _ _ ?_⟩;clear g3;refine⟨_,rfl,_,_,rfl,rfl,?_⟩;have ec2:((cdAt L p (j+1):Nat):Int)+1=((cdAt L (p+1) (j+1):Nat):Int):=by rw [lL hb1];lia
    try dsimp only
    rw [ec2];refine⟨some (vN p),some (vN (j+1)),xs.set p (.ref q),rfl,ac,?_,λ c o e=>?_⟩
    ·rw [wc hb1];refine(hCq.set (y:=.ref q) (d:=some (cdAt L p (j+1),j+1)) ⟨q,rfl,ac⟩).keep λ t2 ys e=>?_
     rw [upd_ne (ne_of e hlq (by intro z;cases z))];exact e
    ·rw [upd_ne (ai e nlH)];exact sq _ _ (st _ _ (sm _ _ e))
   ·have e1:L[p]?≠some (j+1):=by
     rw [hb1];intro z;cases z;exact h1 (Bj rfl)
    refine⟨some (vN p),some (vN b),xs,?_,st _ _ hl2,?_,sm.trans st⟩
    ·rw [qT e1];rfl
    ·rw [sO e1];exact hC.keep λ t ys e=>st _ _ e
  ·rintro σ H' ⟨v4,v5,xs,rfl,hl2,hC,sm⟩;rw [A9] at hC ⊢;rw [k7];rw [tX] at hC;exact⟨_,_,_,xs,rfl,hl2,hC,sm⟩
 ·rintro σ H2 ⟨v3,v4,v5,xs,rfl,hl2,hC,sm⟩;exact g1 _ _ ⟨_,rfl,k l xs H2 nlH sm hl2 hC⟩
end
section
variable {C:HZ}
structure Mks (K:Frag)(mg:Str->Option Ib)(C:HZ):Prop where
 X:Txt K mg
 Y:Lns K mg
 need:∃f fd,Fn K mg "need_lengths" fq ["lengths"] f fd
 cof:∃f fd,Fn K mg "codes_of" iu ["lengths"] f fd
end
section
variable {C B:HZ}
end
end K24.C
set_option maxHeartbeats 1000000
namespace K24
open PySem L2 QQ W17 W16 BP
variable {Pp:List Pc}{b q:Nat}{x:Pc}{L Q W:List Nat}
def th:Pc->Nat
 | .sg s=>s
 | .cp _ z=>253+z
noncomputable def cP (L:List Nat):Pc->List (Nat×Nat)
 | .sg s=>[(C9.cdAt L s (L.getD s 0),L.getD s 0)]
 | .cp b z=>[(C9.cdAt L (253+z) (L.getD (253+z) 0),L.getD (253+z) 0),(b,8)]
def hP (L:List Nat)(P:List Pc):List (Nat×Nat):=P.flatMap (cP L)
def cn (Q:List Nat):List Nat:=(List.range 272).map λ q=>Q.count q
theorem rB (L:List Nat)(P Q:List Pc):hP L (P++Q)=hP L P++hP L Q:=by simp [hP]
theorem vn (L:List Nat)(x:Pc)(P:List Pc):hP L (x::P)=cP L x++hP L P:=by simp [hP]
theorem yJ (L:List Nat)(x:Pc):hP L [x]=cP L x:=by simp [hP]
theorem cQ (Q:List Nat):(cn Q).length=272:=by simp [cn]
theorem GR.all:∀{P:List Pc} {B:List Nat},GR B P->∀x∈P,∃B',fQ B' x
 |y::P,B,h,x,hx=>by
  rcases BA.mp hx with rfl|hx
  ·exact⟨B,h.1⟩
  ·exact GR.all h.2 x hx
theorem uQ {B:List Nat}(h:fQ B x):th x<272:=by
 cases x with
 |sg s=>have:s<256:=h;show s<272;exact B0 (B7 this) Z9
 |cp b z=>
  obtain⟨_,_,_,_,h5⟩:1≤b/\b≤255/\b≤B.length/\3≤z/\z≤18:=h;show 253+z<272;lia
structure TOk (L:List Nat)(Pp:List Pc):Prop where
 good:C9.Good L
 len:L.length=272
 six:∀b∈L,b≤6
 has:∀x∈Pp,1≤L.getD (th x) 0
theorem TOk.at (h:TOk L Pp)(hx:x∈Pp){B:List Nat}(g:fQ B x):L[th x]?=some (L.getD (th x) 0)/\1≤L.getD (th x) 0/\L.getD (th x) 0≤6:=by
 have hl:th x<L.length:=by rw [h.len];exact uQ g
 have e:L[th x]?=some (L.getD (th x) 0):=by rw [Ca,Bg hl];rfl
 exact⟨e,h.has x hx,h.six _ (Cm e)⟩
theorem wq (h:TOk L Pp)(g:GR W Pp):Good (hP L Pp):=λ q hq=>by
 obtain⟨x,hx,hq⟩:=HJ.mp hq;obtain⟨B',gx⟩:=g.all x hx;obtain⟨e1,e2,e3⟩:=h.at hx gx;have cl:=C10.cd_lt h.good e1 e2;cases x with
 |sg s=>
  rw [Bx.mp (show q∈ [(C9.cdAt L s (L.getD s 0),L.getD s 0)] from hq)];exact cl
 |cp b z=>
  rcases BA.mp (show q∈ [(C9.cdAt L (253+z) (L.getD (253+z) 0),L.getD (253+z) 0),(b,8)] from hq) with rfl|hq
  ·exact cl
  ·rw [Bx.mp hq];obtain⟨_,h2,_,_,_⟩:1≤b/\b≤255/\b≤B'.length/\3≤z/\z≤18:=gx;show b<2^8;exact D4 h2
theorem vo (six:∀b∈L,b≤6)(x:Pc):tots (cP L x)≤14:=by
 have six:∀n,L.getD n 0≤6:=λ n=>by
  rw [Ca];cases e:L[n]? with
  |none=>exact BX _
  |some y=>exact six y (Cm e)
 cases x with
 |sg s=>have:=six s;show L.getD s 0+0≤14;exact Ba this Z9
 |cp b z=>have:=six (253+z);show L.getD (253+z) 0+(8+0)≤14;exact Nat.add_le_of_le_sub Z9 this
theorem jC (six:∀b∈L,b≤6):∀P:List Pc,tots (hP L P)≤14*P.length
 | []=>Bh _
 |x::P=>by
  rw [vn,aX,Bq];have:=jC six P;have:=vo six x;lia
theorem gN:∀{It:List W13.Itm} (a:Nat),(∀x∈It,W13.StOk x)->tots (W13.puts It)≤3*(W13.decL a It).length
 | [],_,_=>Bh _
 |x::It,a,h=>by
  have hx:=h x Z6;have e:W13.puts (x::It)=x.puts++W13.puts It:=by simp [W13.puts]
  rw [e,aX];cases x with
  |one y=>
   have ih:=gN (It:=It) y λ z hz=>h z (by simp [hz])
   show(3+0)+tots (W13.puts It)≤3*((W13.decL y It).length+1);lia
  |rep r=>
   have ih:=gN (It:=It) a λ z hz=>h z (by simp [hz])
   have hr:3≤r/\r≤66:=hx;show(3+(6+0))+tots (W13.puts It)≤3*(List.replicate r a++W13.decL a It).length;rw [Bb,C6];lia
theorem qc (hl:L.length=272){It:List W13.Itm}(h:W13.Walk L 0 0 It 272 b):W13.decL 0 It=L:=by
 have:=W13.walk_dec h;rw [EH,CJ,<-hl,Cc] at this;exact this.symm
theorem pL:∀{P P':List W13.Itm} {p a b b':Nat},W13.Walk L p a P L.length b->W13.Walk L p a P' L.length b'->P=P'
 | [],[],_,_,_,_,_,_=>rfl
 | [],x::P',p,a,b,b',h,h'=>by have:=h.1;have:=h'.1;lia
 |x::P,[],p,a,b,b',h,h'=>by have:=h'.1;have:=h.1;lia
 |x::P,x'::P',p,a,b,b',h,h'=>by
  obtain⟨_,e,h⟩:=h;obtain⟨_,e',h'⟩:=h';subst e;subst e';rw [pL h h']
theorem jz (a:Nat)(Q:List Nat):∀n,((List.range n).map λ q=>(a::Q).count q).sum=((List.range n).map λ q=>Q.count q).sum+if a<n then 1 else 0
 |0=>rfl
 |n+1=>by
  rw [HU,Bm,Eo,Bm,Eo,jz a Q n];simp only [DE,HP,Ft,List.sum_nil,FW];by_cases e:a=n
  ·subst e;rw [Bu (D5 _),BM (FK _)];simp;lia
  ·have:(a==n)=false:=by simp [e]
   rw [this];by_cases l:a<n
   ·have l2:a<n+1:=Hv l;rw [BM l,BM l2];simp;lia
   ·have l2:¬a<n+1:=λ z=>e (BI (CM z) (Hx.mp l))
    rw [Bu l,Bu l2];simp
theorem yi (Q:List Nat)(h:q<272):Q.count q∈cn Q:=by
 unfold cn;exact DI.mpr ⟨q,Fx.mpr h,rfl⟩
theorem rC (h:b∈cn Q):∃q,b=Q.count q:=by
 unfold cn at h;obtain⟨q,_,e⟩:=DI.mp h;exact⟨q,e.symm⟩
theorem uR:∀Q:List Nat,(cn Q).sum≤Q.length
 | []=>by
  have:∀n,((List.range n).map λ q=>([]:List Nat).count q).sum=0:=λ n=>by
   induction n with
   |zero=>rfl
   |succ n ih=>rw [HU,Bm,Eo,ih];rfl
  show((List.range 272).map λ q=>([]:List Nat).count q).sum≤0;rw [this];exact Bh _
 |a::Q=>by
  have ih:=uR Q;have e:=jz a Q 272;have ih':((List.range 272).map λ q=>Q.count q).sum≤Q.length:=ih;show((List.range 272).map λ q=>(a::Q).count q).sum≤Q.length+1;rw [e]
  split<;>omega
theorem lX:∀C:List Nat,(C.filter (λ b=>decide (0<b))).length≤C.sum
 | []=>Bh _
 |a::C=>by
  have ih:=lX C;rw [HG,Ft];by_cases h:0<a
  ·rw [BM (Bj h),Bq];lia
  ·rw [Bu (by simpa using h)];exact Gv ih
theorem uj (C:List Nat):C.filter (λ b=>decide (0<b))=(S.pos C).map (S.cw C):=by
 have e:C=(List.range C.length).map (S.cw C):=by
  apply Dq;intro i;rw [B4];by_cases h:i<C.length
  ·rw [EY h,Bg h];simp [S.cw,Ca,h]
  ·rw [BS (Cv h),BS (by simp;exact Cv h)];rfl
 conv=>lhs;rw [e]
 rw [G4];rfl
theorem sC (Q:List Nat)(h:q<272):S.cw (cn Q) q=Q.count q:=by
 simp [S.cw,cn,Ca,h]
seal cn
theorem zn (hq:∀q∈Q,q<272)(h1:1≤Q.length)(h64:Q.length≤64):(∀b∈cn Q,b≤1000000)/\1≤(cn Q).length/\(cn Q).length≤300/\(∃b∈cn Q,0<b)/\1≤6/\6≤12/\((cn Q).filter (λ b=>decide (0<b))).length≤2^6/\(S.pos (cn Q)).length≤300/\1≤(S.pos (cn Q)).length/\(S.pos (cn Q)).length≤2^6:=by
 have hf:=lX (cn Q);have hs:=uR Q;have hp:(S.pos (cn Q)).length=((cn Q).filter (λ b=>decide (0<b))).length:=by rw [uj,A9]
 have h0:∃b∈cn Q,0<b:=by
  obtain⟨a,ha⟩:=GE h1;exact⟨_,yi Q (hq a ha),FY.mpr ha⟩
 refine⟨λ b hb=>?_,by rw [cQ];decide,by rw [cQ];decide,h0,Z9,Z9,Z4,Z4,?_,Z4⟩
 ·obtain⟨q,rfl⟩:=rC hb;have:=List.count_le_length (a:=q) (l:=Q);omega
 ·rw [hp];obtain⟨b,hb,hb0⟩:=h0;exact List.length_pos_iff.mpr (List.ne_nil_of_mem (DU.mpr ⟨hb,Bj hb0⟩))
def ShL (Q:List Nat)(L:List Nat):Prop:=∃ln:Nat->Nat,S.LnOf (cn Q) 6 ln/\L=(List.range 272).map ln/\PM.Best (S.pos (cn Q)) (S.cw (cn Q)) 6 ln
theorem ShL.uniq {L':List Nat}(h:ShL Q L)(h':ShL Q L'):L=L':=by
 obtain⟨ln,h1,rfl,_⟩:=h;obtain⟨ln',h2,rfl,_⟩:=h';rw [h1.uniq h2]
theorem mem_pos:q∈S.pos (cn Q)<->q<272/\q∈Q:=by
 unfold S.pos;rw [DU,Fx,cQ];constructor
 ·rintro⟨h1,h2⟩;rw [sC Q h1] at h2;exact⟨h1,FY.mp (Bp h2)⟩
 ·rintro⟨h1,h2⟩;refine⟨h1,Bj ?_⟩;rw [sC Q h1];exact FY.mpr h2
theorem ShL.ok (hq:∀q∈Q,q<272)(h1:1≤Q.length)(h:ShL Q L):C9.Good L/\L.length=272/\(∀b∈L,b≤6)/\∀q∈Q,1≤L.getD q 0:=by
 obtain⟨ln,_,rfl,b1,b2,b3⟩:=h;have get:∀q,q<272->((List.range 272).map ln).getD q 0=ln q:=λ q hq=>by simp [Ca,hq]
 have le6:∀q,ln q≤6:=λ q=>by
  by_cases m:q∈S.pos (cn Q)
  ·exact(b1 q m).2
  ·rw [b2 q m];decide
 have six:∀b∈(List.range 272).map ln,b≤6:=λ b hb=>by
  obtain⟨q,_,rfl⟩:=DI.mp hb;exact le6 q
 have hpos:∀q∈Q,1≤ln q:=λ q m=>(b1 q (mem_pos.mpr ⟨hq q m,m⟩)).1
 have ek:C9.krf 6 ((List.range 272).map ln)=((S.pos (cn Q)).map λ p=>2^(6-ln p)).sum:=by
  unfold C9.krf S.pos;rw [G4,Dv,cQ];have:(List.range 272).filter ((λ l=>decide (0<l))∘ln)=(List.range 272).filter (λ p=>decide (0<S.cw (cn Q) p)):=by
   refine List.filter_congr λ q hq'=>?_
   have hq2:=Fx.mp hq';show decide (0<ln q)=decide (0<S.cw (cn Q) q);rw [sC Q hq2];by_cases m:q∈Q
   ·rw [Bj (show 0<ln q from hpos q m),Bj (FY.mpr m)]
   ·have z:=b2 q (λ z=>m (mem_pos.mp z).2);rw [z,List.count_eq_zero.mpr m]
  rw [this];rfl
 refine⟨⟨Z6,Z6,λ l hl=>Ba (six l hl) Z9,?_,?_⟩,Z6,six,λ q m=>by rw [get q (hq q m)];exact hpos q m⟩
 ·obtain⟨a,ha⟩:=GE h1;exact⟨ln a,DI.mpr ⟨a,Fx.mpr (hq a ha),rfl⟩,hpos a ha⟩
 ·rw [C9.krf_up (m:=6) Z9 _ six,ek];have:2^(12-6)*((S.pos (cn Q)).map λ p=>2^(6-ln p)).sum≤2^(12-6)*2^6:=Dz _ b3;exact this
theorem ShL.tok (g:GR W Pp)(h1:1≤Pp.length)(h:ShL (Pp.map th) L):TOk L Pp:=by
 have hq:∀q∈Pp.map th,q<272:=λ q hq=>by
  obtain⟨x,hx,rfl⟩:=DI.mp hq;obtain⟨_,gx⟩:=g.all x hx;exact uQ gx
 obtain⟨a,b,c,d⟩:=h.ok hq (by rw [A9];exact h1);exact⟨a,b,c,λ x hx=>d _ (DI.mpr ⟨x,hx,rfl⟩)⟩
end K24
set_option maxHeartbeats 1000000
namespace K24
open PySem L2 QQ W17 W16 BP
seal PE PA PS PSs PT PW PG PI
variable {q:Nat}{f:HZ}{fd:Ih}
theorem tM {X:Cx}{x:Str}{c:Int}{pos:Pos}(h:∃t,X.mg x=some (.int c t))(hg:Gl X x)(hd:autoParam ((x==("__debug__":Str))=false) ZZ):PE X (.Name x pos) (tC (.int c)):=by
 obtain⟨t,h⟩:=h;exact aH hg h ⟨t,rfl⟩ hd
structure Shs (K:Frag)(mg:Str->Option Ib):Prop where
 X:Txt K mg
 whole:∃f fd,Fn K mg "is_whole" bE ["thing","least","most"] f fd
 arewhole:∃f fd,Fn K mg "are_whole" bK ["thing","least","most"] f fd
 things:∃f fd,Fn K mg "are_of_things" eg ["thing","most"] f fd
 need:∃f fd,Fn K mg "need_shares" pN ["counts","most"] f fd
 weight:∃f fd,Fn K mg "weight_of" fz ["bundle"] f fd
 pairs:∃f fd,Fn K mg "in_pairs" iK ["bundles"] f fd
 light:∃f fd,Fn K mg "lightest_bundles" jW ["singles","most"] f fd
 lengths:∃f fd,S.FnL K mg "lengths_of" ir ["counts","most"] f fd
section
def jo:Sp:=λ vs H Q _=>∃(t:HZ) (x:Pc),vs=[.ref t]/\H t=some (.tup (itm x))/\Q (vN (th x)) H
theorem qm:FnScope ["piece"] ["piece"] (ak iD):=scK Z8
theorem m8 (F:Fn K mg "thing_of" iD ["piece"] f fd)(T:Txt K mg):FnOk P w K mg base CX0 1 f fd ["piece"] jo:=by
 refine F.F.ok qm λ Iq A outer s H vs Q E hr h=>?_
 intro _;obtain⟨t,x,rfl,ht,k⟩:=h;refine⟨_,ad (aL (aA bP (aM aZ (pv 0) af (λ _ _=>rfl)) cf (aC _)) (ag (ax (aM aZ (pv 0) af (λ _ _=>rfl)))) aD)
  (ag (ax (am aY (am aK (tM T.first Z7) (aM aZ (pv 0) af (λ _ _=>rfl))) (tM T.least Z7)))),?_⟩
 cases x with
 |sg s=>
  refine⟨_,rfl,t,_,_,_,rfl,rfl,SqT.of ht,aB (j:=0) rfl,rfl,_,rfl,bd (λ _=>?_) (λ h=>absurd (Bj rfl) h)⟩;exact⟨_,rfl,t,_,_,_,rfl,rfl,SqT.of ht,aB (j:=1) rfl,k⟩
 |cp b z=>
  refine⟨_,rfl,t,_,_,_,rfl,rfl,SqT.of ht,aB (j:=0) rfl,rfl,_,rfl,bd (λ h=>absurd (Bp h) sh) (λ _=>?_)⟩;refine⟨_,rfl,t,_,_,_,rfl,rfl,SqT.of ht,aB (j:=2) rfl,_,_,rfl,rfl,_,_,rfl,rfl,?_⟩;have e:(256:Int)+((z:Nat):Int)-3=((253+z:Nat):Int):=Z5
  try dsimp only
  rw [e];exact k
def ug:Sp:=λ vs H Q _=>∃(a:HZ) (Qs:List Nat),vs=[.ref a]/\H a=some (.lst (Qs.map vN))/\(∀q∈Qs,q<272)/\1≤Qs.length/\Qs.length≤64/\
 ∀(l:HZ) (L:List Nat) (H':Hp),H l=none->Same H H'->H' l=some (.lst (L.map vN))->ShL Qs L->Q (.ref l) H'
theorem scSharesOf:FnScope ["things","counts","thing"] ["things"] (ak gc):=scK Z8
theorem yg {Qs:List Nat}{i:Nat}(h:Qs[i]?=some q)(hq:q<272):((cn (Qs.take i)).map vN).set q (vN ((Qs.take i).count q+1))=(cn (Qs.take (i+1))).map vN:=by
 have e1:∀A:List Nat,(cn A).map vN=(List.range 272).map λ p=>vN (A.count p):=λ A=>by unfold cn;rw [Dv];rfl
 rw [e1,e1];refine S.set_range (f:=λ p=>(Qs.take i).count p) (f':=λ p=>(Qs.take (i+1)).count p) λ p=>?_
 show(Qs.take (i+1)).count p=(Qs.take i).count p+ [q].count p;rw [kL h,Fs]
theorem yD:(List.replicate 272 [vN 0]).flatten=(cn []).map vN:=by
 have e1:(cn []).map vN=(List.range 272).map λ _=>vN 0:=by unfold cn;rw [Dv];rfl
 rw [e1,HS,Ej];generalize 272=n
 induction n with
 |zero=>rfl
 |succ n ih=>rw [CF,CG,ih,CF];rfl
theorem lz (F:Fn K mg "shares_of" gc ["things"] f fd)(Y:Shs K mg):FnOk P w K mg base CX0 34 f fd ["things"] ug:=by
 obtain⟨T,⟨_,_,Wh⟩,⟨_,_,AW⟩,⟨_,_,Th⟩,⟨_,_,Ne⟩,⟨_,_,We⟩,⟨_,_,Pa⟩,⟨_,_,Li⟩,⟨_,_,Le⟩⟩:=Y;obtain⟨t6,B6⟩:=Le.d;refine F.F.ok scSharesOf λ Iq A outer st H vs Q E hr h=>?_
 intro _;obtain⟨a,Qs,rfl,ha,hq,h1,h64,k⟩:=h;refine⟨_,ad (ar (i:=1) scSharesOf.nd (am jP (aE (aa af ae)) (tM T.many Z7)))
  (ad (bf BW rfl (bi (pv 0)) (aJ (i:=2) scSharesOf.nd) (ag (nN (am aK (aM aW (pv 1) (pv 2) (λ _ _=>rfl)) af) (mF (pv 1) (pv 2) iV))))
  (ag (ax (aq (S.ok_lengths Le Ne Th AW Wh Li Pa We T) hr Z7 Le.m Le.kp B6 (.cons (a:=V.int 6) ⟨_,rfl⟩ .nil) aw (aa (pv 1) ae))))),?_⟩
 refine seq_g λ _ g1=>⟨(by show 1≤sizeLine;decide),λ l4 n4=>?_⟩
 have s4:=aj (o:=.lst [V.int 0]) n4;have h44:(upd H l4 (.lst [V.int 0])) l4=some (.lst [vN 0]):=ac;generalize upd H l4 (.lst [V.int 0])=H4 at*;refine⟨l4,_,_,rfl,rfl,h44,Z9,Z9,(by show 1*272≤sizeLine;decide),λ l5 n5=>g1 _ _ ?_⟩;clear g1;have s5:=aj (o:=.lst ((List.replicate 272 [vN 0]).flatten)) n5;have h55:(upd H4 l5 (.lst ((List.replicate (272:Int).toNat [vN 0]).flatten))) l5=some (.lst ((cn (Qs.take 0)).map vN)):=by
  rw [ac];exact congrArg (λ z=>some (HO.lst z)) yD
 have n05:H l5=none:=none_of s4 n5;have s05:Same H (upd H4 l5 (.lst ((List.replicate (272:Int).toNat [vN 0]).flatten))):=s4.trans s5;generalize upd H4 l5 (.lst ((List.replicate (272:Int).toNat [vN 0]).flatten))=H5 at*;clear s5 s4 h44;have hal:a≠l5:=ai ha n05;refine seq_g λ _ g1=>⟨_,rfl,a,rfl,⟨_,SqL.of (s05 _ _ ha)⟩,bx (D:=⟨_,_,λ _ _=>False,λ _ _=>False⟩) (K:=K) (a:=a) (xs:=Qs.map vN) (λ i σ H7=>∃v:Option V,σ=[some (.ref a),some (.ref l5),v]/\H7 l5=some (.lst ((cn (Qs.take i)).map vN))/\∀c o,c≠l5->H5 c=some o->H7 c=some o)
  ⟨none,rfl,h55,λ _ _ _ e=>e⟩ (λ i σ H7 _ z9=>by obtain⟨_,_,_,kp⟩:=z9;exact SqL.of (kp _ _ hal (s05 _ _ ha))) ?_ ?_⟩
 ·clear g1;rintro i y σ H7 hi ⟨v,rfl,h7,kp⟩;obtain⟨q,hqi,rfl⟩:=cj hi;have hqn:=hq q (Cm hqi);have hg:((cn (Qs.take i)).map vN)[q]?=some (vN ((Qs.take i).count q)):=by
   unfold cn;rw [B4,B4,EY hqn];rfl
  have e2:(((Qs.take i).count q:Nat):Int)+1=(((Qs.take i).count q+1:Nat):Int):=Gw _;refine⟨_,rfl,_,rfl,l5,_,_,_,rfl,rfl,SqL.of h7,aB hg,_,_,rfl,rfl,?_⟩
  try dsimp only
  rw [e2];refine⟨_,rfl,_,rfl,l5,_,_,q,rfl,rfl,h7,S.ixN_nat (by rw [A9,cQ];exact hqn),some (vN q),rfl,?_,λ c o n e=>?_⟩
  ·rw [ac,yg hqi hqn]
  ·rw [upd_ne n];exact kp _ _ n e
 ·rintro σ H7 ⟨v,rfl,h7,kp⟩;rw [A9,Cc] at h7;refine g1 _ _ ?_;clear g1;have s07:Same H H7:=λ c o e=>kp _ _ (ai e n05) (s05 _ _ e)
  obtain⟨q1,q2,q3,q4,q5,q6,q7,q8,q9,q10⟩:=zn hq h1 h64;refine⟨_,rfl,l5,cn Qs,6,rfl,h7,q1,q2,q3,q4,q5,q6,q7,q8,q9,q10,λ l ln H8 nl s8 hl hb hln=>?_⟩;refine k l ((List.range 272).map ln) H8 (none_of s07 nl) (s07.trans s8) ?_ ⟨ln,hln,rfl,hb⟩;rw [hl,cQ,Dv];rfl
structure Cds (K:Frag)(mg:Str->Option Ib)(D C:HZ):Prop where
 M:K24.C.Mks K mg C
end
section
variable {B D C:HZ}
structure Shw (K:Frag)(mg:Str->Option Ib)(B D C:HZ):Prop where
 Y:Wys K mg
 Zb:Bts K mg B
 Sh:Shs K mg
 Cd:Cds K mg D C
 thingof:∃f fd,Fn K mg "thing_of" iD ["piece"] f fd
 sharesof:∃f fd,Fn K mg "shares_of" gc ["things"] f fd
 needtab:∃f fd,Fn K mg "need_table" dE ["lengths"] f fd
 again:∃f fd,Fn K mg "again_from" jB ["lengths","place","ahead"] f fd
 puttab:∃f fd,Fn K mg "put_table" fZ ["bits","lengths"] f fd
def rD (B:HZ):Sp:=λ vs H Q _=>∃(o p d a:HZ) (x:V) (T W:List Nat) (Pp:List Pc) (N T0:Nat),vs=[.ref o,.ref p,.ref a,x]/\BitsAt B H p d N T0/\T0≤1000/\H a=some (.lst (T.map vN))/\(∀b∈T,b<256)/\1≤T.length/\T.length≤64/\WinV H x W/\(∀b∈W,b<256)/\W.length≤192/\Walk (W++T) W.length Pp (W++T).length/\
 ∀(L:List Nat) (It:List W13.Itm) (b:Nat) (H':Hp),ShL (Pp.map th) L->W13.Walk L 0 0 It 272 b->BitsAt B H' p d (dJ (W13.puts It++hP L Pp) N) (T0+tots (W13.puts It++hP L Pp))->(∀c o,H c=some o->c≠p->c≠d->H' c=some o)->Q .non H'
theorem scShTell:FnScope ["self","bits","text","before","pieces","lengths","codes","piece","pair"] ["self","bits","text","before"] (ak jO):=scK Z8
theorem A3:(["piece"]:List Str).Nodup:=Z8
def zm:TE:=sF jo [] E0 (eh (dW 0) gv)
theorem pq {S:List Nat}{p:Nat}{Pp:List Pc}(h:Walk S p Pp q)(hpq:p<q):1≤Pp.length:=by
 cases Pp with
 |nil=>have:p=q:=h;lia
 |cons x Pp=>simp
theorem rf (F:Fun K "tell" "ShareWay.tell" jO f fd)(A0:Shw K mg B D C):FnOk P w K mg base CX0 35 f fd ["self","bits","text","before"] (rD B):=by
 obtain⟨⟨Vi,⟨_,_,Po⟩,⟨_,_,Na⟩,⟨_,_,Ns⟩⟩,Z,Sh,Cd,⟨_,_,To⟩,⟨_,_,So⟩,⟨_,_,Nt⟩,⟨_,_,Ag⟩,⟨_,_,Pt⟩⟩:=A0;obtain⟨_,_,Nr⟩:=Vi.needrow;obtain⟨_,_,Nw⟩:=Vi.needwin;have X:=Vi.R.X;have GTh:=m8 (P:=P) (w:=w) (base:=base) To X;obtain⟨_,_,Nl⟩:=Cd.M.need;obtain⟨_,_,Co⟩:=Cd.M.cof;have GC:=K24.C.ok_codesof (P:=P) (w:=w) (base:=base) Co Nl Cd.M.Y;obtain⟨_,_,Wh⟩:=Z.R.whole;obtain⟨_,_,Sz⟩:=Z.needsize;obtain⟨_,_,O⟩:=Z.ones;obtain⟨_,_,Pu⟩:=Z.put;obtain⟨_,_,M⟩:=Z.move;have TB:=Z.T;have GP:=ii (P:=P) (w:=w) (base:=base) Pu.F Sz Wh O M TB X;refine F.ok scShTell λ Iq A outer st H vs Q E hr h=>?_
 intro _;obtain⟨o,p,d,a,x,T,W,Pp,N,T0,rfl,hB,hT0,ha,hTb,h1,h64,hx,hWb,hWl,hwk,k⟩:=h;have hr1:Room 1 _:=hr.mono Z9;have hr3:Room 3 _:=hr.mono Z9;have hr7:Room 7 _:=hr.mono Z9;have hr32:Room 32 _:=hr.mono Z9;have hr33:Room 33 _:=hr.mono Z9;refine⟨_,ad (aF (aq (cK Ns Na Nw Nr Vi.R) hr7 Z7 Ns.m Ns.F.kp Ns.b .nil aw (aa (pv 2) (aa (pv 3) ae))))
  (ad (ar (i:=4) scShTell.nd (aq (gp Po Vi) hr32 Z7 Po.m Po.kp Po.b .nil aw (aa (pv 2) (aa (pv 3) ae))))
  (ad (ar (i:=5) scShTell.nd (aq (lz So Sh) hr Z7 So.m So.F.kp So.b .nil aw (aa (vL (N:=["piece"]) (g:=bz 0) (te:=zm) rfl rfl Z8 Z8 Z8 (bi (pv 4)) (λ fp s H=>aJ (i:=0) A3) (λ fp s H=>aq GTh hr1 Z7 To.m To.F.kp To.b .nil aw (aa (pv 0) ae))) ae)))
  (ad (ar (i:=6) scShTell.nd (aq GC hr33 Z7 Co.m Co.F.kp Co.b .nil aw (aa (pv 5) ae)))
  (ad (aF (aq (Tb.ok_puttable Pt Nt Ag Z) hr32 Z7 Pt.m Pt.F.kp Pt.b .nil aw (aa (pv 1) (aa (pv 5) ae))))
  (ag (bf BW rfl (bi (pv 4)) (aJ (i:=7) scShTell.nd) (ad (ar (i:=8) scShTell.nd (aM aW (pv 6) (aq GTh hr1 Z7 To.m To.F.kp To.b .nil aw (aa (pv 7) ae)) (λ _ _=>rfl)))
  (ad (aF (aV (pv 1) TB.cl Pu.m GP hr3 Pu.b .nil aw (aa (aM aZ (pv 8) af (λ _ _=>rfl)) (aa (aM aZ (pv 8) af (λ _ _=>rfl)) ae))))
  (ag (aL (aA bP (aM aZ (pv 7) af (λ _ _=>rfl)) cf (aC _)) (ag (aF (aV (pv 1) TB.cl Pu.m GP hr3 Pu.b .nil aw (aa (aM aZ (pv 7) af (λ _ _=>rfl)) (aa af ae))))) aD)))))))))),?_⟩
 refine seq_g λ _ g1=>⟨_,rfl,_,rfl,a,x,T,W,rfl,ha,hTb,h1,h64,hx,hWb,hWl,λ l0 H0 s0 n0 h00=>g1 _ _ ?_⟩
 clear g1;refine seq_g λ _ g1=>⟨_,rfl,_,rfl,a,x,W,T,rfl,s0 _ _ ha,hx.same s0,hWb,hTb,Ba hWl Z9,Ba h64 Z9,λ l P' H1 s01 nl0 ⟨ts,hl,hts⟩ hwk'=>g1 _ _ ?_⟩
 clear g1;have eP:P'=Pp:=dl hwk' hwk;subst eP;have s1:=s0.trans s01;have nl:H l=none:=none_of s0 nl0;obtain⟨gr,hrun,hPl⟩:=d5 hWb hTb hwk;have hP1:1≤P'.length:=pq hwk (by rw [Bb];exact EX h1);clear s0 s01 h00 nl0 hwk';refine seq_g λ _ g1=>⟨_,rfl,l,rfl,⟨_,SqL.of hl⟩,λ l2 nl2=>?_⟩
 refine wS (g:=bz 0) (te:=zm) (K:=K) (a:=l) (l:=l2) (xs:=ts.map V.ref) (n:=1) (λ i ys H2=>ys=((P'.take i).map th).map vN/\H2 l2=some (.lst ys)/\Same H1 H2)
  ⟨rfl,ac,aj nl2⟩ (λ i ys H2 _ z9=>by obtain⟨_,_,sm⟩:=z9;exact SqL.of (sm _ _ hl)) ?_ ?_ ?_ ?_
 ·clear g1;rintro i y ys σ H2 hi ⟨rfl,h22,sm⟩ hσ;obtain⟨t,ht,rfl⟩:=gA hi;obtain⟨u0,rfl⟩:∃u0,σ=[u0]:=match σ,hσ with| [u0],_=>⟨u0,rfl⟩
  have hil:i<P'.length:=by rw [<-hts.1];exact(Bo.mp ht).1
  have hPi:P'[i]?=some P'[i]:=Bg hil;refine⟨_,rfl,t,P'[i],rfl,sm _ _ (hts.2 i t _ ht hPi),h22,bF (by rw [A9,A9,Bv];exact Ba (Di _ _) (Ba hPl (Ba h64 Z9))),rfl,?_,ac,λ c o e=>?_⟩
  ·rw [kL hPi,Bm,Bm];rfl
  ·rw [upd_ne (ai e nl2)];exact sm _ _ e
 rotate_left
 ·exact λ x σ H A B h z=>h _ _ z
 ·rintro σ H A B h ⟨v,e1,t,x,e2,e3,z⟩;exact⟨v,e1,t,x,e2,e3,h _ _ z⟩
 rintro ys H2 ⟨rfl,h22,s12⟩;rw [A9,hts.1,Cc] at h22;have hq:∀q∈P'.map th,q<272:=λ q hq=>by
  obtain⟨x,hx,rfl⟩:=DI.mp hq;obtain⟨_,gx⟩:=gr.all x hx;exact uQ gx
 refine⟨l2,P'.map th,rfl,h22,hq,by rw [A9];exact hP1,by rw [A9];exact Ba hPl h64,λ l3 L H3 nl3 s23 h33 hsh=>g1 _ _ ?_⟩;clear g1;have tok:=hsh.tok gr hP1;have s13:=s12.trans s23;have nl31:H1 l3=none:=none_of s12 nl3;refine seq_g λ _ g1=>⟨_,rfl,_,L,rfl,⟨l3,rfl,h33,λ b hb=>Ba (tok.six b hb) Z9⟩,tok.good,λ l4 xs H4 nl4 s34 h44 hcl=>g1 _ _ ?_⟩
 clear g1;have s14:=s13.trans s34;have hB4:=hB.keep λ c o e _=>s14 _ _ (s1 _ _ e)
 have h43:=s34 _ _ h33;obtain⟨dxp,rp,kp',hpp⟩:=hB4.ob;obtain⟨dxd,Bd,rd,kd,_,hdd,_⟩:=id hB4;have nl3p:l3≠p:=ne_of h43 hpp (by intro z;cases z);have nl3d:l3≠d:=(cm (hB.sm.2.imp λ _ e=>s1 _ _ e) nl31).symm;have nl4p:l4≠p:=ne_of h44 hpp (by intro z;cases z);have nl4d:l4≠d:=(cm (hB.sm.2.imp λ _ e=>s13 _ _ (s1 _ _ e)) nl4).symm;have nlp:l≠p:=(cm hB.sm.1 nl).symm;have nld:l≠d:=(cm hB.sm.2 nl).symm;refine seq_g λ _ g1=>⟨_,rfl,_,rfl,p,d,l3,N,T0,L,rfl,hB4,hT0,h43,tok.len,tok.six,nl3d,λ It b H5 hit hB5 kp5=>g1 _ _ ?_⟩
 clear g1;have hit2:=qc tok.len hit;have hto:=gN 0 (W13.walk_ok tok.six hit);rw [hit2,tok.len] at hto;have h5l:=kp5 _ _ (s14 _ _ hl) nlp nld;have h54:=kp5 _ _ h44 nl4p nl4d;have htup:∀t ys,H4 t=some (.tup ys)->H5 t=some (.tup ys):=λ t ys e=>kp5 _ _ e (ne_of e hpp (by intro z;cases z)) (ne_of e hdd (by intro z;cases z))
 have hcl5:=hcl.keep htup;have hts5:=(hts.keep λ a xs e=>s14 _ _ e).keep htup;obtain⟨dxp5,rp5,kp5',hpp5⟩:=hB5.ob;obtain⟨dxd5,Bd5,rd5,kd5,_,hdd5,_⟩:=id hB5;refine⟨_,rfl,l,rfl,⟨_,SqL.of h5l⟩,bx (D:=⟨_,_,λ _ _=>False,λ _ _=>False⟩) (K:=K) (a:=l) (xs:=ts.map V.ref) (λ i σ H6=>∃v7 v8:Option V,σ=[some (.ref o),some (.ref p),some (.ref a),some x,some (.ref l),some (.ref l3),some (.ref l4),v7,v8]/\BitsAt B H6 p d (dJ (hP L (P'.take i)) (dJ (W13.puts It) N)) (T0+tots (W13.puts It)+tots (hP L (P'.take i)))/\∀c o,H5 c=some o->c≠p->c≠d->H6 c=some o)
  ⟨none,none,rfl,hB5,λ c o e _ _=>e⟩ (λ i σ H6 _ z9=>by obtain⟨_,_,_,_,kp⟩:=z9;exact SqL.of (kp _ _ h5l nlp nld)) ?_ ?_⟩
 ·rintro i y σ H6 hi ⟨v7,v8,rfl,hB6,kp⟩;obtain⟨t,ht,rfl⟩:=gA hi;have hil:i<P'.length:=by rw [<-hts.1];exact(Bo.mp ht).1
  have hPi:P'[i]?=some P'[i]:=Bg hil;have htt:=hts5.2 i t _ ht hPi;have hga:=gr.at hPi;have hmem:P'[i]∈P':=Dn hil;have ntp:t≠p:=ne_of htt hpp5 (by intro z;cases z);have ntd:t≠d:=ne_of htt hdd5 (by intro z;cases z);have htt6:=kp _ _ htt ntp ntd;have h64':=kp _ _ h54 nl4p nl4d;obtain⟨e1,e2,e3⟩:=tok.at hmem hga;have hco:=C10.codes_of_get tok.good e1 e2;have hlx:th P'[i]<xs.length:=by rw [hcl5.1];exact(Bo.mp hco).1
  have hxi:xs[th P'[i]]?=some xs[th P'[i]]:=Bg hlx;obtain⟨tc,etc,htc⟩:K24.C.OT H5 xs[th P'[i]] (some (C9.cdAt L (th P'[i]) (L.getD (th P'[i]) 0),L.getD (th P'[i]) 0)):=hcl5.2 _ _ _ hxi hco;rw [etc] at hxi;have ntcp:tc≠p:=ne_of htc hpp5 (by intro z;cases z);have ntcd:tc≠d:=ne_of htc hdd5 (by intro z;cases z);have htc6:=kp _ _ htc ntcp ntcd;have hto2:=jC tok.six (P'.take i);rw [Bv] at hto2;have hcl2:=C10.cd_lt tok.good e1 e2;obtain⟨dx,r,kk,hp6⟩:=hB6.ob;rw [kL hPi,rB,bG,aX,yJ];refine seq_g λ _ g2=>⟨_,rfl,_,rfl,t,P'[i],rfl,htt6,l4,_,_,_,rfl,rfl,SqL.of h64',aB hxi,g2 _ _ ?_⟩
  clear g2;refine seq_g λ _ g2=>⟨_,rfl,p,dx,_,rfl,hp6,cY _ _ _,_,rfl,tc,_,_,_,rfl,rfl,SqT.of htc6,aB (j:=0) rfl,_,rfl,tc,_,_,_,rfl,rfl,SqT.of htc6,aB (j:=1) rfl,p,d,_,_,_,_,rfl,hB6,Z5,Z5,hcl2,λ H7 hB7 kp7=>g2 _ _ ?_⟩
  clear g2;have htt7:=kp7 _ _ htt6 ntp ntd;obtain⟨dx7,r7,kk7,hp7⟩:=hB7.ob;generalize P'[i]=xx at*;cases xx with
  |sg s=>
   refine⟨_,rfl,t,_,_,_,rfl,rfl,SqT.of htt7,aB (j:=0) rfl,rfl,_,rfl,bd (λ h=>absurd (Bp h) (λ z=>sh z.symm)) (λ _=>?_)⟩;refine⟨_,_,rfl,?_,λ c o e n1 n2=>kp7 _ _ (kp _ _ e n1 n2) n1 n2⟩;have e5:T0+tots (W13.puts It)+(tots (hP L (P'.take i))+tots (cP L (.sg s)))=T0+tots (W13.puts It)+tots (hP L (P'.take i))+L.getD (th (.sg s)) 0:=by
    have:tots (cP L (.sg s))=L.getD (th (.sg s)) 0:=rfl;lia
   rw [e5];exact hB7
  |cp bk z=>
   obtain⟨g1,g2,g3,g4,g5⟩:1≤bk/\bk≤255/\bk≤_/\3≤z/\z≤18:=hga;refine⟨_,rfl,t,_,_,_,rfl,rfl,SqT.of htt7,aB (j:=0) rfl,rfl,_,rfl,bd (λ _=>?_) (λ h=>absurd (Bj rfl) h)⟩;refine⟨_,rfl,p,dx7,_,rfl,hp7,cY _ _ _,_,rfl,t,_,_,_,rfl,rfl,SqT.of htt7,aB (j:=1) rfl,p,d,_,_,bk,8,rfl,hB7,Z5,Z9,(by show bk<2^8;exact D4 g2),λ H8 hB8 kp8=>?_⟩;refine⟨_,_,rfl,?_,λ c o e n1 n2=>kp8 _ _ (kp7 _ _ (kp _ _ e n1 n2) n1 n2) n1 n2⟩;have e5:T0+tots (W13.puts It)+(tots (hP L (P'.take i))+tots (cP L (.cp bk z)))=T0+tots (W13.puts It)+tots (hP L (P'.take i))+L.getD (th (.cp bk z)) 0+8:=by
    have:tots (cP L (.cp bk z))=L.getD (th (.cp bk z)) 0+8:=rfl;lia
   rw [e5];exact hB8
 ·rintro σ H6 ⟨v7,v8,rfl,hB6,kp⟩;rw [A9,hts.1,Cc] at hB6;refine k L It b H6 hsh hit ?_ λ c o e n1 n2=>kp _ _ (kp5 _ _ (s14 _ _ (s1 _ _ e)) n1 n2) n1 n2
  rw [bG,aX,<-CI];exact hB6
def wD:Sp:=λ vs H Q _=>∃o:HZ,vs=[.ref o]/\Q (.int 3) H
theorem vw:FnScope ["self"] ["self"] (ak gn):=scK Z8
theorem tj (F:Fun K "number" "ShareWay.number" gn f fd):FnOk P w K mg base CX0 1 f fd ["self"] wD:=by
 refine F.ok vw λ Iq A outer st H vs Q E hr h=>?_
 intro _;obtain⟨o,rfl,k⟩:=h;exact⟨_,ag (ax af),k⟩
end
theorem lQ (T:List Nat)(s:Nat):pf false (T++[s])=pf false T++[(s,8)]:=by simp [pf]
theorem tV (r a:Nat):(List.replicate r [vN a]).flatten=(List.replicate r a).map vN:=by
 induction r with
 |zero=>rfl
 |succ r ih=>rw [CF,CG,ih];rfl
section
variable {B D:HZ}
def rH:Sp:=λ vs H Q _=>∃(a:HZ) (T:List Nat),vs=[.ref a]/\H a=some (.lst (T.map vN))/\T.length≤64/\∀l ts H',Same H H'->H l=none->H' l=some (.lst (ts.map V.ref))->Prs H' ts (rl T)->Q (.ref l) H'
theorem scRunsOf:FnScope ["signs","runs","begin","place"] ["signs"] (ak fG):=scK Z8
theorem qg (F:Fn K mg "runs_of" fG ["signs"] f fd)(T:Txt K mg):FnOk P w K mg base CX0 1 f fd ["signs"] rH:=by
 refine F.F.ok scRunsOf λ Iq A outer st H vs Q E hr h=>?_
 intro _;obtain⟨a,S,rfl,ha,h64,k⟩:=h;refine⟨_,ad (ar (i:=1) scRunsOf.nd (aE ae))
  (ad (ar (i:=2) scRunsOf.nd af)
  (ad (bf BW rfl (fX Z7 T.range (aa af (aa (am aK (az ay Z7 T.len BV (aa (pv 0) ae)) af) ae))) (aJ (i:=3) scRunsOf.nd)
   (ag (aL (PW.pt (fE (aA bP (pv 3) (az ay Z7 T.len BV (aa (pv 0) ae)) (aC _)) (dP (aA xm (aM aW (pv 0) (pv 3) (λ _ _=>rfl)) (aM aW (pv 0) (pv 2) (λ _ _=>rfl)) (aC _)))))
    (ad (aF (dI Cj CD CS bv (pv 1) (aa (bL (aa (aM aW (pv 0) (pv 2) (λ _ _=>rfl)) (aa (am aY (pv 3) (pv 2)) ae))) ae)))
    (ag (ar (i:=2) scRunsOf.nd (pv 3)))) aD)))
  (ag (ax (pv 1))))),?_⟩
 refine seq_g λ _ g1=>⟨Z9,λ l nl=>g1 _ _ ?_⟩
 clear g1;have s0:=aj (o:=.lst []) nl;refine seq_g λ R1 g1=>g1 _ _ ?_
 clear g1;refine seq_g λ R1 g1=>?_
 have en:(((S.map vN).length:Int)+1-1).toNat=S.length:=by rw [A9];lia
 refine⟨_,rfl,a,_,rfl,.inl (SqL.of (s0 _ _ ha)),_,_,rfl,rfl,1,_,rfl,⟨Z5,Z5,by rw [A9];lia,by rw [A9];lia⟩,?_⟩;rw [en];refine b9 (D:=⟨_,_,λ _ _=>False,λ _ _=>False⟩) (lo:=1) (n:=S.length) (λ i σ H2=>∃(b:Nat) (rs:List (Nat×Nat)) (ts:List HZ) (v3:Option V),σ=[some (.ref a),some (.ref l),some (vN b),v3]/\Same H H2/\H2 l=some (.lst (ts.map V.ref))/\Prs H2 ts rs/\rs++rl (S.drop b)=rl S/\b≤i/\rs.length≤i/\(i=S.length->b=S.length)/\∀j,b≤j->j≤i->j<S.length->S[j]?=S[b]?)
  ⟨0,[],[],none,rfl,s0,ac,.nil,rfl,Bh _,Bh _,λ z=>z,λ j h1 h2 _=>by rw [Nat.le_zero.mp h2]⟩ ?_ ?_
 ·clear g1;rintro i σ H2 hi ⟨b,rs,ts,v3,rfl,sm,hl2,hprs,hrl,hbi,hri,hend,hal⟩;have hbS:b<S.length:=B0 hbi hi;have ha2:=sm _ _ ha;have ep:(1:Int)+((i:Nat):Int)=((i+1:Nat):Int):=Z5;have htl:=hprs.len;have Sb:S[b]?=some S[b]:=Bg hbS;have J:(S[i+1]?≠some S[b])->∀(t:HZ),H2 t=none->∃(b':Nat) (rs:List (Nat×Nat)) (ts':List HZ) (v3:Option V),[some (V.ref a),some (V.ref l),some (vN (i+1)),some (vN (i+1))]=[some (V.ref a),some (V.ref l),some (vN b'),v3]/\Same H (upd (upd H2 t (.tup [vN S[b],vN (i+1-b)])) l (.lst ((ts++[t]).map V.ref)))/\(upd (upd H2 t (.tup [vN S[b],vN (i+1-b)])) l (.lst ((ts++[t]).map V.ref))) l=some (.lst (ts'.map V.ref))/\Prs (upd (upd H2 t (.tup [vN S[b],vN (i+1-b)])) l (.lst ((ts++[t]).map V.ref))) ts' rs/\rs++rl (S.drop b')=rl S/\b'≤i+1/\rs.length≤i+1/\(i+1=S.length->b'=S.length)/\∀j,b'≤j->j≤i+1->j<S.length->S[j]?=S[b']?:=by
   intro hne t nt;have st:=aj (o:=.tup [vN S[b],vN (i+1-b)]) nt;have nlt:t≠l:=(ai hl2 nt).symm;refine⟨i+1,rs++[(S[b],i+1-b)],ts++[t],some (vN (i+1)),rfl,λ c o e=>?_,ac,?_,?_,Bh _,by rw [Bb];show rs.length+1≤i+1;exact CZ hri 1,λ z=>z,λ j h1 h2 _=>by rw [show j=i+1 from DR (BI h1 h2)]⟩
   ·rw [upd_ne (ai e nl)];exact st _ _ (sm _ _ e)
   ·refine((hprs.mono st).keep λ c xs e=>?_).app (.cons ?_ .nil)
    ·rw [upd_ne (λ z=>by rw [z,st _ _ hl2] at e;cases e)];exact e
    ·rw [upd_ne nlt,ac]
   ·rw [Be,<-hrl,uZ (b:=b) (e:=i+1) (a:=S[b]) (D4 hbi) (‹_›) (λ j h1 h2=>by rw [hal j h1 (CM h2) (Bf h2 hi),Sb]) hne];rfl
  rw [ep];refine⟨_,rfl,_,rfl,a,_,rfl,.inl (SqL.of ha2),rfl,_,rfl,bd (λ h=>?_) (λ h=>?_)⟩
  ·have he:i+1=S.length:=by
    have:=Bp h;injection this with this
    rw [A9] at this;exact G0.mp this
   refine gi ⟨_,rfl,.inl ⟨rfl,_,SqL.of hl2⟩,_,rfl,_,rfl,a,_,_,_,rfl,rfl,SqL.of ha2,aB (cU hbS),_,rfl,_,rfl,_,_,rfl,rfl,(by show 2≤sizeLine;decide),λ t nt=>?_⟩;have e2:((i+1:Nat):Int)-((b:Nat):Int)=((i+1-b:Nat):Int):=(Eh (CV hbi)).symm
   try dsimp only at nt
   try dsimp only
   rw [e2];refine⟨l,_,_,rfl,rfl,aj nt _ _ hl2,bF (by rw [A9];lia),_,rfl,?_⟩;have z:=J (by rw [he,BS (Bh _)];exact λ z=>nomatch z) t nt;rw [Bm] at z;exact z
  ·have he:i+1<S.length:=by
    have h':¬(decide (V.int ((i+1:Nat):Int)=V.int ((S.map vN).length:Int))=true):=h;rcases Dm (i+1) S.length with q|q
    ·exact q
    ·exact absurd (Bj (by rw [A9,show i+1=S.length from BI hi q])) h'
   refine⟨_,rfl,_,rfl,a,_,_,_,rfl,rfl,SqL.of ha2,aB (cU he),_,rfl,_,rfl,a,_,_,_,rfl,rfl,SqL.of ha2,aB (cU hbS),rfl,_,rfl,?_⟩;by_cases hne:S[i+1]=S[b]
   ·rw [hne,Bj rfl];refine bV ⟨b,rs,ts,_,rfl,sm,hl2,hprs,hrl,CV hbi,Z5,λ z=>Z5,λ j h1 h2 h3=>?_⟩;rcases Dm i j with q|q
    ·rw [show j=i+1 by lia,Bg he,Sb,hne]
    ·exact hal j h1 q h3
   ·rw [DT (λ z=>hne (vN_inj.mp z))];refine gi ⟨_,rfl,.inl ⟨rfl,_,SqL.of hl2⟩,_,rfl,_,rfl,a,_,_,_,rfl,rfl,SqL.of ha2,aB (cU hbS),_,rfl,_,rfl,_,_,rfl,rfl,(by show 2≤sizeLine;decide),λ t nt=>?_⟩;have e2:((i+1:Nat):Int)-((b:Nat):Int)=((i+1-b:Nat):Int):=(Eh (CV hbi)).symm
    try dsimp only at nt
    try dsimp only
    rw [e2];refine⟨l,_,_,rfl,rfl,aj nt _ _ hl2,bF (by rw [A9];lia),_,rfl,?_⟩;have z:=J (by rw [Bg he];exact λ z=>hne (BU z)) t nt;rw [Bm] at z;exact z
 ·rintro σ H2 ⟨b,rs,ts,v3,rfl,sm,hl2,hprs,hrl,_,_,hend,_⟩;rw [hend rfl,HI,xT,Ct] at hrl;rw [hrl] at hprs;exact g1 _ _ ⟨_,rfl,k l ts H2 sm nl hl2 hprs⟩
def AI (u:Bool):Int:=if u then 1 else 0
def mj (u:Bool):Sp:=λ vs H Q _=>∃o:HZ,vs=[.ref o]/\Q (.int (AI u)) H
theorem lK:FnScope ["self"] ["self"] (ak eu):=scK Z8
theorem lg:FnScope ["self"] ["self"] (ak eI):=scK Z8
theorem kB (F:Fun K "number" "RawWay.number" eu f fd):FnOk P w K mg base CX0 1 f fd ["self"] (mj false):=by
 refine F.ok lK λ Iq A outer st H vs Q E hr h=>?_
 intro _;obtain⟨o,rfl,k⟩:=h;exact⟨_,ag (ax af),k⟩
theorem kC (F:Fun K "number" "RunWay.number" eI f fd):FnOk P w K mg base CX0 1 f fd ["self"] (mj true):=by
 refine F.ok lg λ Iq A outer st H vs Q E hr h=>?_
 intro _;obtain⟨o,rfl,k⟩:=h;exact⟨_,ag (ax af),k⟩
def rE (u:Bool)(B:HZ):Sp:=λ vs H Q _=>∃(o p d a:HZ) (x:V) (T W:List Nat) (N T0:Nat),vs=[.ref o,.ref p,.ref a,x]/\BitsAt B H p d N T0/\T0≤1000/\H a=some (.lst (T.map vN))/\(∀b∈T,b<256)/\1≤T.length/\T.length≤64/\WinV H x W/\(∀b∈W,b<256)/\W.length≤192/\
 ∀H',BitsAt B H' p d (dJ (pf u T) N) (T0+tots (pf u T))->(∀c o,H c=some o->c≠p->c≠d->H' c=some o)->Q .non H'
theorem scRawTell:FnScope ["self","bits","text","before","sign"] ["self","bits","text","before"] (ak gY):=scK Z8
theorem ou (F:Fun K "tell" "RawWay.tell" gY f fd)(Y:Wys K mg)(Z:Bts K mg B):FnOk P w K mg base CX0 8 f fd ["self","bits","text","before"] (rE false B):=by
 have R:=Y.V.R;obtain⟨_,_,Nr⟩:=Y.V.needrow;obtain⟨_,_,Nw⟩:=Y.V.needwin;obtain⟨_,_,Na⟩:=Y.needahead;obtain⟨_,_,Ns⟩:=Y.needsigns;have X:=R.X;obtain⟨_,_,W⟩:=Z.R.whole;obtain⟨_,_,S⟩:=Z.needsize;obtain⟨_,_,O⟩:=Z.ones;obtain⟨_,_,Pu⟩:=Z.put;obtain⟨_,_,M⟩:=Z.move;have TB:=Z.T;have GP:=ii (P:=P) (w:=w) (base:=base) Pu.F S W O M TB X;refine F.ok scRawTell λ Iq A outer st H vs Q E hr h=>?_
 intro _;obtain⟨o,p,d,a,x,T,W,N,T0,rfl,hB,hT0,ha,hTb,h1,h64,hx,hWb,hWl,k⟩:=h;have hr3:Room 3 _:=hr.mono Z9;refine⟨_,ag (bf BW rfl (bi (aq (cK Ns Na Nw Nr R) hr Z7 Ns.m Ns.F.kp Ns.b .nil aw (aa (pv 2) (aa (pv 3) ae)))) (aJ (i:=4) scRawTell.nd)
  (ag (aF (aV (pv 1) TB.cl Pu.m GP hr3 Pu.b .nil aw (aa (pv 4) (aa af ae)))))),?_⟩
 refine⟨_,rfl,_,rfl,a,x,T,W,rfl,ha,hTb,h1,h64,hx,hWb,hWl,λ l H1 s1 nl hl=>?_⟩;have hB1:=hB.keep λ c o e _=>s1 _ _ e
 have nlp:l≠p:=(cm hB.sm.1 nl).symm;have nld:l≠d:=(cm hB.sm.2 nl).symm;refine⟨l,rfl,⟨_,SqL.of hl⟩,bx (D:=⟨_,_,λ _ _=>False,λ _ _=>False⟩) (K:=K) (a:=l) (xs:=T.map vN) (λ i σ H2=>∃v4:Option V,σ=[some (.ref o),some (.ref p),some (.ref a),some x,v4]/\BitsAt B H2 p d (dJ (pf false (T.take i)) N) (T0+tots (pf false (T.take i)))/\∀c o,H1 c=some o->c≠p->c≠d->H2 c=some o)
  ⟨none,rfl,hB1,λ c o e _ _=>e⟩ (λ i σ H2 _ z9=>by obtain⟨_,_,_,kp⟩:=z9;exact SqL.of (kp _ _ hl nlp nld)) ?_ ?_⟩
 ·rintro i y σ H2 hi ⟨v4,rfl,hB2,kp⟩;obtain⟨b,hb,rfl⟩:=cj hi;have hil:i<T.length:=(Bo.mp hb).1;obtain⟨dx,r,kk,hp2⟩:=hB2.ob;have htt:=dU (T.take i);rw [Bv] at htt;refine⟨_,rfl,p,dx,_,rfl,hp2,cY _ _ _,_,rfl,p,d,_,_,b,8,rfl,hB2,Z5,Z9,hTb b (Cm hb),λ H3 hB3 kp3=>?_⟩;refine⟨_,rfl,?_,λ c o e n1 n2=>kp3 _ _ (kp _ _ e n1 n2) n1 n2⟩;rw [cM hb,lQ,bG,aX,<-CI];exact hB3
 ·rintro σ H2 ⟨v4,rfl,hB2,kp⟩;rw [A9,Cc] at hB2;exact k H2 hB2 λ c o e n1 n2=>kp _ _ (s1 _ _ e) n1 n2
theorem scRunTell:FnScope ["self","bits","text","before","sign","size"] ["self","bits","text","before"] (ak ie):=scK Z8
theorem mQ {fR:HZ}{fdR:Ih}(F:Fun K "tell" "RunWay.tell" ie f fd)(Ro:Fn K mg "runs_of" fG ["signs"] fR fdR)(Y:Wys K mg)(Z:Bts K mg B):FnOk P w K mg base CX0 8 f fd ["self","bits","text","before"] (rE true B):=by
 have R:=Y.V.R;obtain⟨_,_,Nr⟩:=Y.V.needrow;obtain⟨_,_,Nw⟩:=Y.V.needwin;obtain⟨_,_,Na⟩:=Y.needahead;obtain⟨_,_,Ns⟩:=Y.needsigns;have X:=R.X;obtain⟨_,_,W⟩:=Z.R.whole;obtain⟨_,_,S⟩:=Z.needsize;obtain⟨_,_,O⟩:=Z.ones;obtain⟨_,_,Pu⟩:=Z.put;obtain⟨_,_,M⟩:=Z.move;have TB:=Z.T;have GP:=ii (P:=P) (w:=w) (base:=base) Pu.F S W O M TB X;refine F.ok scRunTell λ Iq A outer st H vs Q E hr h=>?_
 intro _;obtain⟨o,p,d,a,x,T,W,N,T0,rfl,hB,hT0,ha,hTb,h1,h64,hx,hWb,hWl,k⟩:=h;have hr3:Room 3 _:=hr.mono Z9;have hr1:Room 1 _:=hr.mono Z9;refine⟨_,ag (bf BW rfl (bi (aq (qg Ro X) hr1 Z7 Ro.m Ro.F.kp Ro.b .nil aw (aa (aq (cK Ns Na Nw Nr R) hr Z7 Ns.m Ns.F.kp Ns.b .nil aw (aa (pv 2) (aa (pv 3) ae))) ae)))
  (ke rfl (cE (aJ (i:=4) scRunTell.nd) (cE (aJ (i:=5) scRunTell.nd) gJ)))
  (ad (aF (aV (pv 1) TB.cl Pu.m GP hr3 Pu.b .nil aw (aa (am aY (pv 5) af) (aa af ae))))
  (ag (aF (aV (pv 1) TB.cl Pu.m GP hr3 Pu.b .nil aw (aa (pv 4) (aa af ae))))))),?_⟩
 refine⟨_,rfl,_,rfl,a,x,T,W,rfl,ha,hTb,h1,h64,hx,hWb,hWl,λ l0 H0 s0 n0 h00=>?_⟩;refine⟨l0,T,rfl,h00,h64,λ l ts H1 s01 nl0 hl hprs=>?_⟩;have s1:=s0.trans s01;have nl:H l=none:=none_of s0 nl0;have hB1:=hB.keep λ c o e _=>s1 _ _ e
 have nlp:l≠p:=(cm hB.sm.1 nl).symm;have nld:l≠d:=(cm hB.sm.2 nl).symm;have htl:=hprs.len;have hok:=xb h64 hTb;have hlen:(rl T).length≤64:=by
  have:=eE (rs:=rl T) λ q hq=>(oa hq).1
  rw [sf] at this;exact Ba this h64
 obtain⟨dxp,rp,kp',hpp⟩:=hB1.ob;obtain⟨dxd,Bd,rd,kd,_,hdd,_⟩:=id hB1;refine⟨l,rfl,⟨_,SqL.of hl⟩,bx (D:=⟨_,_,λ _ _=>False,λ _ _=>False⟩) (K:=K) (a:=l) (xs:=ts.map V.ref) (λ i σ H2=>∃v4 v5:Option V,σ=[some (.ref o),some (.ref p),some (.ref a),some x,v4,v5]/\BitsAt B H2 p d (dJ (pR ((rl T).take i)) N) (T0+tots (pR ((rl T).take i)))/\∀c o,H1 c=some o->c≠p->c≠d->H2 c=some o)
  ⟨none,none,rfl,hB1,λ c o e _ _=>e⟩ (λ i σ H2 _ z9=>by obtain⟨_,_,_,_,kp⟩:=z9;exact SqL.of (kp _ _ hl nlp nld)) ?_ ?_⟩
 ·rintro i y σ H2 hi ⟨v4,v5,rfl,hB2,kp⟩;obtain⟨t,ht,rfl⟩:=gA hi;obtain⟨q,hq,htt⟩:=hprs.at ht;have hil:i<(rl T).length:=(Bo.mp hq).1;obtain⟨q1,q2,q3⟩:=hok q (Cm hq);have ntp:t≠p:=ne_of htt hpp (by intro z;cases z);have ntd:t≠d:=ne_of htt hdd (by intro z;cases z);have htt2:=kp _ _ htt ntp ntd;obtain⟨dx,r,kk,hp2⟩:=hB2.ob;have hto:=gF ((rl T).take i);rw [Bv] at hto;refine⟨t,_,rfl,SqT.of htt2,rfl,_,_,rfl,_,_,rfl,rfl,?_⟩;have e1:((q.2:Nat):Int)-1=((q.2-1:Nat):Int):=(Eh q1).symm;refine seq_g λ _ g2=>⟨_,rfl,p,dx,_,rfl,hp2,cY _ _ _,_,rfl,_,_,rfl,rfl,?_⟩
  try dsimp only
  rw [e1];refine⟨p,d,_,_,q.2-1,6,rfl,hB2,Z5,Z9,(by show q.2-1<2^6;lia),λ H3 hB3 kp3=>g2 _ _ ?_⟩;clear g2;obtain⟨dx3,r3,kk3,hp3⟩:=hB3.ob;refine⟨_,rfl,p,dx3,_,rfl,hp3,cY _ _ _,_,rfl,p,d,_,_,q.1,8,rfl,hB3,Z5,Z9,(by show q.1<2^8;assumption),λ H4 hB4 kp4=>?_⟩;refine⟨_,_,rfl,?_,λ c o e n1 n2=>kp4 _ _ (kp3 _ _ (kp _ _ e n1 n2) n1 n2) n1 n2⟩;rw [kL hq,qV,bG,aX];have e5:T0+(tots (pR ((rl T).take i))+tots (pR [q]))=T0+tots (pR ((rl T).take i))+6+8:=by
   have:tots (pR [q])=14:=by rw [gF];rfl
   lia
  rw [e5];exact hB4
 ·rintro σ H2 ⟨v4,v5,rfl,hB2,kp⟩;rw [A9,htl,Cc] at hB2;exact k H2 hB2 λ c o e n1 n2=>kp _ _ (s1 _ _ e) n1 n2
def vG:Sp:=λ vs H Q _=>∃o:HZ,vs=[.ref o]/\Q (.int 2) H
theorem vM:FnScope ["self"] ["self"] (ak dX):=scK Z8
theorem uu (F:Fun K "number" "CopyWay.number" dX f fd):FnOk P w K mg base CX0 1 f fd ["self"] vG:=by
 refine F.ok vM λ Iq A outer st H vs Q E hr h=>?_
 intro _;obtain⟨o,rfl,k⟩:=h;exact⟨_,ag (ax af),k⟩
def rU (B:HZ):Sp:=λ vs H Q _=>∃(o p d a:HZ) (x:V) (T W:List Nat) (Pp:List Pc) (N T0:Nat),vs=[.ref o,.ref p,.ref a,x]/\BitsAt B H p d N T0/\T0≤1000/\H a=some (.lst (T.map vN))/\(∀b∈T,b<256)/\1≤T.length/\T.length≤64/\WinV H x W/\(∀b∈W,b<256)/\W.length≤192/\Walk (W++T) W.length Pp (W++T).length/\
 ∀H',BitsAt B H' p d (dJ (pP Pp) N) (T0+tots (pP Pp))->(∀c o,H c=some o->c≠p->c≠d->H' c=some o)->Q .non H'
theorem scCpTell:FnScope ["self","bits","text","before","piece"] ["self","bits","text","before"] (ak f9):=scK Z8
theorem qI (F:Fun K "tell" "CopyWay.tell" f9 f fd)(Y:Wys K mg)(Z:Bts K mg B):FnOk P w K mg base CX0 33 f fd ["self","bits","text","before"] (rU B):=by
 obtain⟨Vi,⟨_,_,Po⟩,⟨_,_,Na⟩,⟨_,_,Ns⟩⟩:=Y;obtain⟨_,_,Nr⟩:=Vi.needrow;obtain⟨_,_,Nw⟩:=Vi.needwin;have X:=Vi.R.X;obtain⟨_,_,W⟩:=Z.R.whole;obtain⟨_,_,S⟩:=Z.needsize;obtain⟨_,_,O⟩:=Z.ones;obtain⟨_,_,Pu⟩:=Z.put;obtain⟨_,_,M⟩:=Z.move;have TB:=Z.T;have GP:=ii (P:=P) (w:=w) (base:=base) Pu.F S W O M TB X;obtain⟨tl,hle⟩:=X.least;refine F.ok scCpTell λ Iq A outer st H vs Q E hr h=>?_
 intro _;obtain⟨o,p,d,a,x,T,W,Pp,N,T0,rfl,hB,hT0,ha,hTb,h1,h64,hx,hWb,hWl,hwk,k⟩:=h;have hr3:Room 3 _:=hr.mono Z9;have hr7:Room 7 _:=hr.mono Z9;refine⟨_,ad (aF (aq (cK Ns Na Nw Nr Vi.R) hr7 Z7 Ns.m Ns.F.kp Ns.b .nil aw (aa (pv 2) (aa (pv 3) ae))))
  (ag (bf BW rfl (bi (aq (gp Po Vi) hr Z7 Po.m Po.kp Po.b .nil aw (aa (pv 2) (aa (pv 3) ae)))) (aJ (i:=4) scCpTell.nd)
   (ag (aL (aA bP (aM aZ (pv 4) af (λ _ _=>rfl)) cf (aC _))
    (ad (aF (aV (pv 1) TB.cl Pu.m GP hr3 Pu.b .nil aw (aa af (aa af ae))))
    (ag (aF (aV (pv 1) TB.cl Pu.m GP hr3 Pu.b .nil aw (aa (aM aZ (pv 4) af (λ _ _=>rfl)) (aa af ae))))))
    (ad (aF (aV (pv 1) TB.cl Pu.m GP hr3 Pu.b .nil aw (aa af (aa af ae))))
    (ad (aF (aV (pv 1) TB.cl Pu.m GP hr3 Pu.b .nil aw (aa (aM aZ (pv 4) af (λ _ _=>rfl)) (aa af ae))))
    (ag (aF (aV (pv 1) TB.cl Pu.m GP hr3 Pu.b .nil aw (aa (am aY (aM aZ (pv 4) af (λ _ _=>rfl)) (aH (v:=.int 3) Z7 hle ⟨tl,rfl⟩)) (aa af ae)))))))))))
  ,?_⟩
 refine seq_g λ _ g1=>⟨_,rfl,_,rfl,a,x,T,W,rfl,ha,hTb,h1,h64,hx,hWb,hWl,λ l0 H0 s0 n0 h00=>g1 _ _ ?_⟩
 clear g1;refine⟨_,rfl,_,rfl,a,x,W,T,rfl,s0 _ _ ha,hx.same s0,hWb,hTb,Z5,Z5,λ l P' H1 s01 nl0 z9 hwk'=>?_⟩;obtain⟨ts,hl,hts⟩:=z9;have eP:P'=Pp:=dl hwk' hwk;subst eP;have s1:=s0.trans s01;have nl:H l=none:=none_of s0 nl0;have hB1:=hB.keep λ c o e _=>s1 _ _ e
 have nlp:l≠p:=(cm hB.sm.1 nl).symm;have nld:l≠d:=(cm hB.sm.2 nl).symm;obtain⟨gr,hrun,hPl⟩:=d5 hWb hTb hwk;obtain⟨dxp,rp,kp',hpp⟩:=hB1.ob;obtain⟨dxd,Bd,rd,kd,_,hdd,_⟩:=id hB1;refine⟨l,rfl,⟨_,SqL.of hl⟩,bx (D:=⟨_,_,λ _ _=>False,λ _ _=>False⟩) (K:=K) (a:=l) (xs:=ts.map V.ref) (λ i σ H2=>∃v4:Option V,σ=[some (.ref o),some (.ref p),some (.ref a),some x,v4]/\BitsAt B H2 p d (dJ (pP (P'.take i)) N) (T0+tots (pP (P'.take i)))/\∀c o,H1 c=some o->c≠p->c≠d->H2 c=some o)
  ⟨none,rfl,hB1,λ c o e _ _=>e⟩ (λ i σ H2 _ z9=>by obtain⟨_,_,_,kp⟩:=z9;exact SqL.of (kp _ _ hl nlp nld)) ?_ ?_⟩
 ·rintro i y σ H2 hi ⟨v4,rfl,hB2,kp⟩;obtain⟨t,ht,rfl⟩:=gA hi;have hil:i<P'.length:=by rw [<-hts.1];exact(Bo.mp ht).1
  have hPi:P'[i]?=some P'[i]:=Bg hil;have htt:=hts.2 i t _ ht hPi;have hga:=gr.at hPi;have ntp:t≠p:=ne_of htt hpp (by intro z;cases z);have ntd:t≠d:=ne_of htt hdd (by intro z;cases z);have htt2:=kp _ _ htt ntp ntd;obtain⟨dx,r,kk,hp2⟩:=hB2.ob;have hto:=jS (P'.take i);rw [Bv] at hto;rw [kL hPi,qj,bG,aX,yQ];generalize P'[i]=xx at*;cases xx with
  |sg s=>
   have hs:s<256:=hga;refine⟨_,rfl,t,_,_,_,rfl,rfl,SqT.of htt2,aB (j:=0) rfl,rfl,_,rfl,bd (λ _=>?_) (λ h=>absurd (Bj rfl) h)⟩;refine seq_g λ _ g2=>⟨_,rfl,p,dx,_,rfl,hp2,cY _ _ _,p,d,_,_,0,1,rfl,hB2,Ba (E9 hT0 (Ba hto (Dz _ (Ba (Di _ _) (Ba hPl h64))))) Z9,Z9,Z9,λ H3 hB3 kp3=>g2 _ _ ?_⟩
   clear g2;have htt3:=kp3 _ _ htt2 ntp ntd;obtain⟨dx3,r3,kk3,hp3⟩:=hB3.ob;refine⟨_,rfl,p,dx3,_,rfl,hp3,cY _ _ _,_,rfl,t,_,_,_,rfl,rfl,SqT.of htt3,aB (j:=1) rfl,p,d,_,_,s,8,rfl,hB3,Ba (Ew (E9 hT0 (Ba hto (Dz _ (Ba (Di _ _) (Ba hPl h64)))))) Z9,Z9,hs,λ H4 hB4 kp4=>?_⟩;refine⟨_,rfl,?_,λ c o e n1 n2=>kp4 _ _ (kp3 _ _ (kp _ _ e n1 n2) n1 n2) n1 n2⟩;have e5:T0+(tots (pP (P'.take i))+tots (pcP (.sg s)))=T0+tots (pP (P'.take i))+1+8:=by
    have:tots (pcP (.sg s))=9:=rfl;lia
   rw [e5];exact hB4
  |cp b z=>
   obtain⟨g1,g2,g3,g4,g5⟩:1≤b/\b≤255/\b≤_/\3≤z/\z≤18:=hga;refine⟨_,rfl,t,_,_,_,rfl,rfl,SqT.of htt2,aB (j:=0) rfl,rfl,_,rfl,bd (λ h=>absurd (Bp h) sh) (λ _=>?_)⟩;refine seq_g λ _ q2=>⟨_,rfl,p,dx,_,rfl,hp2,cY _ _ _,p,d,_,_,1,1,rfl,hB2,Ba (E9 hT0 (Ba hto (Dz _ (Ba (Di _ _) (Ba hPl h64))))) Z9,Z9,Z9,λ H3 hB3 kp3=>q2 _ _ ?_⟩
   clear q2;have htt3:=kp3 _ _ htt2 ntp ntd;obtain⟨dx3,r3,kk3,hp3⟩:=hB3.ob;refine seq_g λ _ q2=>⟨_,rfl,p,dx3,_,rfl,hp3,cY _ _ _,_,rfl,t,_,_,_,rfl,rfl,SqT.of htt3,aB (j:=1) rfl,p,d,_,_,b,8,rfl,hB3,Ba (Ew (E9 hT0 (Ba hto (Dz _ (Ba (Di _ _) (Ba hPl h64)))))) Z9,Z9,(by show b<2^8;exact D4 g2),λ H4 hB4 kp4=>q2 _ _ ?_⟩
   clear q2;have htt4:=kp4 _ _ htt3 ntp ntd;obtain⟨dx4,r4,kk4,hp4⟩:=hB4.ob;have e1:((z:Nat):Int)-3=((z-3:Nat):Int):=(Eh g4).symm;refine⟨_,rfl,p,dx4,_,rfl,hp4,cY _ _ _,_,rfl,t,_,_,_,rfl,rfl,SqT.of htt4,aB (j:=2) rfl,_,_,rfl,rfl,?_⟩
   try dsimp only
   rw [e1];refine⟨p,d,_,_,z-3,4,rfl,hB4,Z5,Z9,(by show z-3<2^4;lia),λ H5 hB5 kp5=>?_⟩;refine⟨_,rfl,?_,λ c o e n1 n2=>kp5 _ _ (kp4 _ _ (kp3 _ _ (kp _ _ e n1 n2) n1 n2) n1 n2) n1 n2⟩;have e5:T0+(tots (pP (P'.take i))+tots (pcP (.cp b z)))=T0+tots (pP (P'.take i))+1+8+4:=by
    have:tots (pcP (.cp b z))=13:=rfl;lia
   rw [e5];exact hB5
 ·rintro σ H2 ⟨v4,rfl,hB2,kp⟩;rw [A9,hts.1,Cc] at hB2;exact k H2 hB2 λ c o e n1 n2=>kp _ _ (s1 _ _ e) n1 n2
end
end K24
set_option maxHeartbeats 2000000
namespace L2
open PySem PySem.Spec PySem.Calls PyProof.Rows QQ PySem.W
variable {fd:Ih}{Q:VK}{K:Frag}{sp:Sp}{P Tb c c' f l:HZ}{k t':Nat}{body:Ik}{v:V}{base h':Ij}{qual x y:Str}{scope:Scope}{Nc:List Str}{E:Ib->Ic->Prop}{xs:List V}{cl:List (Str×HZ)}{u:Ib}{mg:Str->Option Ib}{js:List Nat}{H':Hp}{w:Ig}
section
variable {X:Cx}{Io:List (HZ × Il)}{σ:St}{H:Hp}{s:Ic}
theorem Inv.grown {ps more:Array Ib}{oc:Il}(I:Inv X Io σ H s)(hP:H P=some (.tbl ps))(k:Heap.ExtBut P s.heap h')(hc:s.heap.objs.size≤c')
  (hoc:h'.get? c'=some oc) (hP':h'.get? P=some (tabObj (ps++more))):Inv X Io σ (upd (upd H P (.tbl (ps++more))) c' (.frz oc (.own c'))) {s with heap:=h',toks:=t'}:=by
 have hn:H c'=none:=I.hok.fresh hc;have nPc:P≠c':=ai hP hn;have at_:∀{b:HZ} {u:HO},H b=some u->b≠P->(upd (upd H P (.tbl (ps++more))) c' (.frz oc (.own c'))) b=some u:=λ {b u} e n=>by
  rw [upd_ne (ai e hn),upd_ne n];exact e
 refine I.step (g':=s.gens) (d':=s.drawn) (ch:=[]) (λ _ z=>nomatch z) (λ b o _ _ _ e n=>k b o (ai hP n).symm e) (λ b o _ _ _ e n=>⟨o.slots,k b o (ai hP n).symm e⟩) (λ b o _ e n=>?_)
  (λ b o _ e=>?_) (λ b xs e=>at_ e (ne_of e hP (by intro z;cases z))) (λ b o u e=>at_ e (ne_of e hP (by intro z;cases z))) (λ b qs e=>?_) (λ m hm=>?_) (λ b u e=>?_) I.bare
 ·rw [upd_ne (Ci (Bf (BD e) hc)),upd_ne (ai hP n).symm];exact n
 ·by_cases z:b=P
  ·subst z;exact⟨_,hP'⟩
  ·exact⟨o,k b o z e⟩
 ·by_cases z:b=P
  ·subst z;rw [hP] at e;cases e;exact⟨more,by rw [upd_ne nPc,ac]⟩
  ·exact⟨#[],by rw [at_ e z];simp⟩
 ·obtain⟨o,es,ep,ho,r⟩:=hm;exact⟨o,es,ep,k _ o (ai hP I.free).symm ho,r⟩
 ·by_cases z:b=c'
  ·subst z;rw [ac] at e;cases e;exact⟨hoc,oc,hoc⟩
  ·rw [upd_ne z] at e;by_cases y:b=P
   ·subst y;rw [ac] at e;cases e;exact hP'
   ·rw [upd_ne y] at e;refine(I.hok b u e).stay (λ c v hcb q=>k c v ?_ q) (λ c q=>at_ q (ne_of q hP (by intro z;cases z))) λ c xs q=>at_ q (ne_of q hP (by intro z;cases z))
    rcases hcb with hcb|hcb
    ·rw [hcb];exact y
    ·exact ne_of hcb hP (by intro z;cases z)
def g9 (P:HZ)(H H':Hp):Prop:=∀c o,c≠P->H c=some o->H' c=some o
def TbOk (P:HZ)(pos:Pos)(qual:Str)(H:Hp):Prop:=∃ps:Array Ib,H P=some (.tbl ps)/\(ps=#[]\/∃(c':HZ) (oc:Il) (vs:Array Ib) (t:Tok),ps=#[rawInt pos.line,rawInt pos.col,.ref c']/\H c'=some (.frz oc (.own c'))/\oc.data=.fields vs/\vs[1]?=some (.str qual t))
theorem TbOk.same {pos:Pos}(h:TbOk P pos qual H)(s:Same H H'):TbOk P pos qual H':=by
 obtain⟨ps,e,h⟩:=h;refine⟨ps,s _ _ e,?_⟩;rcases h with h|⟨c',oc,vs,t,a,b,r⟩
 ·exact .inl h
 ·exact .inr ⟨c',oc,vs,t,a,s _ _ b,r⟩
theorem iY (pos:Pos)(v:Ib):codeAmong pos [rawInt pos.line,rawInt pos.col,v]=some v:=by
 have:=codeAmong_snoc (c:=v) (pos:=pos) [] trivial rfl;simpa using this
theorem uF {params:Arguments}{pos:Pos}{clos:List (Str×HZ)}{Q:Ib->Ic->Prop}(I:Inv X Io σ H s)(T:TbOk P pos (X.env.qual++"<lambda>") H)
  (hcode:X.env.code=.ref c) (C:CodeHd X.base c P) (hbm:∃bm o,X.mg "__builtins__"=some (.ref bm)/\bm≠builtinsNs/\bm≠mainGlobals/\X.base.get? bm=some o/\o.cls=.type "module"/\o.dict=some builtinsNs/\o.data=.plain)
  (hdef:defaultsOf params X.env=([],[])) (hcl:closureFor scope X.env=pure clos)
  (h:∀(f c':HZ) (pm ctv:Ib) (H':Hp) (s':Ic),Inv X Io σ H' s'->FpOk X Io H' f->s'.heap.get? f=some (kla_obj "<lambda>" (X.env.qual++"<lambda>") params body scope clos pm c' ctv)->s'.heap.CodeRec (.ref c') (X.env.qual++"<lambda>")->
   (∃oc vs t,H' c'=some (.frz oc (.own c'))/\oc.data=.fields vs/\vs[1]?=some (.str (X.env.qual++"<lambda>") t))->TbOk P pos (X.env.qual++"<lambda>") H'->g9 P H H'->Q (.ref f) s'):
  wpAny (model X.prog X.w) X.A (eval (.Lambda params body scope pos) X.env) Q E s:=by
 refine kla_eval hdef ?_;obtain⟨ps,hP,T⟩:=T;have hPo:s.heap.get? P=some (tabObj ps):=I.hok P _ hP;have M:=I.ok.mod;have hg:s.heap.Ns mainGlobals X.mg:=M.glob.keeps I.bk;have hgP:mainGlobals≠P:=λ z=>by
  obtain⟨o,es,ep,e,hd,_⟩:=hg;rw [z,hPo] at e;cases e;cases hd
 have hb:s.heap.BuiltinsAt X.mg P:=by
  obtain⟨bm,o,b1,b2,b3,b4,b5,b6,b7⟩:=hbm;refine⟨bm,o,b1,b2,b3,λ z=>?_,I.bk _ _ b4,b5,b6,b7⟩;have:=I.bk _ _ b4;rw [z,hPo] at this;cases this;cases b5
 rcases T with rfl|⟨c',oc,vs,t,rfl,hc',d1,d2⟩
 ·refine kla_makeFunction (mg:=X.mg) hcl I.ok.glob hg hcode (C.keeps I.bk) hPo trivial rfl hgP hb λ c' ctv h' tk hx hge Ir hrec htb=>?_
  obtain⟨c2,oc,vs,t,e2,hoc,d1,d2⟩:=hrec;cases e2;have I1:=I.grown (t':=tk) hP hx hge hoc htb;have hn:H c'=none:=I.hok.fresh hge;have nPc:P≠c':=ai hP hn;have I2:=I1.kept (t':=tk) (h':=h'.push (kla_obj "<lambda>" (X.env.qual++"<lambda>") params body scope clos ((X.mg "__name__").getD .none) c' ctv)) λ b u e=>Bi _ e
  have hoc2:(h'.push (kla_obj "<lambda>" (X.env.qual++"<lambda>") params body scope clos ((X.mg "__name__").getD .none) c' ctv)).get? c'=some oc:=Bi _ hoc;refine h h'.objs.size c' _ ctv _ _ I2 (I1.fpOk (Bh _) (I1.hok.fresh (Bh _))) (BY _ rfl) ⟨c',oc,vs,t,rfl,hoc2,d1,d2⟩ ⟨oc,vs,t,ac,d1,d2⟩
   ⟨_,by rw [upd_ne nPc,ac],.inr ⟨c',oc,vs,t,Z6,ac,d1,d2⟩⟩ λ b o n e=>?_
  rw [upd_ne (ai e hn),upd_ne n];exact e
 ·have hoc:s.heap.get? c'=some oc:=(I.hok _ _ hc').1;refine kla_makeFunctionHit (cv:=.ref c') (mg:=X.mg) hcl I.ok.glob hg hcode (C.keeps I.bk) hPo (by simp [TriplesOk,rawInt]) (iY pos _) hb λ ctv h' tk hk hsz=>?_
  have I2:=I.kept (t':=tk) (h':=h'.push {cls:=.type "function",data:=.func (kla_fn "<lambda>" (X.env.qual++"<lambda>") params body scope clos ((X.mg "__name__").getD .none) (.ref c') ctv)}) λ b u e=>Bi _ (hk b u e)
  refine h h'.objs.size c' _ ctv _ _ I2 (I.fpOk hsz (I.hok.fresh hsz)) (BY _ rfl) ⟨c',oc,vs,t,rfl,Bi _ (hk _ _ hoc),d1,d2⟩ ⟨oc,vs,t,hc',d1,d2⟩
   ⟨_,hP,.inr ⟨c',oc,vs,t,rfl,hc',d1,d2⟩⟩ λ b o n e=>e
end
noncomputable def mv (X:Cx) (N:List Str) (qual:Str) (scope:Scope) (cl:List (Str×HZ)) (f:HZ) (cd:Ib) (A:Ii) (s:Ic) (H:Hp):Cx where
 prog:=X.prog
 w:=X.w
 K:=X.K
 mg:=X.mg
 base:=X.base
 A:=A.deeper (envX qual scope s.heap.objs.size f cd cl)
 N:=N
 s₀:=s
 H₀:=H
 env:=envX qual scope s.heap.objs.size f cd cl
 outer:=X.stack
 stack:=envX qual scope s.heap.objs.size f cd cl::X.stack
 ex:=[]
 calm:=true
 fn:=λ _=>false
 pn:=[]
 xe:=λ _ _=>False
structure LCaps (X:Cx)(y:Str)(Nc:List Str)(scope:Scope)(cl:List (Str×HZ))(js:List Nat):Prop where
 kind:scope.kind=.function
 co:scope.isCoroutine=false
 gen:scope.isGenerator=false
 nocell:∀x∈scope.names,x.2≠ .cell
 par:scope.names.lookup y=some .local
 clos:closureFor scope X.env=pure cl
 sub:∀x c,cl.lookup x=some c->X.env.cells.lookup x=some c
 has:∀x,(scope.names.lookup x=some .cell\/scope.names.lookup x=some .free)->∃c,cl.lookup x=some c
 len:js.length=Nc.length
 slot:∀(i:Nat) (x:Str) (j:Nat),Nc[i]?=some x->js[i]?=some j->X.N[j]?=some x/\X.env.scope.names.lookup x=some .cell/\scope.names.lookup x=some .free/\∀c,X.env.cells.lookup x=some c->cl.lookup x=some c
noncomputable def wg (js:List Nat) (σ:St) (v:V):St:=some v::js.map λ j=>(σ[j]?).getD none
section
variable {X:Cx}{Io:List (HZ × Il)}{σ:St}{H:Hp}{s:Ic}
theorem vT {cd:Ib}(I:Inv X Io σ H s)(C:LCaps X y Nc scope cl js)(r:RelV v u)
  (hn:h'.Ns s.heap.objs.size (λ z=>([(y,u)]:List (Str×Ib)).reverse.lookup z)) (hk:∀b o,s.heap.get? b=some o->h'.get? b=some o):
  Inv (mv X (y::Nc) qual scope cl f cd X.A.in1 s H) [] (wg js σ v) H {s with heap:=h',toks:=t'}:=by
 have e0:=I.env0.in1;have noA:∀b:HZ,b∉(mv X (y::Nc) qual scope cl f cd X.A.in1 s H).ex:=λ b z=>absurd (show b∈([]:List HZ) from z) Z6
 have sub:∀{x:Str} {c:HZ},(mv X (y::Nc) qual scope cl f cd X.A.in1 s H).env.cells.lookup x=some c->X.env.cells.lookup x=some c:=λ {x c} e=>C.sub x c e
 refine⟨⟨I.ok.mod,C.kind,rfl,rfl,Bh _,λ x z c e1 e2=>I.ok.inj x z c (sub e1) (sub e2),λ x hx=>C.has x hx,λ x c e _=>(by cases e),e0.qt,Around.frames_deeper e0.frames,.inr ⟨rfl,rfl⟩,
  λ b z=>absurd z (noA b),I.bs,e0.bsz,λ b _ _=>noA b,λ b z=>absurd z (noA b),e0.funs,e0.frf⟩,
  rfl,I.bare,Un.kept hk,⟨_,hn,λ i x v' h1 h2 h3=>?_⟩,λ x c e=>?_,I.hok.fresh (Bh _),λ x c e=>I.freeC x c (sub e),λ p hp=>absurd (show p∈([]:List (HZ×Il)) from hp) Z6,I.hok.kept hk,?_⟩
 ·cases i with
  |zero=>
   have h1':some y=some x:=h1;cases h1';have h2':some (some v)=some (some v'):=h2;cases h2';refine⟨u,r,.inl ⟨C.par,?_⟩⟩;show([(y,u)]:List (Str×Ib)).reverse.lookup y=some u;simp [List.lookup]
  |succ i=>
   have h1':Nc[i]?=some x:=h1;have h2':(js.map λ j=>(σ[j]?).getD none)[i]?=some (some v'):=h2;rw [B4] at h2';cases ej:js[i]? with
   |none=>rw [ej] at h2';cases h2'
   |some j=>
    rw [ej] at h2';have h3':(σ[j]?).getD none=some v':=BU h2';obtain⟨hj1,hk1,hk2,hc⟩:=C.slot i x j h1' ej;have hj2:σ[j]?=some (some v'):=by
     cases e:σ[j]? with
     |none=>rw [e] at h3';cases h3'
     |some w'=>rw [e] at h3';exact congrArg some h3'
    obtain⟨mo,hno,hl⟩:=I.loc;obtain⟨u',r',l⟩:=hl j x v' hj1 hj2 (.inr (.inl hk1));refine⟨u',r',?_⟩;rcases l with⟨q,_⟩|⟨_,c,ec,o,ho,hd⟩
    ·have q':X.env.scope.names.lookup x=some .local:=q;rw [hk1] at q';cases q'
    ·exact .inr ⟨.inr hk2,c,hc c ec,o,hk c o ho,hd⟩
 ·obtain⟨v',o,ho,hd⟩:=I.cell x c (sub e);exact⟨v',o,hk c o ho,hd⟩
 ·show(some v::js.map λ j=>(σ[j]?).getD none).length=(y::Nc).length;rw [Bq,A9,C.len,Bq]
theorem uE {params:Arguments}{pm ctv:Ib}{te:TE}
  (I:Inv X Io σ H s) (C:LCaps X y Nc scope cl js) (hr:Room (k+2) X.A) (hf:s.heap.get? f=some (kla_obj "<lambda>" qual params body scope cl pm c' ctv)) (hcd:s.heap.CodeRec (.ref c') qual)
  (hbind:∀u,bindArgs (kla_fn "<lambda>" qual params body scope cl pm (.ref c') ctv) ⟨[u],[]⟩=pure [(y,u)]) (r:RelV v u)
  (he:PE (mv X (y::Nc) qual scope cl f (.ref c') X.A.in1 s H) body te) (hq:te (wg js σ v) H Q):
  wpAny (model X.prog X.w) X.A.in1 (call (.ref f) [u]) (EP X Io σ Q) E s:=by
 have hd:X.A.in1.depth<recursionLimit:=(show Room (k+1) X.A.in1 from hr.in1).depth;refine Gp (kla_callFunE hd hf rfl C.co C.gen rfl hcd ?_);rw [hbind];refine BH (wpAny_newFunctionEnv C.nocell (λ z hz=>?_) (λ h₁ hns hsb=>⟨(I.ok.mod.nolimit.keeps I.bk).fresh _ hsb,?_⟩) C.kind)
 ·rw [Bx.mp hz];exact C.par
 show codeAny _ _ (.expr body (envX qual scope s.heap.objs.size f (.ref c') cl)) _ _;have hk₁:∀b o,s.heap.get? b=some o->h₁.get? b=some o:=λ b o e=>hsb.extBut b o (Ci (BD e)) (Bi _ e)
 refine kla_codeExpr (Dj (he [] _ (wg js σ v) H Q (vT I C r hns hk₁) hq) (λ w' s' hs=>?_) λ _ _ z=>False.elim z);obtain⟨v',H',J,r',q⟩:=hs;exact I.after ⟨v',H',J.os,J.bare,J.base,J.hok,r',q⟩
theorem FpOk.at {b:HZ}(f:FpOk X Io H b)(n:H' b=none):FpOk X Io H' b:=⟨n,f.2⟩
theorem rG {I S:HZ}{of:Il}(kf:Nat->Int)(hh:X.A.handled=none)(hq:SqL X.K H l xs)(hf:∀v,of.data≠ .cell v)
  (step:∀(pins':List (HZ×Il)) (s':Ic) (H':Hp) (i:Nat) (v:V) (u:Ib),Inv X pins' σ H' s'->s'.heap.get? f=some of->Same H H'->xs[i]?=some v->RelV v u->
   wpAny (model X.prog X.w) X.A.in1 (call (.ref f) [u]) (EP X pins' σ λ r H''=>r=.int (kf i)/\Same H' H'') (λ _ _=>False) s')
  (fin:∀(i:Nat) (v:V) (H':Hp),xs[i]?=some v->(∀j,j<xs.length->kf i≤kf j/\(j<i->kf i<kf j))->Same H H'->Q v H') (hSI:S≠I):
  ∀(r j i:Nat) (s':Ic) (H':Hp) (vb:V) (ub:Ib) (tb:Tok) (c:Nat),xs.length-(j+1)=r->j+1≤xs.length->Inv X Io σ H' s'->Same H H'->FpOk X Io H' I->FpOk X Io H' S->FpOk X Io H' f->f≠I->f≠S->
   s'.heap.get? f=some of->s'.heap.get? S=some (seqObj "list" #[ub,.int (kf i) tb] c)->s'.heap.IsListIter I l (j+1)->xs[i]?=some vb->RelV vb ub->i≤j->(∀j',j'≤j->kf i≤kf j'/\(j'<i->kf i<kf j'))->
   codeAny (model X.prog X.w) X.A (.builtin "min.loop" ⟨[.ref I,.ref f,.ref S],[]⟩) (λ r s''=>match r with| .ok (.ret v)=>EP X Io σ Q v s''| .ok _=>False| .error e=>E e s'') s':=by
 have hname:(toString "min"++toString ".loop":String)="min.loop":=Z9;intro r
 induction r with
 |zero=>
  intro j i s' H' vb ub tb c hr hj J sm fI fS ff nfI nfS hfo hSo hit hvb rb hij hbest;have hin:j+1=xs.length:=BI hj (Nat.sub_eq_zero_iff_le.1 hr);obtain⟨its,rv,pl,hz⟩:=J.list (sm.seq hq);have hil:=rv.length;have hlI:l≠I:=λ z=>by
   obtain⟨o,e,hc,n,hd⟩:=pl.isList;obtain⟨o2,e2,ec,ed⟩:=hit;rw [z,e2] at e;have e':=BU e;rw [<-e',ed] at hd;cases hd
  have W:=Walks.list (prog:=X.prog) (w:=X.w) (A:=X.A.in1) hh I l hlI its.toArray;have hsz:its.toArray.size=its.length:=BC ..;refine Ga Gk ?_;rw [GV DL _];show wpAny _ X.A.in1 (seqItems? (.ref S)>>= _) _ _ _;refine Bc (Fz hSo rfl ?_);show wpAny _ X.A.in1 (tryCatch (pyNext (.ref I)) _>>= _) _ _ _;refine Bc (FA (W.done _ _ _ ⟨by rw [hsz,<-hil,<-hin];exact hit,pl.isList⟩ λ h' tk' hk'=>?_));have J1:Inv X Io σ H' {s' with heap:=h',toks:=tk'}:=J.turned (it:=I) (λ b o n e=>hk' b o (by simpa using n) e) fI.1 fI.2.1 fI.2.2.2.1 fI.2.2.2.2.1 fI.2.2.2.2.2;have hS':=hk' S _ (by simpa using hSI) hSo;show wpAny _ X.A.in1 (updateSeq S (λ _=>#[])>>= _) _ _ _;refine Bc ?_;refine wpAny_updateSeq hS' rfl (Bc (Ha (BH ?_)));exact⟨vb,H',J1.turn fS,rb,fin i vb H' hvb (λ j' hj'=>hbest j' Z5) sm⟩
 |succ r ih=>
  intro j i s' H' vb ub tb c hr hj J sm fI fS ff nfI nfS hfo hSo hit hvb rb hij hbest;have Ir:j+1<xs.length:=Gy hr;obtain⟨its,rv,pl,hz⟩:=J.list (sm.seq hq);have hil:=rv.length;have hlI:l≠I:=λ z=>by
   obtain⟨o,e,hc,n,hd⟩:=pl.isList;obtain⟨o2,e2,ec,ed⟩:=hit;rw [z,e2] at e;have e':=BU e;rw [<-e',ed] at hd;cases hd
  have W:=Walks.list (prog:=X.prog) (w:=X.w) (A:=X.A.in1) hh I l hlI its.toArray;have hsz:its.toArray.size=its.length:=BC ..;refine Ga Gk ?_;rw [GV DL _];show wpAny _ X.A.in1 (seqItems? (.ref S)>>= _) _ _ _;refine Bc (Fz hSo rfl ?_);show wpAny _ X.A.in1 (tryCatch (pyNext (.ref I)) _>>= _) _ _ _;refine Bc (FA (W.item (j+1) _ _ _ (by rw [hsz];exact Bn Ir hil) ⟨hit,pl.isList⟩ λ u h' tk' hP hst' hk'=>?_));have hu:its[j+1]?=some u:=by simpa using hP
  obtain⟨oI',hoI',hoc,hod⟩:=id hst'.1;obtain⟨v,hv,rvu⟩:∃v,xs[j+1]?=some v/\RelV v u:=by
   obtain⟨u',e3,r3⟩:=rv.get (i:=j+1) (x:=xs[j+1]) (Bg Ir);rw [hu] at e3;cases e3;exact⟨_,Bg Ir,r3⟩
  have J1:Inv X Io σ H' {s' with heap:=h',toks:=tk'}:=J.turned (it:=I) (λ b o n e=>hk' b o (by simpa using n) e) fI.1 fI.2.1 fI.2.2.2.1 fI.2.2.2.2.1 fI.2.2.2.2.2;have hS':=hk' S _ (by simpa using hSI) hSo;have hf':=hk' f _ (by simpa using nfI) hfo;have Jp:=J1.pinned (fp:=[I,S,f]) (λ b hb=>by
   rcases BA.mp hb with rfl|hb
   ·exact fI
   ·rcases BA.mp hb with rfl|hb
    ·exact fS
    ·rw [Bx.mp hb];exact ff) (λ b hb=>by
   rcases BA.mp hb with rfl|hb
   ·exact⟨_,hoI',λ v z=>by rw [hod] at z;cases z⟩
   ·rcases BA.mp hb with rfl|hb
    ·exact⟨_,hS',dy⟩
    ·rw [Bx.mp hb];exact⟨_,hf',hf⟩)
  show wpAny _ X.A.in1 (tryCatch (holding [u] (call (.ref f) [u])) _>>= _) _ _ _;refine Bc (FA (Dh (Dj (step _ _ H' (j+1) v u Jp hf' sm hv rvu) (λ x s'' he=>?_) λ _ _ hF=>hF.elim)));obtain⟨rv',H2,J2p,rr,re,sm2⟩:=he;subst re;obtain⟨t2,rfl⟩:∃t,x=.int (kf (j+1)) t:=rr;have pin:∀{b:HZ} {o:Il},b∈ [I,S,f]->h'.get? b=some o->s''.heap.get? b=some o/\H2 b=none:=λ {b o} hb e=>by
   have:=J2p.pin (b,o) (BB _ (BB _ (bp hb e)));exact⟨this.1,this.2.1⟩
  obtain⟨gI,nI⟩:=pin Z6 hoI';obtain⟨gS,nS⟩:=pin Z6 hS';obtain⟨gf,nf⟩:=pin Z6 hf';have J2:=J2p.unpinned;have sm02:=sm.trans sm2;have hit2:s''.heap.IsListIter I l (j+1+1):=⟨oI',gI,hoc,hod⟩;show wpAny _ X.A.in1 (tryCatch (holding [u,.int (kf (j+1)) t2] (richCompare .Lt (.int (kf (j+1)) t2) (.int (kf i) tb)>>= _)) _>>= _) _ _ _;refine Bc (FA (Dh (Bc (CmpOf.ints_lt (prog:=X.prog) (w:=X.w) (A:=X.A.in1) (P:=λ i v=>∃t,v=.int (kf i) t) kf (λ i v h=>h) (j+1) i _ _ _ _ _ ⟨t2,rfl⟩ ⟨tb,rfl⟩ ?_))));refine Bc (Dh (EO ?_));refine Bc (Ha (BH ?_));by_cases hb':kf (j+1)<kf i
  ·obtain⟨c2,hc2⟩:∃c2,(s''.heap.update S (Obj.mapSeq λ _=>#[u,.int (kf (j+1)) t2])).get? S=some (seqObj "list" #[u,.int (kf (j+1)) t2] c2):=⟨_,F7 gS λ _=>#[u,.int (kf (j+1)) t2]⟩;simp only [hb',decide_true,if_true];refine Bc ?_;refine wpAny_updateSeq gS rfl (Bc (Ha ?_));rw [hname];have fS2:=fS.at nS;refine BH ⟨plainId_quiet DL _,ih (j+1) (j+1) _ H2 v u t2 c2 (congrArg Nat.pred hr) Ir (J2.turn fS2) sm02 (fI.at nI) fS2 (ff.at nf) nfI nfS ?_ hc2 ⟨oI',?_,hoc,hod⟩ hv rvu (Bh _) λ j' hj'=>?_⟩
   ·show(s''.heap.update S _).get? f=_;rw [DP _ _ _ _ nfS];exact gf
   ·show(s''.heap.update S _).get? I=_;rw [DP _ _ _ _ hSI.symm];exact gI
   ·by_cases e:j'=j+1
    ·subst e;exact⟨Int.le_refl _,λ h=>absurd h (D5 _)⟩
    ·have:=hbest j' Z5;exact⟨Int.le_trans (HW hb') this.1,λ _=>Int.lt_of_lt_of_le hb' this.1⟩
  ·simp only [hb',decide_false,Dk,FE];refine Bc (Ha ?_);rw [hname];refine BH ⟨plainId_quiet DL _,ih (j+1) i _ H2 vb ub tb c (congrArg Nat.pred hr) Ir J2 sm02 (fI.at nI) (fS.at nS) (ff.at nf) nfI nfS gf gS hit2 hvb rb (CV hij) λ j' hj'=>?_⟩;by_cases e:j'=j+1
   ·subst e;exact⟨Int.not_lt.mp hb',λ _=>Z5⟩
   ·exact hbest j' Z4
theorem vC {of:Il}(I:Inv X Io σ H s)(kf:Nat->Int)(hh:X.A.handled=none)(hq:SqL X.K H l xs)(hne:0<xs.length)(hf:∀v,of.data≠ .cell v)(ff:FpOk X Io H f)(hfo:s.heap.get? f=some of)
  (step:∀(pins':List (HZ×Il)) (s':Ic) (H':Hp) (i:Nat) (v:V) (u:Ib),Inv X pins' σ H' s'->s'.heap.get? f=some of->Same H H'->xs[i]?=some v->RelV v u->
   wpAny (model X.prog X.w) X.A.in1 (call (.ref f) [u]) (EP X pins' σ λ r H''=>r=.int (kf i)/\Same H' H'') (λ _ _=>False) s')
  (fin:∀(i:Nat) (v:V) (H':Hp),xs[i]?=some v->(∀j,j<xs.length->kf i≤kf j/\(j<i->kf i<kf j))->Same H H'->Q v H'):
  wpAny (model X.prog X.w) X.A (call (.builtin "min") [.ref l] [(Str.ofString "key",.ref f)]) (EP X Io σ Q) E s:=by
 have hname:(toString "min"++toString ".loop":String)="min.loop":=Z9;obtain⟨its,rv,pl,hz⟩:=I.list hq;have hil:=rv.length;have hll:l<s.heap.objs.size:=by obtain⟨o,e,_⟩:=pl.isList;exact BD e
 refine kmk_tree PySem.F.kind_min PySem.F.plain_min PySem.F.entry_min (kmk_min_key _ _) ?_;show wpAny _ X.A.in1 (Builtin.Builtins.bindParams "min" ["key","default"] 0 ⟨[],[(Str.ofString "key",.ref f)]⟩>>= _) _ _ s;refine Bc (wpAny_of_eq (show Builtin.Builtins.bindParams "min" ["key","default"] 0 ⟨[],[(Str.ofString "key",.ref f)]⟩=pure [some (.ref f),none] from rfl) ?_);refine Bc (BH ?_);refine Bc (wpAny_pyIter_list pl.isList ?_);refine Bc (wpAny_newList ?_ (BX _));rw [hname];have hS:(s.heap.push {cls:=.type "list_iterator",data:=.fields #[.ref l,.int 0 0]}).objs.size=s.heap.objs.size+1:=size_push' ..;have hlI:l≠s.heap.objs.size:=Ci hll;have hSI:(s.heap.push {cls:=.type "list_iterator",data:=.fields #[.ref l,.int 0 0]}).objs.size≠s.heap.objs.size:=by rw [hS];exact Gx (FK _)
 refine BH ⟨plainId_quiet DL _,?_⟩;have hk0:∀b o,s.heap.get? b=some o->((s.heap.push {cls:=.type "list_iterator",data:=.fields #[.ref l,.int 0 0]}).push (seqObj "list" #[] 0)).get? b=some o:=λ b o e=>Bi _ (Bi _ e)
 have gI:((s.heap.push {cls:=.type "list_iterator",data:=.fields #[.ref l,.int 0 0]}).push (seqObj "list" #[] 0)).get? s.heap.objs.size=some {cls:=.type "list_iterator",data:=.fields #[.ref l,.int 0 0]}:=
  Bi _ (BY _ rfl)
 have gS:((s.heap.push {cls:=.type "list_iterator",data:=.fields #[.ref l,.int 0 0]}).push (seqObj "list" #[] 0)).get? (s.heap.push {cls:=.type "list_iterator",data:=.fields #[.ref l,.int 0 0]}).objs.size=some (seqObj "list" #[] 0):=BY _ rfl;have fI:FpOk X Io H s.heap.objs.size:=I.fpOk (Bh _) (I.hok.fresh (Bh _));have fS:FpOk X Io H (s.heap.push {cls:=.type "list_iterator",data:=.fields #[.ref l,.int 0 0]}).objs.size:=I.fpOk (by rw [hS];exact B1 _ 1) (I.hok.fresh (by rw [hS];exact B1 _ 1));have nfI:f≠s.heap.objs.size:=Ci (BD hfo);have nfS:f≠(s.heap.push {cls:=.type "list_iterator",data:=.fields #[.ref l,.int 0 0]}).objs.size:=by rw [hS];exact Ci (Hv (BD hfo))
 have J0:Inv X Io σ H {s with heap:=(s.heap.push {cls:=.type "list_iterator",data:=.fields #[.ref l,.int 0 0]}).push (seqObj "list" #[] 0)}:=I.kept (t':=s.toks) hk0;have hl0:((s.heap.push {cls:=.type "list_iterator",data:=.fields #[.ref l,.int 0 0]}).push (seqObj "list" #[] 0)).IsList l its.toArray:=by
  obtain⟨o,e,r⟩:=pl.isList;exact⟨o,hk0 _ _ e,r⟩
 have hf0:=hk0 _ _ hfo;generalize (s.heap.push {cls:=.type "list_iterator",data:=.fields #[.ref l,.int 0 0]}).objs.size=S at*;generalize (s.heap.push {cls:=.type "list_iterator",data:=.fields #[.ref l,.int 0 0]}).push (seqObj "list" #[] 0)=h0 at*;generalize s.heap.objs.size=Ia at*;have W:=Walks.list (prog:=X.prog) (w:=X.w) (A:=X.A.in1) hh Ia l hlI its.toArray;have hsz:its.toArray.size=its.length:=BC ..;refine Ga Gk ?_;rw [GV DL _];show wpAny _ X.A.in1 (seqItems? (.ref _)>>= _) _ _ _;refine Bc (Fz gS rfl ?_);show wpAny _ X.A.in1 (tryCatch (pyNext (.ref Ia)) _>>= _) _ _ _;refine Bc (FA (W.item 0 _ _ _ (by rw [hsz];exact Bn hne hil) ⟨⟨_,gI,rfl,rfl⟩,hl0⟩ λ u h' tk' hP hst' hk'=>?_));have hu:its[0]?=some u:=by simpa using hP
 obtain⟨oI',hoI',hoc,hod⟩:=id hst'.1;obtain⟨v,hv,rvu⟩:∃v,xs[0]?=some v/\RelV v u:=by
  obtain⟨u',e3,r3⟩:=rv.get (i:=0) (x:=xs[0]) (Bg hne);rw [hu] at e3;cases e3;exact⟨_,Bg hne,r3⟩
 have J1:Inv X Io σ H {s with heap:=h',toks:=tk'}:=Inv.turned (s:={s with heap:=h0}) (it:=Ia) J0 (λ b o n e=>hk' b o (by simpa using n) e) fI.1 fI.2.1 fI.2.2.2.1 fI.2.2.2.2.1 fI.2.2.2.2.2;have hS':=hk' S _ (by simpa using hSI) gS;have hf':=hk' f _ (by simpa using nfI) hf0;have Jp:=J1.pinned (fp:=[Ia,S,f]) (λ b hb=>by
  rcases BA.mp hb with rfl|hb
  ·exact fI
  ·rcases BA.mp hb with rfl|hb
   ·exact fS
   ·rw [Bx.mp hb];exact ff) (λ b hb=>by
  rcases BA.mp hb with rfl|hb
  ·exact⟨_,hoI',λ v z=>by rw [hod] at z;cases z⟩
  ·rcases BA.mp hb with rfl|hb
   ·exact⟨_,hS',dy⟩
   ·rw [Bx.mp hb];exact⟨_,hf',hf⟩)
 show wpAny _ X.A.in1 (tryCatch (holding [u] (call (.ref f) [u])) _>>= _) _ _ _;refine Bc (FA (Dh (Dj (step _ _ H 0 v u Jp hf' (Same.refl H) hv rvu) (λ x s'' he=>?_) λ _ _ hF=>hF.elim)));obtain⟨rv',H2,J2p,rr,re,sm2⟩:=he;subst re;obtain⟨t2,rfl⟩:∃t,x=.int (kf 0) t:=rr;have pin:∀{b:HZ} {o:Il},b∈ [Ia,S,f]->h'.get? b=some o->s''.heap.get? b=some o/\H2 b=none:=λ {b o} hb e=>by
  have:=J2p.pin (b,o) (BB _ (BB _ (bp hb e)));exact⟨this.1,this.2.1⟩
 obtain⟨gI2,nI⟩:=pin Z6 hoI';obtain⟨gS2,nS⟩:=pin Z6 hS';obtain⟨gf2,nf⟩:=pin Z6 hf';have J2:=J2p.unpinned;obtain⟨c2,hc2⟩:∃c2,(s''.heap.update S (Obj.mapSeq λ _=>#[u,.int (kf 0) t2])).get? S=some (seqObj "list" #[u,.int (kf 0) t2] c2):=⟨_,F7 gS2 λ _=>#[u,.int (kf 0) t2]⟩;show wpAny _ X.A.in1 (updateSeq S (λ _=>#[u,.int (kf 0) t2])>>= _) _ _ _;refine Bc ?_;refine wpAny_updateSeq gS2 rfl ?_;rw [hname];have fS2:=fS.at nS;refine BH ⟨plainId_quiet DL _,rG kf hh hq hf step fin hSI _ 0 0 _ H2 v u t2 c2 rfl hne (J2.turn fS2) sm2 (fI.at nI) fS2 (ff.at nf) nfI nfS ?_ hc2 ⟨oI',?_,hoc,hod⟩ hv rvu (Bh _) λ j' hj'=>?_⟩
 ·show(s''.heap.update S _).get? f=_;rw [DP _ _ _ _ nfS];exact gf2
 ·show(s''.heap.update S _).get? Ia=_;rw [DP _ _ _ _ hSI.symm];exact gI2
 ·have e:j'=0:=Z5;subst e;exact⟨Int.le_refl _,λ h=>absurd h (D5 _)⟩
end
def zL (K:Frag)(P:HZ)(pos:Pos)(qual:Str)(js:List Nat)(te:TE)(t:TA):TE:=λ σ H Q=>t σ H λ zs H1=>∃(p:HZ) (xs:List V) (kf:Nat->Int),zs=[.ref p]/\SqL K H1 p xs/\0<xs.length/\TbOk P pos qual H1/\(∀c xs,SqL K H1 c xs->c≠P)/\
 ∀H2,g9 P H1 H2->TbOk P pos qual H2->
  (∀(i:Nat) (v:V) (H':Hp),xs[i]?=some v->Same H2 H'->te (wg js σ v) H' λ r H''=>r=.int (kf i)/\Same H' H'')/\
  ∀(i:Nat) (v:V) (H':Hp),xs[i]?=some v->(∀j,j<xs.length->kf i≤kf j/\(j<i->kf i<kf j))->Same H2 H'->Q v H'
section
variable {X:Cx}{k:Nat}{e body:Ik}{te:TE}{p kp pos lpos:Pos}{y:Str}{Nc:List Str}{scope:Scope}{params:Arguments}{cl:List (Str × HZ)}{js:List Nat}{P c:HZ}
theorem wr {t:TA}(hn:X.A.handled=none)(hr:Room (k+2) X.A)(hg:Gl X "min")(hm:X.mg "min"=none)(C:LCaps X y Nc scope cl js)(hcode:X.env.code=.ref c)(hC:CodeHd X.base c P)
  (hbm:∃bm o,X.mg "__builtins__"=some (.ref bm)/\bm≠builtinsNs/\bm≠mainGlobals/\X.base.get? bm=some o/\o.cls=.type "module"/\o.dict=some builtinsNs/\o.data=.plain)
  (hdef:defaultsOf params X.env=([],[])) (hbind:∀(pm cd ct u:Ib),bindArgs (kla_fn "<lambda>" (X.env.qual++"<lambda>") params body scope cl pm cd ct) ⟨[u],[]⟩=pure [(y,u)])
  (he:∀f c' s H,PE (mv X (y::Nc) (X.env.qual++"<lambda>") scope cl f (.ref c') X.A.in1 s H) body te) (ha:PA X [e] t)
  (hee:autoParam (backTo pos (starEach (e:: []) X.env)=(false,eval e X.env)::backTo pos (starEach [] X.env)) Z0) (hplain:autoParam ((backTo pos (starEach (e:: []) X.env)).any (·.1)=false) Z0)
  (hall:autoParam ((backToKw pos (keywordEach [⟨some "key",.Lambda params body scope lpos,kp⟩] X.env)).all (·.1.isSome)=true) Z0)
  (hkw:autoParam ((backToKw pos (keywordEach [⟨some "key",.Lambda params body scope lpos,kp⟩] X.env)).any (·.1.isNone)=false) Z0)
  (hfm:autoParam ((backToKw pos (keywordEach [⟨some "key",.Lambda params body scope lpos,kp⟩] X.env)).filterMap (·.1)=[("key":Str)]) Z0):
  PE X (.Call (.Name "min" p) [e] [⟨some "key",.Lambda params body scope lpos,kp⟩] pos) (zL X.K P lpos (X.env.qual++"<lambda>") js te t):=by
 intro Io s σ H Q I h;refine DJ (ld_blt I hg hm (show bootBuiltins "min"=some (.builtin "min") from Z8) ?_);refine PyProof.Rows.callWith_kw (e:=e) (rest:=[]) (thn (ha pos Io s σ H _ I h) λ us s1 z9=>?_) hee hplain hall hkw;obtain⟨vs,H1,I1,r1,q1⟩:=z9;obtain⟨l,xs,kf,rfl,hq,hne,hT,hnP,q⟩:=q1;obtain⟨u,rfl,ru⟩:=fk r1;obtain rfl:u=Value.ref l:=ru;refine kws_cons (uF I1 hT hcode hC hbm hdef C.clos λ f c' pm ctv H2 s2 I2 ff hfo hcd hrec hT2 sT=>kws_nil ?_);rw [hfm];obtain⟨qs,qf⟩:=q H2 sT hT2;show wpAny _ _ (call (.builtin "min") [.ref l] [(Str.ofString "key",.ref f)]) _ _ s2;have hq2:SqL X.K H2 l xs:=by
  rcases hq with hq|hq
  ·rcases hq with z|⟨o,z⟩
   ·exact .inl (.inl (sT _ _ (hnP l xs (.inl (.inl z))) z))
   ·exact .inl (.inr ⟨o,sT _ _ (hnP l xs (.inl (.inr ⟨o,z⟩))) z⟩)
  ·exact .inr hq
 refine vC I2 kf hn hq2 hne (λ v z=>by cases z) ff hfo (λ pins' s' H' i v u J hfo' sm hv ru=>?_) qf;obtain⟨oc,vs',t,hc,d1,d2⟩:=hrec;have hoc:s'.heap.get? c'=some oc:=(J.hok _ _ (sm _ _ hc)).1;exact uE J C hr hfo' ⟨c',oc,vs',t,rfl,hoc,d1,d2⟩ (λ u=>hbind _ _ _ u) ru (he f c' s' H') (qs i v H' hv sm)
end
section
variable {X:Cx}{o e:Ik}{es:List Ik}{m:Str}{apos pos:Pos}{k:Nat}{ta:TE}{t:TA}
theorem FnOk.weak {P:Ie}{CX:CXT}{ps:List Str}{sp':Sp}(F:FnOk P w K mg base CX k f fd ps sp)(h:∀vs H Q E,sp' vs H Q E->sp vs H Q E):FnOk P w K mg base CX k f fd ps sp':=
 ⟨λ vs H Q E z=>F.len vs H Q E (h _ _ _ _ z),λ A outer s H args us vs Q E hr e0 hb r z=>F.run A outer s H args us vs Q E hr e0 hb r (h _ _ _ _ z)⟩
def sL (P:Ie)(w:Ig)(K:Frag)(mg:Str->Option Ib)(base:Ij)(k:Nat)(m:Str)(ta:TE)(t:TA):TE:=λ σ H Q=>ta σ H λ x H1=>∃(a C dx:HZ) (fs:List (Str×V)) (f:HZ) (fd:Ih) (ps:List Str) (sp:Sp),x=.ref a/\H1 a=some (.ins C dx fs)/\fs.lookup m=none/\Cls K C/\Meth K C m f/\FnOk P w K mg base CX0 k f fd ps sp/\Binds K fd ps []/\
 t σ H1 λ vs H2=>sp (x::(vs++[])) H2 Q E0
theorem lI {P:Ie}{pl:Sem Bool}(hP:X.prog=P)(hw:X.w=w)(hK:X.K=K)(hmg:X.mg=mg)(hb0:X.base=base)(he:PE X o ta)(hr:Room k X.A)(ha:PA X (e::es) t)
    (hst:autoParam (starEach (e::es) X.env=(false,eval e X.env)::starEach es X.env) Z0) (hpl:autoParam ((backTo pos (starEach es X.env)).any (·.1)=false) Z0)
    (ht:autoParam (eval (.Call (.Attribute o m apos) (e::es) [] pos) X.env=(do
      let ov<-eval o X.env
      standAt apos.atName
      let(f,first)<-holding [ov] (getMethod ov m pl)
      callWith pos f first (backTo pos (starEach (e::es) X.env)) (backToKw pos (keywordEach [] X.env)))) Z0):
    PE X (.Call (.Attribute o m apos) (e::es) [] pos) (sL P w K mg base k m ta t):=by
  subst hP hw hK hmg hb0
  intro Io s σ H Q I h
  refine Ea (pl:=pl) (thn (he Io s σ H _ I h) λ u s1 z9=>?_) ht
  obtain⟨x,H1,I1,rx,a,C,dx,fs,f,fd,ps,sp,ex,ea,l,c,hm,F,hb,q⟩:=z9
  subst ex
  obtain rfl:u=Value.ref a:=rx
  refine cb I1 ea c hm l ?_
  refine Fg (first:=[.ref a]) (h₀:=X.base) I.ok.mod.kin hm.kp (thn (ha pos Io s1 σ H1 _ I1 q) λ us s2 ⟨vs,H2,I2,r,q2⟩=>⟨I2.kIn,?_⟩) hst hpl
  exact run_fn (us:=.ref a::us) (vs:=.ref a::vs) F hr hb .nil aw I2 (.cons rfl r) q2
end
abbrev BmAt (mg:Str->Option Ib)(h:Ij):Prop:=∃bm o,mg "__builtins__"=some (.ref bm)/\bm≠builtinsNs/\bm≠mainGlobals/\h.get? bm=some o/\o.cls=.type "module"/\o.dict=some builtinsNs/\o.data=.plain
theorem qo {P:Ie}{mb:Str->Option Ib}{fa a:HZ}{s₁:Ic}{vs:List Ib}{ns:List Int}
  (KX:K.In s₁.heap) (hns:s₁.heap.Ns mainGlobals mg) (hb:s₁.heap.Ns builtinsNs mb) (hbb:∀x:Str,x≠ "__name__"->mb x=bootBuiltins x) (hlim:s₁.heap.NoLimit) (hg:s₁.gens=#[])
  (ha:s₁.heap.get? a=some {cls:=.type "list",data:=.seq vs.toArray}) (hi:IntsAre vs ns) (hl:ns.length≤sizeLine) (hr:Room k callerA)
  (hT:s₁.heap.get? Tb=some (tabObj #[])) (hC:CodeHd s₁.heap c Tb) (hKT:K.lookup Tb=none) (hbm:BmAt mg s₁.heap)
  (F:∀base:Ij,K.In base->base.Ns mainGlobals mg->CodeHd base c Tb->BmAt mg base->FnOk P w K mg base CX0 k fa fd [x] sp) (hbind:∀(s:Ic) (u:Ib),BindsTo s fd ⟨[u],[]⟩ [(x,u)])
  (hsp:∀H:Hp,SqL K H a (ns.map V.int)->H Tb=some (.tbl #[])->a≠Tb->sp [.ref a] H (λ v _=>v=.bl true) λ _ _ _=>False):
  codeAny (model P w) callerA (.call (.ref fa) ⟨[.ref a],[]⟩) (λ r s'=>r=.ok (.ret (.bool true))/\OldK s₁.heap s'.heap/\s'.os=s₁.os/\AllBare s'.gens) s₁:=by
 have rv:=ql hi;have lenV:=hi.length;have naT:a≠Tb:=λ z=>by rw [z,hT] at ha;cases ha
 have core:∀H:Hp,(∀b,b≠Tb->H b=none\/∃ob xs,H b=some (.frz ob (.lst xs)))->H Tb=some (.tbl #[])->SqL K H a (ns.map V.int)->HOk P w H s₁.heap->(∀b,H b≠none->b=a\/b=Tb)->(H a≠none->K.lookup a=none)->
   codeAny (model P w) callerA (.call (.ref fa) ⟨[.ref a],[]⟩) (λ r s'=>r=.ok (.ret (.bool true))/\OldK s₁.heap s'.heap/\s'.os=s₁.os/\AllBare s'.gens) s₁:=by
  intro H hO hHT hS hok hA hK;have base_of:∀{b:HZ} {o:Il},s₁.heap.get? b=some o->H b=none->(hidT s₁.heap H).get? b=some o:=λ e n=>tK e n
  have noH:∀{b:HZ} {o:Il},s₁.heap.get? b=some o->(b=a->False)->(b=Tb->False)->H b=none:=λ {b o} e n1 n2=>by
   cases q:H b with
   |none=>rfl
   |some u=>
    rcases hA b (by rw [q];simp) with z|z
    ·exact(n1 z).elim
    ·exact(n2 z).elim
  have noA:∀{b:HZ} {o:Il} {es:Array DictEntry} {ep:Nat},s₁.heap.get? b=some o->o.data=.dict es ep->H b=none:=λ {b o es ep} e d=>noH e (λ z=>by
   subst z;rw [ha] at e;cases e;have d':Data.seq vs.toArray _=Data.dict es ep:=d;cases d') (λ z=>by
   subst z;rw [hT] at e;cases e;have d':Data.fields #[]=Data.dict es ep:=d;cases d')
  have nsK:∀{b:HZ} {m:Str->Option Ib},s₁.heap.Ns b m->(hidT s₁.heap H).Ns b m:=λ {b m} ⟨o,es,ep,e,d,r⟩=>⟨o,es,ep,base_of e (noA e d),d,r⟩
  have hKb:K.In (hidT s₁.heap H):=λ b o e=>base_of (KX b o e) (by
   cases q:H b with
   |none=>rfl
   |some u=>
    rcases hA b (by rw [q];simp) with z|z
    ·subst z;rw [hK (by rw [q];simp)] at e;cases e
    ·subst z;rw [hKT] at e;cases e)
  have hM:Mod K mg (hidT s₁.heap H):=⟨hKb,nsK hns,⟨mb,nsK hb,hbb⟩,let⟨mc,h1,h2⟩:=hlim;⟨mc,nsK h1,h2⟩⟩;have hCb:CodeHd (hidT s₁.heap H) c Tb:=by
   obtain⟨o,vs',file,tf,flags,tg,inF,text,tt,e1,r1,r2,r3,r4,r5,r6,r7,r8,hne⟩:=hC;exact⟨o,vs',file,tf,flags,tg,inF,text,tt,base_of e1 (noH e1 (λ z=>by
    subst z;rw [ha] at e1;cases e1;have r2':Data.seq vs.toArray _=Data.fields vs':=r2;cases r2') hne),r1,r2,r3,r4,r5,r6,r7,r8,hne⟩
  have hBb:BmAt mg (hidT s₁.heap H):=by
   obtain⟨bm,o,b1,b2,b3,b4,b5,b6,b7⟩:=hbm;exact⟨bm,o,b1,b2,b3,base_of b4 (noH b4 (λ z=>by
    subst z;rw [ha] at b4;cases b4;have b7':Data.seq vs.toArray _=Data.plain:=b7;cases b7') (λ z=>by
    subst z;rw [hT] at b4;cases b4;have b7':Data.fields #[]=Data.plain:=b7;cases b7')),b5,b6,b7⟩
  have e0:Env0 P w K mg (hidT s₁.heap H) callerA [] s₁ H:=⟨rfl,hM,λ b o e=>wT e,Bz (qh _ _),trivial,λ b hb=>absurd (show b∈([]:List HZ) from hb) Z6,hok,.of_eq hg,.inl rfl⟩;refine Gu ((F _ hKb (nsK hns) hCb hBb).run callerA [] s₁ H ⟨[.ref a],[]⟩ [.ref a] [.ref a] _ _ hr e0 (hbind s₁ (.ref a)) (.cons rfl .nil) (hsp H hS hHT naT)) λ r s' h=>?_
  cases r with
  |error e=>exact False.elim h
  |ok fl=>
   cases fl with
   |next=>exact False.elim h
   |brk=>exact False.elim h
   |cont=>exact False.elim h
   |ret u=>
    obtain⟨v,H',os,bare,un,hok',r',q⟩:=h;have q':v=.bl true:=q;subst q';obtain rfl:u=Value.bool true:=r';have keep:∀b o,b≠Tb->s₁.heap.get? b=some o->s'.heap.get? b=some o:=λ b o n e=>by
     cases q:H b with
     |none=>exact un.keep b o e q (by intro z;exact absurd (show b∈([]:List HZ) from z) Z6) Z6
     |some u=>
      rcases hO b n with z|⟨ob,xs,z⟩
      ·rw [q] at z;cases z
      ·have z2:=un.frzs b ob _ z;obtain⟨e1,_⟩:=hok b _ z;obtain⟨e2,_⟩:=hok' b _ z2;rw [e] at e1;cases e1;exact e2
    obtain⟨more,hm⟩:=un.tbls Tb #[] hHT;have hTo:s'.heap.get? Tb=some (tabObj (#[]++more)):=hok' Tb _ hm;refine⟨rfl,⟨λ b o e=>?_,λ b o e=>?_⟩,os,bare⟩
    ·by_cases z:b=Tb
     ·subst z;rw [hT] at e;cases e;exact .inr (.inl ⟨(hC.tab hT).isCodeTable,rfl,#[],more,rfl,hTo⟩)
     ·exact .inl (keep b o z e)
    ·by_cases z:b=Tb
     ·subst z;exact⟨_,hTo⟩
     ·exact⟨o,keep b o z e⟩
 cases hk:K.lookup a with
 |some o=>
  have e:=KX a o hk;rw [ha] at e;cases e;refine core (λ b=>if b=Tb then some (.tbl #[]) else none) (λ b n=>.inl (Bu n)) (BM rfl) (.inr ⟨_,vs.toArray,_,hk,rfl,rfl,rfl,by rw [BC,lenV];exact hl,by simpa using rv⟩) (λ b u z=>?_) (λ b z=>?_) λ z=>absurd (Bu naT) z
  ·by_cases hb:b=Tb
   ·have z':=(BM hb).symm.trans z;cases z';subst hb;exact hT
   ·have z':=(Bu hb).symm.trans z;cases z'
  ·by_cases hb:b=Tb
   ·exact .inr hb
   ·exact absurd (Bu hb) z
 |none=>
  refine core (λ b=>if b=Tb then some (.tbl #[]) else if b=a then some (.frz {cls:=.type "list",data:=.seq vs.toArray} (.lst (ns.map V.int))) else none) (λ b n=>?_) (BM rfl) (.inl (.inr ⟨{cls:=.type "list",data:=.seq vs.toArray},by show(if a=Tb then _ else _)=_;rw [Bu naT,BM rfl]⟩)) (λ b u z=>?_) (λ b z=>?_) λ _=>hk
  ·by_cases hb:b=a
   ·exact .inr ⟨_,_,(Bu n).trans (BM hb)⟩
   ·exact .inl ((Bu n).trans (Bu hb))
  ·by_cases hT':b=Tb
   ·have z':=(BM hT').symm.trans z;cases z';subst hT';exact hT
   ·by_cases hb:b=a
    ·have z':=((Bu hT').trans (BM hb)).symm.trans z;cases z';subst hb;exact⟨ha,by rw [A9];exact hl,vs,_,rv,ha⟩
    ·have z':=((Bu hT').trans (Bu hb)).symm.trans z;cases z'
  ·by_cases hT':b=Tb
   ·exact .inr hT'
   ·by_cases hb:b=a
    ·exact .inl hb
    ·exact absurd ((Bu hT').trans (Bu hb)) z
theorem walk_ofT {l:PySem.W.OpenLaw}{n:Nat}{q:Ie}{loose:List Str}{XP:(Str->Option Ib)->Ij->Prop}{YP:Ig->Ij->Prop}{d:DefRec}{K:Params->Frag}{sp:Ig->Sp}
  (hn:l.most=some n) (hn2:n≤sizeLine) (hdf:d.params.defaults=[]) (hr:Room k callerA)
  (hY:∀(w:Ig) (h:Ij),YP w h->(K w.params).In h/\h.get? Tb=some (tabObj #[])) (hC:∀w:Ig,codeHdIn (K w.params) c Tb=true) (hKT:∀w:Ig,(K w.params).lookup Tb=none)
  (F:∀(w:Ig) (mg:Str->Option Ib) (fa:HZ) (h:Ij),(K w.params).In h->h.Ns mainGlobals mg->mg d.name=some (.ref fa)->
   ∃fd:Ih,(∀(s:Ic) (u:Ib),BindsTo s fd ⟨[u],[]⟩ [(x,u)])/\
    ∀base:Ij,(K w.params).In base->base.Ns mainGlobals mg->CodeHd base c Tb->BmAt mg base->FnOk l.prog w (K w.params) mg base CX0 k fa fd [x] (sp w))
  (hsp:∀(w:Ig) (H:Hp) (a:HZ) (ns:List Int),ns.length≤n->SqL (K w.params) H a (ns.map V.int)->H Tb=some (.tbl #[])->a≠Tb->sp w [.ref a] H (λ v _=>v=.bl true) λ _ _ _=>False):
  PySem.W.WalkO q loose XP YP l.row.toRowW d [] (λ f vs=>PySem.call f vs):=by
 refine Att.attach_call hn hdf λ w s₀ s₁ mg mb fa o pm cd doc a vs ns G Y ho hd hcd hmg hobj hints hlen hg=>?_
 obtain⟨KX,hT⟩:=hY w _ Y;obtain⟨fd,hb,hF⟩:=F w mg fa _ KX G.T.g hmg;have hbm:BmAt mg s₁.heap:=by
  obtain⟨bm,ob,b1,b2,b3,b4,b5,b6⟩:=G.T.bmain;refine⟨bm,ob,b1,b2,λ z=>?_,b3,b4,b5,b6⟩;obtain⟨o,es,ep,e,hd,_⟩:=G.T.g;rw [z,e] at b3;cases b3;rw [hd] at b6;cases b6
 exact qo KX G.T.g G.T.b G.T.builtins G.T.nolimit hg hobj hints (Ba hlen hn2) hr hT (codeHd_of_K KX (hC w)) (hKT w) hbm hF hb λ H hS hHT na=>hsp w H a ns hlen hS hHT na
end L2
namespace L2
open PySem
variable {j k:Nat}{b x:Str}
theorem uw {a:Str}{i:Nat}(h1: [a,b][i]?=some x)(h2: [none,some k][i]?=some (some j)):x=b/\j=k:=by
 rcases i with _|_|i
 ·cases h2
 ·cases h1;cases h2;exact⟨rfl,rfl⟩
 ·cases h1
theorem slotsL {c:Str}{i l:Nat}(h1: [b,c][i]?=some x)(h2: [k,l][i]?=some j):(x=b/\j=k)\/(x=c/\j=l):=by
 rcases i with _|_|i
 ·cases h1;cases h2;exact .inl ⟨rfl,rfl⟩
 ·cases h1;cases h2;exact .inr ⟨rfl,rfl⟩
 ·cases h1
end L2
set_option maxHeartbeats 1000000
namespace K24
open PySem L2 QQ W17 W16 BP
seal PE PA PS PSs PT PW PG PI
variable {fd:Ih}{sp:Sp}{L W:List Nat}{C CW Tb a c f:HZ}{ps:List (Nat×Nat)}{q x:Str}{os:Nat->HZ}{k u:Nat}{p:Pos}{H:Hp}{dV:Ib}
def PtOf (u:Nat)(W T:List Nat)(ps:List (Nat×Nat)):Prop:=
 match u with
 |0=>ps=pf false T
 |1=>ps=pf true T
 |2=>∃Pp,Walk (W++T) W.length Pp (W++T).length/\ps=pP Pp
 |3=>∃(Pp:List Pc) (L:List Nat) (It:List W13.Itm) (b:Nat),Walk (W++T) W.length Pp (W++T).length/\ShL (Pp.map th) L/\W13.Walk L 0 0 It 272 b/\ps=W13.puts It++hP L Pp
 |_=>False
structure TW (T W:List Nat):Prop where
 tb:∀b∈T,b<256
 one:1≤T.length
 le:T.length≤64
 wb:∀b∈W,b<256
 wl:W.length≤192
theorem ShL.len {Q:List Nat}(h:ShL Q L):L.length=272:=by
 obtain⟨ln,_,rfl,_⟩:=h;simp
theorem PtOf.uniq {T:List Nat}{ps':List (Nat×Nat)}(h:PtOf u W T ps)(h':PtOf u W T ps'):ps=ps':=by
 rcases u with _|_|_|_|u
 ·exact Eq.trans h (DR h')
 ·exact Eq.trans h (DR h')
 ·obtain⟨P,w,e⟩:=h;obtain⟨P',w',e'⟩:=h';rw [e,e',dl w w']
 ·obtain⟨P,L,It,b,w,sl,wi,e⟩:=h;obtain⟨P',L',It',b',w',sl',wi',e'⟩:=h';have eP:=dl w w';subst eP;have eL:=sl.uniq sl';subst eL;have hl:=sl.len;rw [<-hl] at wi wi';rw [e,e',pL wi wi']
 ·exact False.elim h
theorem tJ {T:List Nat}(t:TW T W){Pp:List Pc}{It:List W13.Itm}{b:Nat}(w:Walk (W++T) W.length Pp (W++T).length)(sl:ShL (Pp.map th) L)(wi:W13.Walk L 0 0 It 272 b):
  GR W Pp/\tR W Pp=W++T/\Pp.length≤T.length/\1≤Pp.length/\TOk L Pp/\(∀x∈It,W13.StOk x)/\W13.decL 0 It=L:=by
 obtain⟨gr,hrun,hPl⟩:=d5 t.wb t.tb w;have h1:=t.one;have hP1:=pq w (by rw [Bb];exact EX h1);have tok:=sl.tok gr hP1;exact⟨gr,hrun,hPl,hP1,tok,W13.walk_ok tok.six wi,qc tok.len wi⟩
theorem PtOf.good {T:List Nat}(h:PtOf u W T ps)(t:TW T W):Good ps/\tots ps≤1712:=by
 have hl:=t.le;rcases u with _|_|_|_|u
 ·have h:ps=pf false T:=h;have:=pp false T;rw [h];exact⟨oP false hl t.tb,Z5⟩
 ·have h:ps=pf true T:=h;have:=pp true T;rw [h];exact⟨oP true hl t.tb,Z5⟩
 ·obtain⟨P,w,e⟩:=h;obtain⟨gr,hrun,hPl⟩:=d5 t.wb t.tb w;have:=jS P;rw [e];exact⟨oH gr,Z5⟩
 ·obtain⟨P,L,It,b,w,sl,wi,e⟩:=h;obtain⟨gr,hrun,hPl,hP1,tok,hIt,hdec⟩:=tJ t w sl wi;have h1:=jC tok.six P;have h2:=gN 0 hIt;rw [hdec,tok.len] at h2;rw [e];refine⟨λ q hq=>?_,by rw [aX];lia⟩;rcases Br.mp hq with z|z
  ·exact W13.puts_good hIt q z
  ·exact wq tok gr q z
 ·exact False.elim h
theorem wV (S:List Nat):∀(n p:Nat),S.length-p=n->p≤S.length->∃Pp,Walk S p Pp S.length:=by
 intro n
 induction n using Nat.strongRecOn with
 |ind n ih=>
  intro p hn hp;by_cases e:p=S.length
  ·exact⟨[],e⟩
  ·have Ir:p<S.length:=Cn hp e;have hz:=fV Ir;obtain⟨Pp,w⟩:=ih (S.length-(p+(pcAt S p).size)) Z5 (p+(pcAt S p).size) rfl hz.2;exact⟨pcAt S p::Pp,Ir,rfl,w⟩
theorem fb (W T:List Nat):∃Pp,Walk (W++T) W.length Pp (W++T).length:=wV _ _ _ rfl (by rw [Bb];lia)
def spT (u:Nat)(B:HZ):Sp:=λ vs H Q _=>∃(o p d a:HZ) (x:V) (T W:List Nat) (N T0:Nat),vs=[.ref o,.ref p,.ref a,x]/\BitsAt B H p d N T0/\T0≤1000/\H a=some (.lst (T.map vN))/\WinV H x W/\TW T W/\
 ∀(ps:List (Nat×Nat)) (H':Hp),PtOf u W T ps->BitsAt B H' p d (dJ ps N) (T0+tots ps)->(∀c o,H c=some o->c≠p->c≠d->H' c=some o)->Q .non H'
def spC (u:Nat)(C:HZ):Sp:=λ vs H Q _=>∃(o dx a:HZ) (x:V) (T W:List Nat),vs=[.ref o,.ref a,x]/\H o=some (.ins C dx [])/\H a=some (.lst (T.map vN))/\WinV H x W/\TW T W/\∀(ps:List (Nat×Nat)) (H':Hp),PtOf u W T ps->Same H H'->Q (vN (tots ps)) H'
def spN (u:Nat):Sp:=λ vs H Q _=>∃o:HZ,vs=[.ref o]/\Q (vN u) H
structure WayOk (P:Ie)(w:Ig)(K:Frag)(mg:Str->Option Ib)(base:Ij)(B D C:HZ)(u:Nat):Prop where
 cl:Cls K C
 num:∃f fd,Meth K C "number" f/\Binds K fd ["self"] []/\FnOk P w K mg base CX0 1 f fd ["self"] (spN u)
 tell:∃f fd,Meth K C "tell" f/\Binds K fd ["self","bits","text","before"] []/\FnOk P w K mg base CX0 35 f fd ["self","bits","text","before"] (spT u B)
 cost:∃f fd,Meth K C "cost" f/\Binds K fd ["self","text","before"] []/\FnOk P w K mg base CX0 36 f fd ["self","text","before"] (spC u C)
section
variable {B D G:HZ}
theorem scCost:FnScope ["self","text","before","bits"] ["self","text","before"] (ak sD):=scK Z8
theorem gB {fT:HZ}{fdT:Ih}(F:Fun K "cost" "Way.cost" sD f fd)(Z:Bts K mg B)(clW:Cls K C)(Te:Meth K C "tell" fT)(bT:Binds K fdT ["self","bits","text","before"] [])(GT:FnOk P w K mg base CX0 35 fT fdT ["self","bits","text","before"] (spT u B)):
  FnOk P w K mg base CX0 36 f fd ["self","text","before"] (spC u C):=by
 have X:=Z.R.X;obtain⟨_,_,FI,bI,MI⟩:=Z.init;obtain⟨_,_,Ma⟩:=Z.many;have TB:=Z.T;refine F.ok scCost λ Iq A outer st H vs Q E hr h=>?_
 intro _;obtain⟨o,dx,a,x,T,W,rfl,ho,ha,hx,tw,k⟩:=h;have hr2:Room 2 _:=hr.mono Z9;have hr1:Room 1 _:=hr.mono Z9;refine⟨_,ad (ar (i:=3) scCost.nd (cA MI (kU FI TB) hr2 Z7 Z.m bI .nil aw))
  (ad (aF (aV (pv 0) clW Te GT hr bT .nil aw (aa (pv 3) (aa (pv 1) (aa (pv 2) ae)))))
  (ag (ax (a8 (pv 3) TB.cl Ma.m (uW Ma.F TB X) hr1 Ma.b .nil aw)))),?_⟩
 refine seq_g λ R1 g1=>?_
 intro p dp np ndp nep;have hp0:(upd (upd H dp (.own p)) p (.ins B dp [])) p=some (.ins B dp []):=ac;have s0:Same H (upd (upd H dp (.own p)) p (.ins B dp [])):=λ c o e=>by
  rw [upd_ne (ai e np),upd_ne (ai e ndp)];exact e
 refine⟨p,dp,rfl,hp0,λ d H1 nd hB kp=>⟨rfl,g1 _ _ ?_⟩⟩;clear g1;have nd0:H d=none:=none_of s0 nd;have s1:Same H H1:=λ c o e=>kp _ _ (s0 _ _ e) (ai e np)
 clear s0 hp0 kp;refine seq_g λ _ g1=>⟨_,rfl,o,dx,_,rfl,s1 _ _ ho,rfl,_,rfl,_,rfl,_,rfl,o,p,d,a,x,T,W,0,0,rfl,hB,Z9,s1 _ _ ha,hx.same s1,tw,λ ps H2 hps hB2 kp2=>g1 _ _ ?_⟩
 clear g1;have s2:Same H H2:=λ c o e=>kp2 _ _ (s1 _ _ e) (ai e np) (ai e nd0)
 obtain⟨dx2,r2,k2,hp2⟩:=hB2.ob;refine⟨_,rfl,p,dx2,_,rfl,hp2,cY _ _ _,p,d,_,_,rfl,hB2,?_⟩;rw [C5];exact k ps _ hps s2
structure WC (K:Frag)(mg:Str->Option Ib)(C CW:HZ):Prop where
 cl:Cls K C
 mkb:MkB K C
 cost:∃f fd,Me K C "cost" "Way.cost" sD ["self","text","before"] f fd
structure Raw (K:Frag)(mg:Str->Option Ib)(C CW:HZ):Prop where
 W:WC K mg C CW
 m:mg "RawWay"=some (.ref C)
 num:∃f fd,Me K C "number" "RawWay.number" eu ["self"] f fd
 tell:∃f fd,Me K C "tell" "RawWay.tell" gY ["self","bits","text","before"] f fd
structure Run (K:Frag)(mg:Str->Option Ib)(C CW:HZ):Prop where
 W:WC K mg C CW
 m:mg "RunWay"=some (.ref C)
 num:∃f fd,Me K C "number" "RunWay.number" eI ["self"] f fd
 tell:∃f fd,Me K C "tell" "RunWay.tell" ie ["self","bits","text","before"] f fd
structure Cpy (K:Frag)(mg:Str->Option Ib)(C CW:HZ):Prop where
 W:WC K mg C CW
 m:mg "CopyWay"=some (.ref C)
 num:∃f fd,Me K C "number" "CopyWay.number" dX ["self"] f fd
 tell:∃f fd,Me K C "tell" "CopyWay.tell" f9 ["self","bits","text","before"] f fd
structure Shr (K:Frag)(mg:Str->Option Ib)(C CW:HZ):Prop where
 W:WC K mg C CW
 m:mg "ShareWay"=some (.ref C)
 num:∃f fd,Me K C "number" "ShareWay.number" gn ["self"] f fd
 tell:∃f fd,Me K C "tell" "ShareWay.tell" jO ["self","bits","text","before"] f fd
theorem pF {ps:List Str}(F:FnOk P w K mg base CX0 k f fd ps sp)
  (h:∀(o p d a:HZ) (x:V) (T W:List Nat) (N T0:Nat) (H:Hp) (Q:VK) (E:XK),BitsAt B H p d N T0->T0≤1000->H a=some (.lst (T.map vN))->WinV H x W->TW T W->
   (∀(ps:List (Nat×Nat)) (H':Hp),PtOf u W T ps->BitsAt B H' p d (dJ ps N) (T0+tots ps)->(∀c o,H c=some o->c≠p->c≠d->H' c=some o)->Q .non H')->sp [.ref o,.ref p,.ref a,x] H Q E):FnOk P w K mg base CX0 k f fd ps (spT u B):=by
 refine F.weak λ vs H Q E z=>?_
 obtain⟨o,p,d,a,x,T,W,N,T0,rfl,hB,h0,ha,hx,t,k⟩:=z;exact h o p d a x T W N T0 H Q E hB h0 ha hx t k
theorem xC (R0:Raw K mg C CW)(S0:Shw K mg B D G):WayOk P w K mg base B D C 0:=by
 obtain⟨_,_,N⟩:=R0.num;obtain⟨_,_,T⟩:=R0.tell;obtain⟨_,_,Co⟩:=R0.W.cost;have GT:FnOk P w K mg base CX0 35 _ _ ["self","bits","text","before"] (spT 0 B):=pF ((ou (P:=P) (w:=w) (base:=base) T.F S0.Y S0.Zb).mono (k:=35) Z9) λ o p d a x T W N T0 H Q E hB h0 ha hx t k=>
  ⟨o,p,d,a,x,T,W,N,T0,rfl,hB,h0,ha,t.tb,t.one,t.le,hx,t.wb,t.wl,λ H'=>k _ H' rfl⟩
 exact⟨R0.W.cl,⟨_,_,N.m,N.b,kB N.F⟩,⟨_,_,T.m,T.b,GT⟩,
  ⟨_,_,Co.m,Co.b,gB Co.F S0.Zb R0.W.cl T.m T.b GT⟩⟩
theorem x5 (R0:Run K mg C CW)(S0:Shw K mg B D G){fR:HZ}{fdR:Ih}(Ro:Fn K mg "runs_of" fG ["signs"] fR fdR):WayOk P w K mg base B D C 1:=by
 obtain⟨_,_,N⟩:=R0.num;obtain⟨_,_,T⟩:=R0.tell;obtain⟨_,_,Co⟩:=R0.W.cost;have GT:FnOk P w K mg base CX0 35 _ _ ["self","bits","text","before"] (spT 1 B):=pF ((mQ (P:=P) (w:=w) (base:=base) T.F Ro S0.Y S0.Zb).mono (k:=35) Z9) λ o p d a x T W N T0 H Q E hB h0 ha hx t k=>
  ⟨o,p,d,a,x,T,W,N,T0,rfl,hB,h0,ha,t.tb,t.one,t.le,hx,t.wb,t.wl,λ H'=>k _ H' rfl⟩
 exact⟨R0.W.cl,⟨_,_,N.m,N.b,kC N.F⟩,⟨_,_,T.m,T.b,GT⟩,
  ⟨_,_,Co.m,Co.b,gB Co.F S0.Zb R0.W.cl T.m T.b GT⟩⟩
theorem x4 (R0:Cpy K mg C CW)(S0:Shw K mg B D G):WayOk P w K mg base B D C 2:=by
 obtain⟨_,_,N⟩:=R0.num;obtain⟨_,_,T⟩:=R0.tell;obtain⟨_,_,Co⟩:=R0.W.cost;have GT:FnOk P w K mg base CX0 35 _ _ ["self","bits","text","before"] (spT 2 B):=pF ((qI (P:=P) (w:=w) (base:=base) T.F S0.Y S0.Zb).mono (k:=35) Z9) λ o p d a x T W N T0 H Q E hB h0 ha hx t k=>by
  obtain⟨Pp,hw⟩:=fb W T;exact⟨o,p,d,a,x,T,W,Pp,N,T0,rfl,hB,h0,ha,t.tb,t.one,t.le,hx,t.wb,t.wl,hw,λ H'=>k _ H' ⟨Pp,hw,rfl⟩⟩
 exact⟨R0.W.cl,⟨_,_,N.m,N.b,uu N.F⟩,⟨_,_,T.m,T.b,GT⟩,
  ⟨_,_,Co.m,Co.b,gB Co.F S0.Zb R0.W.cl T.m T.b GT⟩⟩
theorem yR (R0:Shr K mg C CW)(S0:Shw K mg B D G):WayOk P w K mg base B D C 3:=by
 obtain⟨_,_,N⟩:=R0.num;obtain⟨_,_,T⟩:=R0.tell;obtain⟨_,_,Co⟩:=R0.W.cost;have GT:FnOk P w K mg base CX0 35 _ _ ["self","bits","text","before"] (spT 3 B):=pF (rf (P:=P) (w:=w) (base:=base) T.F S0) λ o p d a x T W N T0 H Q E hB h0 ha hx t k=>by
  obtain⟨Pp,hw⟩:=fb W T;exact⟨o,p,d,a,x,T,W,Pp,N,T0,rfl,hB,h0,ha,t.tb,t.one,t.le,hx,t.wb,t.wl,hw,λ L It b H' sl wi=>k _ H' ⟨Pp,L,It,b,hw,sl,wi,rfl⟩⟩
 exact⟨R0.W.cl,⟨_,_,N.m,N.b,tj N.F⟩,⟨_,_,T.m,T.b,GT⟩,
  ⟨_,_,Co.m,Co.b,gB Co.F S0.Zb R0.W.cl T.m T.b GT⟩⟩
end
noncomputable def cst (u:Nat) (W T:List Nat):Nat:=open Classical in if h:∃ps,PtOf u W T ps then tots h.choose else 0
theorem ik {T:List Nat}(h:PtOf u W T ps):cst u W T=tots ps:=by
 have e:∃ps,PtOf u W T ps:=⟨ps,h⟩;unfold cst;rw [dif_pos e,PtOf.uniq e.choose_spec h]
theorem gx4 {i:Nat}(hi:i<4):([.ref (os 0),.ref (os 1),.ref (os 2),.ref (os 3)]:List V)[i]?=some (.ref (os i)):=by
 rcases i with _|_|_|_|i
 all_goals first|rfl|lia
theorem ix4 {i:Nat}{v:V}(e:([.ref (os 0),.ref (os 1),.ref (os 2),.ref (os 3)]:List V)[i]?=some v):i<4/\v=.ref (os i):=by
 have hi:i<4:=(Bo.mp e).1;rw [gx4 hi] at e;exact⟨hi,(BU e).symm⟩
noncomputable def cs (C0 C1 C2 C3:HZ):Nat->HZ
 |0=>C0
 |1=>C1
 |2=>C2
 |_=>C3
structure Wal (K:Frag)(mg:Str->Option Ib)(B D C CW C0 C1 C2 C3:HZ):Prop where
 S0:Shw K mg B D C
 runsof:∃f fd,Fn K mg "runs_of" fG ["signs"] f fd
 raw:Raw K mg C0 CW
 run:Run K mg C1 CW
 cpy:Cpy K mg C2 CW
 shr:Shr K mg C3 CW
 ways:∃f fd,Fn K mg "ways" uH [] f fd
section
variable {B D G CW C0 C1 C2 C3:HZ}
theorem Wal.ok (Z:Wal K mg B D G CW C0 C1 C2 C3){i:Nat}(hi:i<4):WayOk P w K mg base B D (cs C0 C1 C2 C3 i) i:=by
 obtain⟨_,_,Ro⟩:=Z.runsof
 match i,hi with
 |0,_=>exact xC Z.raw Z.S0
 |1,_=>exact x5 Z.run Z.S0 Ro
 |2,_=>exact x4 Z.cpy Z.S0
 |3,_=>exact yR Z.shr Z.S0
theorem bR {p d:HZ}(np:H p=none)(nd:H d=none):Same H (upd (upd H d (.own p)) p (.ins C d [])):=λ c o e=>by
 rw [upd_ne (ai e np),upd_ne (ai e nd)];exact e
def xJ (C:Nat->HZ):Sp:=λ vs H Q _=>vs=[]/\∀(l:HZ) (os ds:Nat->HZ) (H':Hp),H l=none->(∀i,i<4->H (os i)=none)->H' l=some (.lst [.ref (os 0),.ref (os 1),.ref (os 2),.ref (os 3)])->(∀i,i<4->H' (os i)=some (.ins (C i) (ds i) []))->Same H H'->Q (.ref l) H'
theorem yf:FnScope [] [] (ak uH):=scK Z8
theorem vB (F:Fun K "ways" "ways" uH f fd)(Z:Wal K mg B D G CW C0 C1 C2 C3):FnOk P w K mg base CX0 1 f fd [] (xJ (cs C0 C1 C2 C3)):=by
 refine F.ok yf λ Iq A outer st H vs Q E hr h=>?_
 intro _;obtain⟨rfl,k⟩:=h;refine⟨_,ag (ax (aE (aa (fi Z.raw.W.mkb Z7 Z.raw.m) (aa (fi Z.run.W.mkb Z7 Z.run.m) (aa (fi Z.cpy.W.mkb Z7 Z.cpy.m) (aa (fi Z.shr.W.mkb Z7 Z.shr.m) ae)))))),?_⟩;intro p0 d0 n0 m0 e0 p1 d1 n1 m1 e1 p2 d2 n2 m2 e2 p3 d3 n3 m3 e3;have s0:=bR (C:=C0) n0 m0;have g0:(upd (upd H d0 (.own p0)) p0 (.ins C0 d0 [])) p0=_:=ac;generalize upd (upd H d0 (.own p0)) p0 (.ins C0 d0 [])=H1 at*;have s1:=bR (C:=C1) n1 m1;have g1:(upd (upd H1 d1 (.own p1)) p1 (.ins C1 d1 [])) p1=_:=ac;generalize upd (upd H1 d1 (.own p1)) p1 (.ins C1 d1 [])=H2 at*;have s2:=bR (C:=C2) n2 m2;have g2:(upd (upd H2 d2 (.own p2)) p2 (.ins C2 d2 [])) p2=_:=ac;generalize upd (upd H2 d2 (.own p2)) p2 (.ins C2 d2 [])=H3 at*;have s3:=bR (C:=C3) n3 m3;have g3:(upd (upd H3 d3 (.own p3)) p3 (.ins C3 d3 [])) p3=_:=ac;generalize upd (upd H3 d3 (.own p3)) p3 (.ins C3 d3 [])=H4 at*;have s02:Same H H2:=λ c o e=>s1 _ _ (s0 _ _ e)
 have s03:Same H H3:=λ c o e=>s2 _ _ (s02 _ _ e)
 have s04:Same H H4:=λ c o e=>s3 _ _ (s03 _ _ e)
 have s14:Same H1 H4:=λ c o e=>s3 _ _ (s2 _ _ (s1 _ _ e))
 have s24:Same H2 H4:=λ c o e=>s3 _ _ (s2 _ _ e)
 refine⟨by show(4:Nat)≤sizeLine;decide,λ l nl=>?_⟩;have s5:Same H4 (upd H4 l (.lst [.ref p0,.ref p1,.ref p2,.ref p3])):=λ c o e=>(upd_ne (ai e nl)).trans e
 refine k l (cs p0 p1 p2 p3) (cs d0 d1 d2 d3) _ (none_of s04 nl) (λ i hi=>?_) ac (λ i hi=>?_) (λ c o e=>s5 _ _ (s04 _ _ e))
 ·match i,hi with
  |0,_=>exact n0
  |1,_=>exact none_of s0 n1
  |2,_=>exact none_of s02 n2
  |3,_=>exact none_of s03 n3
 ·match i,hi with
  |0,_=>exact s5 _ _ (s14 _ _ g0)
  |1,_=>exact s5 _ _ (s24 _ _ g1)
  |2,_=>exact s5 _ _ (s3 _ _ g2)
  |3,_=>exact s5 _ _ g3
theorem lookup_two {y z:Str}{b:HZ}(h:List.lookup x [(y,a),(z,b)]=some c):(x=y/\c=a)\/(x=z/\c=b):=by
 unfold List.lookup at h
 split at h
 ·rename_i e
  cases h;exact .inl ⟨by simpa using e,rfl⟩
 ·unfold List.lookup at h
  split at h
  ·rename_i e
   cases h;exact .inr ⟨by simpa using e,rfl⟩
  ·cases h
structure FunC (K:Frag)(x qual:Str)(st:Im)(dV:Ib)(c f:HZ)(fd:Ih):Prop where
 ex:∃(oc:Ib) (od:Option HZ) (kV doc pm:Ib) (an:Option HZ) (ct:Ib) (osl:Array (Option Ib)),
  fd=fnOf x qual (aT st) (aP st) (ak st) dV kV doc pm an (.ref c) ct/\K.lookup f=some ⟨oc,od,.func fd,osl⟩/\codeIn K (.ref c) qual=true
 kp:keepIn K (.ref f)=true
theorem FunC.ok {qual:Str}{st:Im}{N ps:List Str}(F:FunC K x qual st dV c f fd)(S:FnScope N ps (ak st))
  (hb:∀(A:Ii) (outer:List Env) (s:Ic) (H:Hp) (vs:List V) (Q:VK) (E:XK),Room k (A.deeper (PyProof.Rows.envOfC qual (ak st) s.heap.objs.size f (.ref c)))->sp vs H Q E->
   let X:=(cxOf CX0 P w K mg base N qual (ak st) f (.ref c) A outer s H E).nox;∃t,PSs X (aP st) t/\t {nx:=λ _ H'=>Q .non H',rt:=Q} (start N vs) H) (len:autoParam (∀vs H Q E,sp vs H Q E->vs.length=ps.length) ZV):FnOk P w K mg base CX0 (k+1) f fd ps sp:=by
 obtain⟨oc,od,kV,doc,pm,an,ct,osl,rfl,lk,hcd⟩:=F.ex;refine oC lk hcd S len λ A outer s H vs Q E hr hsp=>?_
 obtain⟨t,h,q⟩:=hb A outer s H vs Q E hr hsp;exact⟨t,h.nox,q⟩
abbrev xN:Pos:=⟨471,27,471,61⟩
abbrev TbB (Tb:HZ)(H:Hp):Prop:=TbOk Tb xN ("best_way.<locals>."++"<lambda>") H
theorem _root_.L2.TbOk.ne {o:HO}(h:TbOk Tb p q H)(e:H a=some o)(hn:∀ps,o≠ .tbl ps):a≠Tb:=by
 rintro rfl;obtain⟨ps,e',_⟩:=h;rw [e] at e';exact hn ps (BU e')
theorem _root_.L2.TbOk.sq {xs:List V}(h:TbOk Tb p q H)(hK:K.lookup Tb=none)(e:SqL K H a xs):a≠Tb:=by
 rcases e with(e|⟨o,e⟩)|⟨o,its,n,e,_⟩
 ·exact h.ne e (by intro ps z;cases z)
 ·exact h.ne e (by intro ps z;cases z)
 ·rintro rfl;rw [hK] at e;cases e
theorem WinV.sameT {H':Hp}{x:V}(h:WinV H x W)(t:TbB Tb H)(s:g9 Tb H H'):WinV H' x W:=by
 rcases h with h|⟨a,e,h⟩
 ·exact .inl h
 ·exact .inr ⟨a,e,s _ _ (t.ne h (by intro ps z;cases z)) h⟩
def yS (Tb:HZ)(C:Nat->HZ):Sp:=λ vs H Q _=>∃(a:HZ) (x:V) (T W:List Nat),vs=[.ref a,x]/\H a=some (.lst (T.map vN))/\WinV H x W/\TW T W/\TbB Tb H/\
 ∀(i:Nat) (o dx:HZ) (H':Hp),i<4->H o=none->H' o=some (.ins (C i) dx [])->(∀j,j<4->cst i W T≤cst j W T/\(j<i->cst i W T<cst j W T))->g9 Tb H H'->TbB Tb H'->Q (.ref o) H'
theorem xp:FnScope ["text","before"] ["text","before"] (ak gU):=scK Z8
theorem wC (F:FunC K "best_way" "best_way" gU dV c f fd)(Z:Wal K mg B D G CW C0 C1 C2 C3)(hm:mg "min"=none)(hC:CodeHd base c Tb)(hB:BmAt mg base)(hK:K.lookup Tb=none):
  FnOk P w K mg base CX0 39 f fd ["text","before"] (yS Tb (cs C0 C1 C2 C3)):=by
 obtain⟨_,_,Wy⟩:=Z.ways;refine F.ok xp λ A outer st H vs Q E hr h=>?_
 intro _;obtain⟨a,x,T,W,rfl,ha,hx,tw,hT,k⟩:=h;have hr1:Room 1 _:=hr.mono Z9;have hn:=hr.hd Z9;refine⟨_,ag (ax (wr (k:=36) (y:="way") (Nc:=["text","before"]) (js:=[0,1]) (cl:=[("text",st.heap.objs.size+1),("before",st.heap.objs.size+1+1)]) (P:=Tb) (c:=c) hn hr Z7 hm
  ⟨rfl,rfl,rfl,Z8,rfl,Z7,λ x c h=>?c0,λ x hx=>?c1,rfl,λ i x j h1 h2=>?c2⟩ rfl hC hB Z7 (λ pm cd ct u=>Z7)
  (λ f' c' s H=>lI (P:=P) (w:=w) (K:=K) (mg:=mg) (base:=base) (k:=36) rfl rfl rfl rfl rfl (pv 0) (hr.in1.deeper _) (aa (pv 1) (aa (pv 2) ae)))
  (aa (rN (vB Wy.F Z) hr1 Z7 Wy.m Wy.F.kp Wy.b .nil aw) ae))),?_⟩
 case c0=>
  rcases lookup_two h with⟨rfl,rfl⟩|⟨rfl,rfl⟩<;>rfl
 case c1=>
  rcases hx with hx|hx
  ·have m':(x,NameKind.cell)∈([("way",.local),("before",.free),("text",.free)]:List (Str×NameKind)):=Dd hx;simp at m'
  ·have m':(x,NameKind.free)∈([("way",.local),("before",.free),("text",.free)]:List (Str×NameKind)):=Dd hx;have e:x="before"\/x="text":=by simpa using m'
   rcases e with rfl|rfl<;>exact⟨_,rfl⟩
 case c2=>rcases slotsL h1 h2 with⟨rfl,rfl⟩|⟨rfl,rfl⟩<;>exact⟨rfl,rfl,rfl,λ c h=>h⟩
 refine⟨rfl,λ l os ds H1 nl no hl ho s1=>⟨l,_,λ i=>((cst i W T:Nat):Int),rfl,.inl (.inl hl),Nat.zero_lt_succ _,hT.same s1,λ c xs h=>(hT.same s1).sq hK h,λ H2 sT hT2=>?_⟩⟩;have hT1:=hT.same s1;have ho2:∀i,i<4->H2 (os i)=some (.ins (cs C0 C1 C2 C3 i) (ds i) []):=λ i hi=>sT _ _ (hT1.ne (ho i hi) (by intro ps z;cases z)) (ho i hi)
 refine⟨λ i v H' hv sm=>?_,λ i v H' hv hmin sm=>?_⟩
 ·obtain⟨hi,rfl⟩:=ix4 hv;have WK:=Z.ok (P:=P) (w:=w) (base:=base) hi;obtain⟨fc,fdc,mc,bc,Gc⟩:=WK.cost;refine⟨_,rfl,os i,_,ds i,[],fc,fdc,_,_,rfl,sm _ _ (ho2 i hi),rfl,WK.cl,mc,Gc,bc,_,rfl,_,rfl,os i,ds i,a,x,T,W,rfl,sm _ _ (ho2 i hi),sm _ _ (sT _ _ (hT1.ne (s1 _ _ ha) (by intro ps z;cases z)) (s1 _ _ ha)),((hx.same s1).sameT hT1 sT).same sm,tw,λ ps H'' hps sm2=>⟨?_,sm2⟩⟩;show vN (tots ps)=vN (cst i W T);rw [ik hps]
 ·obtain⟨hi,rfl⟩:=ix4 hv;refine k i (os i) (ds i) H' hi (no i hi) (sm _ _ (ho2 i hi)) (λ j hj=>?_) (λ c o n e=>sm _ _ (sT _ _ n (s1 _ _ e))) (hT2.same sm);obtain⟨z1,z2⟩:=hmin j hj;exact⟨Hk.mp z1,λ hji=>EC.mp (z2 hji)⟩
end
end K24
namespace CK
variable {n p s w:Nat}
noncomputable def T (w p s:Nat):Nat:=((s*2)%2^w)^^^(if s.testBit (w-1) then p else 0)
theorem uL (a b:Nat):(a^^^b)*2=(a*2)^^^(b*2):=by
 have h:= @Ho 1 a b;rw [E5,E5,E5] at h;simpa using h
theorem zj (w p a b:Nat):T w p (a^^^b)=T w p a^^^T w p b:=by
 unfold T;rw [uL,Nat.xor_mod_two_pow,HQ];cases ha:a.testBit (w-1)<;>cases hb:b.testBit (w-1)
 ·simp
 ·simp [DM]
 ·simp;rw [DM,FT (b*2%2^w),<-DM]
 ·simp;rw [DM (a*2%2^w),FT p,DM (b*2%2^w),Nat.xor_self,Nat.xor_zero]
theorem yX (hp:p<2^w):T w p s<2^w:=by
 unfold T;refine Hj (DK _ (DG Z9)) ?_
 split
 ·exact hp
 ·exact DG Z9
theorem Az (h:s*2<2^w):T w p s=s*2:=by
 unfold T;have hb:s.testBit (w-1)=false:=by
  refine Gd ?_;cases w with
  |zero=>simp at h;lia
  |succ w=>rw [Df] at h;simp;exact Nat.lt_of_mul_lt_mul_right h
 rw [hb,FG h];simp
noncomputable def Tn (w p:Nat):Nat->Nat->Nat
 |0,s=>s
 |n+1,s=>T w p (Tn w p n s)
theorem zd (w p n a b:Nat):Tn w p n (a^^^b)=Tn w p n a^^^Tn w p n b:=by
 induction n with
 |zero=>rfl
 |succ n ih=>show T w p (Tn w p n (a^^^b))=_;rw [ih,zj];rfl
theorem Tn_lt (hp:p<2^w)(hs:s<2^w):Tn w p n s<2^w:=by
 cases n with
 |zero=>exact hs
 |succ n=>exact yX hp
theorem Af (h:s*2^n<2^w):Tn w p n s=s*2^n:=by
 induction n with
 |zero=>simp [Tn]
 |succ n ih=>
  have h':s*2^n*2<2^w:=by rw [Df,<-CN] at h;exact h
  show T w p (Tn w p n s)=_;rw [ih (Nat.lt_of_add_left_lt h'),Az h',Df,CN]
noncomputable def F (w p:Nat):Nat->Nat->Nat->Nat
 |0,s,_=>s
 |m+1,s,V=>T w p (F w p m s (V/2)^^^((V%2)*2^(w-1)))
theorem df (a b k:Nat)(hb:b<2^k):(a*2^k)^^^b=a*2^k+b:=by
 have h:=Nat.two_pow_add_eq_or_of_lt hb a;rw [Dt] at h;rw [h];apply Nat.eq_of_testBit_eq;intro i;rw [HQ,Nat.testBit_or,Nat.testBit_mul_two_pow];by_cases hi:i<k
 ·have:¬k≤i:=HH hi;simp [this]
 ·have hbi:b.testBit i=false:=Gd (Bf hb (Du Z9 (Cv hi)));simp [hbi]
theorem dg (a b k:Nat):(a*2^k)^^^(b*2^k)=(a^^^b)*2^k:=by
 have h:= @Ho k a b;rw [E5,E5,E5] at h;exact h.symm
theorem Ac:∀(m:Nat) (s V:Nat),m≤w->F w p m s V=Tn w p m (s^^^((V%2^m)*2^(w-m)))
 |0,s,V,_=>by simp [F,Tn,Nat.mod_one]
 |m+1,s,V,h=>by
  show T w p (F w p m s (V/2)^^^((V%2)*2^(w-1)))=T w p (Tn w p m _);rw [Ac m s (V/2) (Dp h)];have e1:(V%2)*2^(w-1)=Tn w p m ((V%2)*2^(w-(m+1))):=by
   have e:(V%2)*2^(w-(m+1))*2^m=(V%2)*2^(w-1):=by rw [CN,<-Ee];congr 2;lia
   rw [Af,e];rw [e];have h2:V%2<2:=DK _ Z9;have h3:2^w=2*2^(w-1):=by rw [<-FX];congr 1;lia
   rw [h3];exact(EM (DG Z9)).mpr h2
  rw [e1,<-zd,DM];congr 3;have e2:2^(w-m)=2*2^(w-(m+1)):=by rw [<-FX];congr 1;lia
  rw [e2,<-CN,dg];congr 1;have h2:V%2<2^1:=DK _ Z9;have:=df (V/2%2^m) (V%2) 1 h2;rw [Nat.pow_one] at this;rw [this,Df,Dt (2^m) 2,Nat.mod_mul];lia
theorem rK (w p j:Nat):∀(m s V:Nat),F w p (j+m) s V=F w p m (F w p j s (V/2^m)) V
 |0,s,V=>by simp [F]
 |m+1,s,V=>by
  show T w p (F w p (j+m) s (V/2)^^^_)=T w p (F w p m (F w p j s (V/2^(m+1))) (V/2)^^^_);rw [rK w p j m s (V/2),Nat.div_div_eq_div_mul,<-FX]
def B (w p s b:Nat):Nat:=Tn w p 8 (s^^^(b*2^(w-8)))
def G (w p:Nat):Nat->Nat->Nat->Nat
 |0,s,_=>s
 |n+1,s,V=>B w p (G w p n s (V/256)) (V%256)
theorem G_F (hw:8≤w):∀(n s V:Nat),G w p n s V=F w p (8*n) s V
 |0,s,V=>rfl
 |n+1,s,V=>by
  show B w p (G w p n s (V/256)) (V%256)=_;rw [G_F hw n s (V/256),Nat.mul_succ,rK,Ac 8 _ _ hw];rfl
theorem G_lt {V:Nat}(hp:p<2^w)(hs:s<2^w):G w p n s V<2^w:=by
 cases n with
 |zero=>exact hs
 |succ n=>exact yX hp
end CK
set_option maxHeartbeats 4000000
namespace K24.Ck
open PySem L2 QQ BP
seal PE PA PS PSs PT PW PG PI
variable {f:HZ}{fd fdW:Ih}{n p s w:Nat}{dV:Ib}{R:List Nat}
abbrev pC:Im:=top 36
abbrev jM:Im:=aO (top 37) 0
abbrev yr:Im:=aO (top 37) 1
abbrev mX:Im:=aO (top 37) 2
abbrev hJ:Im:=top 38
structure Txt (K:Frag)(mg:Str->Option Ib):Prop where
 R:Rows K mg
 tabA:∃d,mg "ALL_ONES"=some (.ref d)/\TabK K d 255 65535
 tabL:∃d,mg "LOWER_BITS"=some (.ref d)/\TabK K d 29 45
theorem kD (a:Nat):∀b,a+b=(a^^^b)+2*(a&&& b):=by
 induction a using Nat.strongRecOn with
 |_ a ih=>
  intro b;by_cases h0:a=0
  ·subst h0;simp
  ·have h:=ih (a/2) (Nat.bitwise_rec_lemma h0) (b/2);have e1:(a^^^b)/2=a/2^^^b/2:=Nat.xor_div_two_pow (n:=1);have e2:(a&&& b)/2=a/2&&& b/2:=Nat.and_div_two_pow (n:=1);have m1:(a^^^b)%2=a%2^^^b%2:=Nat.xor_mod_two_pow (n:=1);have m2:(a&&& b)%2=a%2&&& b%2:=Nat.and_mod_two_pow (n:=1);have d1:=FV (a^^^b) 2;have d2:=FV (a&&& b) 2;rw [e1,m1] at d1;rw [e2,m2] at d2;clear e1 e2 m1 m2 ih h0;have k:a%2+b%2=(a%2^^^b%2)+2*(a%2&&& b%2):=by
    rcases Hg a with e|e<;>rcases Hg b with f|f<;>rw [e,f]<;>rfl
   have:=FV a 2;have:=FV b 2;generalize a/2^^^b/2=u,a/2&&& b/2=v,a%2^^^b%2=x,a%2&&& b%2=y,a^^^b=m,a&&& b=n,a/2=q,b/2=r,a%2=t,b%2=z at*;lia
theorem fJ (a b:Nat):Builtin.bitXor (a:Int) (b:Int)=((a^^^b:Nat):Int):=by
 have e:Builtin.bitXor (a:Int) (b:Int)=(a:Int)+(b:Int)-2*Builtin.bitAnd (a:Int) (b:Int):=by
  unfold Builtin.bitXor;rw [PyProof.Rows.bitOr_and];lia
 rw [e,Ge Z5 (BZ _),BO,BO];have:=kD a b;lia
def WP (w p:Nat):Prop:=(w=8/\p=29)\/(w=16/\p=45)
theorem WP.facts (h:WP w p):8≤w/\w≤16/\p%2=1/\p<2^w:=by
 rcases h with⟨rfl,rfl⟩|⟨rfl,rfl⟩<;>decide
theorem AS (hw:0<w)(hs:s<2^w):CK.T w p s=if s/2^(w-1)=1 then s*2%2^w^^^p else s*2%2^w:=by
 unfold CK.T;rw [EL];have h2:s/2^(w-1)<2:=GU (by
  have:2^(w-1)*2=2^w:=by rw [<-Df];congr 1;exact Hm hw
  exact Bn hs this.symm)
 rcases Dm (s/2^(w-1)) 1 with h|h
 ·have e:s/2^(w-1)=0:=Nat.lt_one_iff.mp h;rw [e];simp
 ·have e:s/2^(w-1)=1:=BI (Nat.lt_succ_iff.mp h2) h;rw [e];simp
def crc (w p s:Nat)(R:List Nat):Nat:=R.foldl (CK.B w p) s
theorem lU (w p s:Nat)(R:List Nat)(b:Nat):crc w p s (R++[b])=CK.B w p (crc w p s R) b:=by
 unfold crc;rw [Hu];rfl
theorem xg:∀(n:Nat) (R:List Nat),R.length=n->(∀b∈R,b<256)->crc w p s R=CK.G w p n s (BP.val R):=by
 intro n
 induction n with
 |zero=>
  intro R h _;have e:R=[]:=Db.mp h;subst e;rfl
 |succ n ih=>
  intro R h hb;obtain⟨A,b,rfl⟩:∃A b,R=A++[b]:=by
   rcases List.eq_nil_or_concat R with e|⟨A,b,e⟩
   ·subst e;simp at h
   ·exact⟨A,b,by simpa using e⟩
  have hbb:b<256:=hb b Z6;rw [Bb,Ex] at h;rw [lU,ih A (Nat.add_right_cancel h) λ x hx=>hb x (C4 _ hx),BP.val_snoc];show _=CK.B w p (CK.G w p n s ((BP.val A*256+b)/256)) ((BP.val A*256+b)%256);have e1:(BP.val A*256+b)/256=BP.val A:=Z5;have e2:(BP.val A*256+b)%256=b:=Z5;rw [e1,e2]
theorem tO (hp:p<2^w)(hs:s<2^w)(hb:∀b∈R,b<256):crc w p s R<2^w:=by
 rw [xg R.length R rfl hb];exact CK.G_lt hp hs
section
variable {P:Ie}{w:Ig}{K:Frag}{mg:Str -> Option Ib}{base:Ij}
def uc:Sp:=λ vs H Q _=>∃(n p s b:Nat),vs=[vN s,vN b,vN n]/\WP n p/\s<2^n/\b<256/\Q (vN (CK.B n p s b)) H
theorem scWith:FnScope ["state","byte","wide","step","goes_out"] ["state","byte","wide"] (ak pC):=scK Z8
theorem wK (F:Fn K mg "with_byte" pC ["state","byte","wide"] f fd)(X:Txt K mg):FnOk P w K mg base CX0 1 f fd ["state","byte","wide"] uc:=by
 obtain⟨dA,mA,tA⟩:=X.tabA;obtain⟨dL,mL,tL⟩:=X.tabL;refine F.F.ok scWith λ Iq A outer st H vs Q E hr h=>?_
 intro _;obtain⟨n,p,s,b,rfl,hw,hs,hb,q⟩:=h;obtain⟨h8,h16,hodd,hp⟩:=hw.facts;refine⟨_,ad (ar (i:=0) scWith.nd (am kz (pv 0) (am b8 (pv 1) (am aY (pv 2) af))))
  (ad (bf BW rfl (cS rfl X.R.X.range (aa af ae)) (aJ (i:=3) scWith.nd)
   (ad (ar (i:=4) scWith.nd (am il (pv 0) (am aY (pv 2) af)))
   (ad (ar (i:=0) scWith.nd (am hG (am b8 (pv 0) af) (aM kb (aH (v:=.ref dA) Z7 mA rfl) (pv 2) (λ _ _=>rfl))))
   (ag (aL (aA bP (pv 4) af (aC _)) (ag (ar (i:=0) scWith.nd (am kz (pv 0) (aM kb (aH (v:=.ref dL) Z7 mL rfl) (pv 2) (λ _ _=>rfl))))) aD)))))
  (ag (ax (pv 0)))),?_⟩
 have e8:(n:Int)-8=((n-8:Nat):Int):=Z5;have e1':(n:Int)-1=((n-1:Nat):Int):=Z5;refine⟨_,rfl,_,rfl,_,rfl,_,_,rfl,rfl,?_⟩;dsimp only;rw [e8];refine⟨_,_,rfl,rfl,⟨BZ _,Z5,Z5⟩,_,_,rfl,rfl,?_⟩;dsimp only;rw [du,fJ];have hs0:s^^^b*2^(n-8)<2^n:=by
  refine Hj hs ?_;have:b*2^(n-8)<2^8*2^(n-8):=(EM (DG Z9)).mpr hb;rw [<-Ee,show 8+(n-8)=n by lia] at this;exact this
 refine⟨8,rfl,Z9,Z9,b9 (D:=⟨_,_,λ _ _=>False,λ _ _=>False⟩) (lo:=0) (n:=8)
  (λ i σ H2=>∃v3 v4,σ=[some (vN (CK.Tn n p i (s^^^b*2^(n-8)))),some (vN b),some (vN n),v3,v4]/\H2=H) ⟨none,none,rfl,rfl⟩ ?_ ?_⟩
 ·rintro i σ H2 hi ⟨v3,v4,rfl,rfl⟩;have Ir:=CK.Tn_lt (n:=i) hp hs0;have eT:CK.Tn n p (i+1) (s^^^b*2^(n-8))=CK.T n p (CK.Tn n p i (s^^^b*2^(n-8))):=rfl;rw [eT];generalize CK.Tn n p i (s^^^b*2^(n-8))=z at*;have hz16:z<2^16:=Bf Ir (Du Z9 h16);have go:=AS (p:=p) (Hy h8) Ir;refine⟨_,rfl,_,rfl,_,_,rfl,rfl,?_⟩;dsimp only;rw [e1'];refine⟨_,_,rfl,rfl,Z5,?_⟩;dsimp only;rw [jN];have em:(z:Int)*2^(1:Int).toNat=((z*2:Nat):Int):=du z 1;refine⟨_,rfl,_,_,rfl,rfl,⟨Z9,Z9,Z5⟩,_,rfl,dA,_,_,_,rfl,rfl,.inl tA,?_⟩;rcases hw with⟨rfl,rfl⟩|⟨rfl,rfl⟩
  ·refine .inl ⟨rfl,_,_,rfl,rfl,?_⟩;dsimp only;rw [em,show Builtin.bitAnd ((z*2:Nat):Int) 255=((z*2%2^8:Nat):Int) from dQ (z*2) 8];refine⟨_,rfl,rfl,_,rfl,bd (λ h1=>?_) (λ h1=>?_)⟩
   ·have h1':z/2^(8-1)=1:=by have:=V.int.inj (Bp h1);exact DR ((λ {m n}=>G0.mp) this.symm)
    rw [BM h1'] at go;refine⟨_,rfl,_,rfl,dL,_,_,_,rfl,rfl,.inl tL,.inl ⟨rfl,_,_,rfl,rfl,?_⟩⟩;dsimp only;rw [show Builtin.bitXor ((z*2%2^8:Nat):Int) 29=((z*2%2^8^^^29:Nat):Int) from fJ _ 29,go];exact⟨_,_,rfl,rfl⟩
   ·have h1':¬z/2^(8-1)=1:=λ e=>h1 (Bj (congrArg V.int Z5))
    rw [Bu h1'] at go;rw [go];exact⟨_,_,rfl,rfl⟩
  ·refine .inr ⟨rfl,_,_,rfl,rfl,?_⟩;dsimp only;rw [em,show Builtin.bitAnd ((z*2:Nat):Int) 65535=((z*2%2^16:Nat):Int) from dQ (z*2) 16];refine⟨_,rfl,rfl,_,rfl,bd (λ h1=>?_) (λ h1=>?_)⟩
   ·have h1':z/2^(16-1)=1:=by have:=V.int.inj (Bp h1);exact DR ((λ {m n}=>G0.mp) this.symm)
    rw [BM h1'] at go;refine⟨_,rfl,_,rfl,dL,_,_,_,rfl,rfl,.inl tL,.inr ⟨rfl,_,_,rfl,rfl,?_⟩⟩;dsimp only;rw [show Builtin.bitXor ((z*2%2^16:Nat):Int) 45=((z*2%2^16^^^45:Nat):Int) from fJ _ 45,go];exact⟨_,_,rfl,rfl⟩
   ·have h1':¬z/2^(16-1)=1:=λ e=>h1 (Bj (congrArg V.int Z5))
    rw [Bu h1'] at go;rw [go];exact⟨_,_,rfl,rfl⟩
 ·rintro σ H2 ⟨v3,v4,rfl,rfl⟩;exact⟨_,rfl,q⟩
end
theorem lD:¬(("wide":Str)="state"):=Z8
noncomputable def fC (n s:Nat):List (Str×V):=[("wide",vN n),("state",vN s)]
theorem qa (n s:Nat):putF "state" (vN s) (putF "wide" (vN n) [])=fC n s:=by
 show(if("wide":Str)="state" then _ else(("wide":Str),vN n):: [("state",vN s)])=_;rw [Bu lD];rfl
theorem yv (n s s':Nat):putF "state" (vN s') (fC n s)=fC n s':=by
 show(if("wide":Str)="state" then _ else(("wide":Str),vN n)::(if("state":Str)="state" then [(("state":Str),vN s')] else _))=_;rw [Bu lD,BM rfl];rfl
theorem si (n s:Nat):(fC n s).lookup ("wide":Str)=some (vN n):=by
 rw [<-qa,ao,Bu lD,ao,BM rfl]
theorem me (n s:Nat):(fC n s).lookup ("state":Str)=some (vN s):=by
 rw [<-qa,ao,BM rfl]
theorem pM (n s:Nat){m:Str}(h1:autoParam (¬m="state") ZY)(h2:autoParam (¬m="wide") ZY):(fC n s).lookup m=none:=by
 rw [<-qa,ao,Bu h1,ao,Bu h2];rfl
theorem yM (n s:Nat):(fC n s).length<1000:=by show 2<1000;decide
structure CC (K:Frag)(mg:Str->Option Ib)(C:HZ):Prop where
 cl:Cls K C
 nW:NoAttr K C "wide"
 nS:NoAttr K C "state"
 m:mg "Check"=some (.ref C)
section
variable {P:Ie}{w:Ig}{K:Frag}{mg:Str -> Option Ib}{base:Ij}{C:HZ}
def vt (C:HZ):Sp:=λ vs H Q _=>∃(p dx:HZ) (n q:Nat),vs=[.ref p,vN n]/\WP n q/\H p=some (.ins C dx [])/\∀H':Hp,H' p=some (.ins C dx (fC n (2^n-1)))->(∀b o,H b=some o->b≠p->H' b=some o)->Q .non H'
theorem wF:FnScope ["self","wide"] ["self","wide"] (ak jM):=scK Z8
theorem kM {fW:HZ}(F:FunD K "__init__" "Check.__init__" jM dV f fd)(W:Fn K mg "is_whole" bE ["thing","least","most"] fW fdW)(T:CC K mg C)(X:Txt K mg):FnOk P w K mg base CX0 2 f fd ["self","wide"] (vt C):=by
 have GW:FnOk P w K mg base CX0 1 fW fdW ["thing","least","most"] cZ:=cT W X.R.X;obtain⟨dA,mA,tA⟩:=X.tabA;refine F.ok wF λ Iq A outer st H vs Q E hr h=>?_
 intro _;obtain⟨p,dx,n,q,rfl,hw,hp,k⟩:=h;refine⟨_,ad (aL (PW.pt (fE (bM (bq (aq GW hr Z7 W.m W.F.kp W.b .nil aw (aa (pv 1) (aa af (aa af ae))))))
   (dP (aA jL (pv 1) (aH (v:=.ref dA) Z7 mA rfl) Z7)))) (ag bD) aD)
  (ad (aU (pv 0) (pv 1) rfl)
  (ag (aU (pv 0) (aM kb (aH (v:=.ref dA) Z7 mA rfl) (pv 1) (λ _ _=>rfl)) rfl))),?_⟩
 refine⟨_,rfl,_,_,_,rfl,_,rfl,?_⟩;have e1:(decide ((8:Int)≤(n:Int))&&decide ((n:Int)≤16))=true:=by
  obtain⟨h8,h16,_⟩:=hw.facts;rw [Bj (Int.toNat_le.mp h8),Bj Z5];rfl
 rw [e1];refine bV ?_;have hn:(n:Int)=8\/(n:Int)=16:=by rcases hw with⟨rfl,_⟩|⟨rfl,_⟩<;>simp
 refine⟨_,rfl,dA,_,_,_,rfl,rfl,tA,hn,_,rfl,bV ?_⟩;refine⟨_,rfl,_,rfl,p,C,dx,_,rfl,hp,T.cl,T.nW,(by show 0<1000;decide),?_⟩;refine⟨_,rfl,dA,_,_,_,rfl,rfl,.inl tA,?_⟩;have fin:∀(z:Int),z=((2^n-1:Nat):Int)->Q .non (upd (upd H p (.ins C dx (putF "wide" (vN n) []))) p (.ins C dx (putF "state" (.int z) (putF "wide" (vN n) [])))):=λ z ez=>by
  rw [ez,show putF "state" (V.int ((2^n-1:Nat):Int)) (putF "wide" (vN n) [])=fC n (2^n-1) from qa n _];refine k _ ac λ b o e hb=>?_
  rw [upd_ne hb,upd_ne hb];exact e
 rcases hw with⟨rfl,rfl⟩|⟨rfl,rfl⟩
 ·exact .inl ⟨rfl,_,rfl,p,C,dx,_,rfl,ac,T.cl,T.nS,(by show 1<1000;decide),fin _ rfl⟩
 ·exact .inr ⟨rfl,_,rfl,p,C,dx,_,rfl,ac,T.cl,T.nS,(by show 1<1000;decide),fin _ rfl⟩
def zu (C:HZ):Sp:=λ vs H Q _=>∃(p dx a:HZ) (n q s:Nat) (B:List Nat),vs=[.ref p,.ref a]/\WP n q/\s<2^n/\H p=some (.ins C dx (fC n s))/\H a=some (.lst (B.map vN))/\(∀b∈B,b<256)/\
 ∀H':Hp,H' p=some (.ins C dx (fC n (crc n q s B)))->(∀b o,H b=some o->b≠p->H' b=some o)->Q .non H'
theorem scAdd:FnScope ["self","row","byte"] ["self","row"] (ak yr):=scK Z8
theorem r0 {fN fR fW fY:HZ}{fdN fdR fdY:Ih}(F:Fun K "add" "Check.add" yr f fd)(N:Fn K mg "need_row" bY ["thing"] fN fdN)(R:Fn K mg "is_row" eG ["thing"] fR fdR)(W:Fn K mg "is_whole" bE ["thing","least","most"] fW fdW)
  (Y:Fn K mg "with_byte" pC ["state","byte","wide"] fY fdY) (T:CC K mg C) (X:Txt K mg):FnOk P w K mg base CX0 5 f fd ["self","row"] (zu C):=by
 have GN:FnOk P w K mg base CX0 4 fN fdN ["thing"] spNeedRow:=ok_needrow N X.R;have GY:FnOk P w K mg base CX0 1 fY fdY ["state","byte","wide"] uc:=wK Y X;refine F.ok scAdd λ Iq A outer st H vs Q E hr h=>?_
 intro _;obtain⟨p,dx,a,n,q,s,B,rfl,hw,hs,hp,ha,hb,k⟩:=h;obtain⟨h8,h16,hodd,hq⟩:=hw.facts;have hr1:Room 1 _:=hr.mono Z9;refine⟨_,ag (bf BW rfl (bi (aq GN hr Z7 N.m N.F.kp N.b .nil aw (aa (pv 1) ae))) (aJ (i:=2) scAdd.nd)
  (ag (aU (pv 0) (aq GY hr1 Z7 Y.m Y.F.kp Y.b .nil aw (aa (aN (pv 0) rfl) (aa (pv 2) (aa (aN (pv 0) rfl) ae)))) rfl))),?_⟩
 refine⟨_,rfl,a,B,rfl,ha,hb,λ l hl=>?_⟩;have npl:p≠l:=ai hp hl;refine⟨l,rfl,⟨_,SqL.of ac⟩,bx (K:=K) (a:=l) (xs:=B.map vN) (λ i σ H2=>∃v:Option V,σ=[some (.ref p),some (.ref a),v]/\H2 p=some (.ins C dx (fC n (crc n q s (B.take i))))/\H2 l=some (.lst (B.map vN))/\∀b o,H b=some o->b≠p->H2 b=some o)
  ⟨none,rfl,by rw [upd_ne npl];exact hp,ac,λ b o e _=>by rw [upd_ne (ai e hl)];exact e⟩ (λ i σ H2 _ z9=>by obtain⟨_,_,_,e,_⟩:=z9;exact SqL.of e) ?_ ?_⟩
 ·rintro i y σ H2 hi ⟨v,rfl,hp2,hl2,oth⟩;obtain⟨b,hb1,rfl⟩:=cj hi;have hb2:=hb b (Cm hb1);have Ir:crc n q s (B.take i)<2^n:=tO hq hs λ x hx=>hb x (Cq hx)
  refine⟨_,rfl,p,C,dx,_,_,rfl,hp2,T.cl,T.nS,me _ _,_,rfl,_,rfl,p,C,dx,_,_,rfl,hp2,T.cl,T.nW,si _ _,n,q,_,b,rfl,hw,Ir,hb2,?_⟩;refine⟨_,rfl,p,C,dx,_,rfl,hp2,T.cl,T.nS,yM _ _,?_⟩;refine⟨some (vN b),rfl,?_,by rw [upd_ne npl.symm];exact hl2,λ c o e hc=>by rw [upd_ne hc];exact oth c o e hc⟩;rw [ac,yv,cM hb1,lU]
 ·rintro σ H2 ⟨v,rfl,hp2,hl2,oth⟩;rw [A9,Cc] at hp2;exact k H2 hp2 oth
def vK (C:HZ):Sp:=λ vs H Q _=>∃(p dx:HZ) (n s:Nat),vs=[.ref p]/\H p=some (.ins C dx (fC n s))/\Q (vN s) H
theorem wj:FnScope ["self"] ["self"] (ak mX):=scK Z8
theorem kP (F:Fun K "value" "Check.value" mX f fd)(T:CC K mg C):FnOk P w K mg base CX0 1 f fd ["self"] (vK C):=by
 refine F.ok wj λ Iq A outer st H vs Q E hr h=>?_
 intro _;obtain⟨p,dx,n,s,rfl,hp,k⟩:=h;refine⟨_,ag (ax (aN (pv 0) rfl)),?_⟩;exact⟨_,rfl,p,C,dx,_,_,rfl,hp,T.cl,T.nS,me _ _,k⟩
def chk (n q:Nat)(B:List Nat):Nat:=crc n q (2^n-1) B
def qw:Sp:=λ vs H Q _=>∃(a:HZ) (n q:Nat) (B:List Nat),vs=[.ref a,vN n]/\WP n q/\H a=some (.lst (B.map vN))/\(∀b∈B,b<256)/\∀H',Same H H'->Q (vN (chk n q B)) H'
theorem scCheckOf:FnScope ["row","wide","check"] ["row","wide"] (ak hJ):=scK Z8
structure Chk (K:Frag)(mg:Str->Option Ib)(C:HZ):Prop where
 X:Txt K mg
 T:CC K mg C
 whole:∃f fd,Fn K mg "is_whole" bE ["thing","least","most"] f fd
 isrow:∃f fd,Fn K mg "is_row" eG ["thing"] f fd
 needrow:∃f fd,Fn K mg "need_row" bY ["thing"] f fd
 withb:∃f fd,Fn K mg "with_byte" pC ["state","byte","wide"] f fd
 init:∃f fd dV,FunD K "__init__" "Check.__init__" jM dV f fd/\Binds K fd ["self","wide"] []/\Mk K C f
 add:∃f fd,Me K C "add" "Check.add" yr ["self","row"] f fd
 value:∃f fd,Me K C "value" "Check.value" mX ["self"] f fd
theorem gZ (F:FunD K "check_of" "check_of" hJ dV f fd)(Z:Chk K mg C):FnOk P w K mg base CX0 6 f fd ["row","wide"] qw:=by
 obtain⟨X,T,⟨_,_,W⟩,⟨_,_,R⟩,⟨_,_,N⟩,⟨_,_,Y⟩,⟨_,_,_,FI,bI,M⟩,⟨_,_,Ad⟩,⟨_,_,Va⟩⟩:=Z;refine F.ok scCheckOf λ Iq A outer st H vs Q E hr h=>?_
 intro _;obtain⟨a,n,q,B,rfl,hw,ha,hb,k⟩:=h;have hr1:Room 1 _:=hr.mono Z9;have hr3:Room 3 _:=hr.mono Z9;refine⟨_,ad (ar (i:=2) scCheckOf.nd (pD M (kM FI W T X) hr3 Z7 T.m bI .nil aw (aa (pv 1) ae)))
  (ad (aF (aV (pv 2) T.cl Ad.m (r0 Ad.F N R W Y T X) hr Ad.b .nil aw (aa (pv 0) ae)))
  (ag (ax (a8 (pv 2) T.cl Va.m (kP (mg:=mg) Va.F T) hr1 Va.b .nil aw)))),?_⟩
 refine⟨_,rfl,λ x dx nx ndx nex=>?_⟩;have s0:Same H (upd (upd H dx (.own x)) x (.ins C dx [])):=λ b o e=>by
  rw [upd_ne (ai e nx),upd_ne (ai e ndx)];exact e
 refine⟨x,dx,n,q,rfl,hw,ac,λ H1 hx1 kp=>⟨rfl,?_⟩⟩;have s1:Same H H1:=λ b o e=>kp b o (s0 b o e) (ai e nx)
 refine⟨_,rfl,x,dx,_,rfl,hx1,pM _ _,_,rfl,x,dx,a,n,q,_,B,rfl,hw,?_,hx1,s1 _ _ ha,hb,λ H2 hx2 kp2=>?_⟩
 ·have:=DG (n:=n) (show 0<2 from Z9);exact DX this
 have s2:Same H H2:=λ b o e=>kp2 b o (s1 b o e) (ai e nx)
 refine⟨_,rfl,x,dx,_,rfl,hx2,pM _ _,x,dx,n,_,rfl,hx2,k H2 s2⟩
end
abbrev yk:Im:=top 39
abbrev eN:Im:=top 40
abbrev im:Im:=top 98
abbrev mJ:Im:=aO (top 99) 0
abbrev uA:Im:=aO (top 99) 1
structure FnK (K:Frag)(mg:Str->Option Ib)(x:Str)(st:Im)(ps:List Str)(f:HZ)(fd:Ih):Prop where
 F:∃dV,FunD K x x st dV f fd
 m:mg x=some (.ref f)
 b:Binds K fd ps []
 d:∃t,Binds K fd ps [.int 16 t]
theorem FnK.kp {K:Frag}{mg:Str->Option Ib}{x:Str}{st:Im}{ps:List Str}(F:FnK K mg x st ps f fd):keepIn K (.ref f)=true:=F.F.elim λ _ h=>h.kp
noncomputable def two (n:Nat):List Nat:=[n/256,n%256]
def sld (R:List Nat):List Nat:=R++two (chk 16 45 R)
def Iv (a b:Nat):List Nat:=[a,b,chk 8 29 [a,b]]
theorem wp8:WP 8 29:=.inl ⟨rfl,rfl⟩
theorem iz:WP 16 45:=.inr ⟨rfl,rfl⟩
theorem eC {q:Nat}(h:WP n q)(hb:∀b∈R,b<256):chk n q R<2^n:=by
 obtain⟨_,_,_,hq⟩:=h.facts;exact tO hq (by have:=DG (n:=n) (show 0<2 from Z9);exact DX this) hb
theorem fx (h:n<65536):∀b∈two n,b<256:=by
 intro b hb;simp only [two,BA,E6,or_false] at hb;lia
theorem wQ (hb:∀b∈R,b<256):∀b∈sld R,b<256:=λ b h=>(Br.mp h).elim (hb b) (fx (eC iz hb) b)
theorem fg {a b:Nat}(ha:a<256)(hb:b<256):∀c∈Iv a b,c<256:=by
 intro c hc;have h8:chk 8 29 [a,b]<256:=eC wp8 (λ c hc=>by simp at hc;lia);simp only [Iv,BA,E6,or_false] at hc;lia
structure Cks (K:Frag)(mg:Str->Option Ib)(C:HZ):Prop where
 Z:Chk K mg C
 checkof:∃f fd,FnK K mg "check_of" hJ ["row","wide"] f fd
 two:∃f fd,Fn K mg "in_two_bytes" yk ["number"] f fd
 withcheck:∃f fd,Fn K mg "with_check" eN ["row"] f fd
 headrow:∃f fd,Fn K mg "head_row" im ["first","inside"] f fd
section
variable {P:Ie}{w:Ig}{K:Frag}{mg:Str -> Option Ib}{base:Ij}{C:HZ}
def zy:Sp:=λ vs H Q _=>∃n:Nat,vs=[vN n]/\n<65536/\∀l,H l=none->Q (.ref l) (upd H l (.lst ((two n).map vN)))
theorem Ai:FnScope ["number"] ["number"] (ak yk):=scK Z8
theorem nZ (F:Fn K mg "in_two_bytes" yk ["number"] f fd):FnOk P w K mg base CX0 1 f fd ["number"] zy:=by
 refine F.F.ok Ai λ Iq A outer st H vs Q E hr h=>?_
 intro _;obtain⟨n,rfl,hn,k⟩:=h;refine⟨_,ag (ax (aE (aa (am il (pv 0) af) (aa (am hG (pv 0) af) ae)))),?_⟩;refine⟨_,rfl,_,_,rfl,rfl,(by show(0:Int)≤8;decide),_,rfl,_,_,rfl,rfl,(by show 2≤sizeLine;decide),λ l nl=>?_⟩;have e1:((n:Nat):Int)/2^Int.toNat 8=((n/256:Nat):Int):=by
  show((n:Nat):Int)/256=_;lia
 have e2:Builtin.bitAnd ((n:Nat):Int) 255=((n%256:Nat):Int):=by
  have:=dQ n 8;exact this
 try dsimp only
 rw [e1,e2];exact k l nl
def gq:Sp:=λ vs H Q _=>∃(a:HZ) (R:List Nat),vs=[.ref a]/\H a=some (.lst (R.map vN))/\(∀b∈R,b<256)/\R.length≤1000/\∀l H',H l=none->Same H H'->H' l=some (.lst ((sld R).map vN))->Q (.ref l) H'
theorem mq:FnScope ["row"] ["row"] (ak eN):=scK Z8
theorem ft (F:Fn K mg "with_check" eN ["row"] f fd)(Y:Cks K mg C):FnOk P w K mg base CX0 7 f fd ["row"] gq:=by
 obtain⟨_,_,Co⟩:=Y.checkof;obtain⟨_,FC⟩:=Co.F;obtain⟨_,_,Tw⟩:=Y.two;obtain⟨t16,B16⟩:=Co.d;refine F.F.ok mq λ Iq A outer st H vs Q E hr h=>?_
 intro _;obtain⟨a,R,rfl,ha,hb,hl,k⟩:=h;have hr1:Room 1 _:=hr.mono Z9;refine⟨_,ag (ax (am aR (pv 0) (aq (nZ Tw) hr1 Z7 Tw.m Tw.F.kp Tw.b .nil aw (aa (aq (gZ FC Y.Z) hr Z7 Co.m Co.kp B16 (.cons (a:=V.int 16) ⟨_,rfl⟩ .nil) aw (aa (pv 0) ae)) ae)))),?_⟩;refine⟨_,rfl,_,rfl,a,16,45,R,rfl,iz,ha,hb,λ H1 s1=>?_⟩;refine⟨chk 16 45 R,rfl,eC iz hb,λ l1 n1=>?_⟩;have s2:=aj (o:=.lst ((two (chk 16 45 R)).map vN)) n1;have h11:(upd H1 l1 (.lst ((two (chk 16 45 R)).map vN))) l1=some (.lst ((two (chk 16 45 R)).map vN)):=ac;have ha2:=s2 _ _ (s1 _ _ ha);have s12:=s1.trans s2;generalize upd H1 l1 (.lst ((two (chk 16 45 R)).map vN))=H2 at*;refine⟨a,l1,_,_,rfl,rfl,ha2,h11,bj (by rw [A9];show R.length+2≤2000;lia),λ l nl=>?_⟩;exact k l _ (none_of s12 nl) (s12.trans (aj nl)) (by rw [ac,<-Bm];rfl)
def qr:Sp:=λ vs H Q _=>∃(x y:Nat),vs=[vN x,vN y]/\x<256/\y<256/\∀l H',H l=none->Same H H'->H' l=some (.lst ((Iv x y).map vN))->Q (.ref l) H'
theorem qO:FnScope ["first","inside"] ["first","inside"] (ak im):=scK Z8
theorem iw (F:Fn K mg "head_row" im ["first","inside"] f fd)(Y:Cks K mg C):FnOk P w K mg base CX0 7 f fd ["first","inside"] qr:=by
 obtain⟨_,_,Co⟩:=Y.checkof;obtain⟨_,FC⟩:=Co.F;refine F.F.ok qO λ Iq A outer st H vs Q E hr h=>?_
 intro _;obtain⟨x,y,rfl,hx,hy,k⟩:=h;refine⟨_,ag (ax (aE (aa (pv 0) (aa (pv 1) (aa (aq (gZ FC Y.Z) hr Z7 Co.m Co.kp Co.b .nil aw (aa (aE (aa (pv 0) (aa (pv 1) ae))) (aa af ae))) ae))))),?_⟩;refine⟨_,rfl,_,rfl,_,rfl,_,rfl,(by show 2≤sizeLine;decide),λ l1 n1=>?_⟩;have s1:=aj (o:=.lst [vN x,vN y]) n1;have h11:(upd H l1 (.lst [vN x,vN y])) l1=some (.lst [vN x,vN y]):=ac;generalize upd H l1 (.lst [vN x,vN y])=H1 at*;refine⟨l1,8,29,[x,y],rfl,wp8,h11,λ c hc=>by simp at hc;omega,λ H2 s2=>⟨(by show 3≤sizeLine;decide),λ l nl=>?_⟩⟩;exact k l _ (none_of (s1.trans s2) nl) ((s1.trans s2).trans (aj nl)) ac
end
end K24.Ck
set_option maxHeartbeats 4000000
namespace L2
open PySem PySem.Spec PySem.Calls PyProof.Rows QQ PySem.W
section
variable {X:Cx}{o:Ik}{m:Str}{apos pos:Pos}{k:Nat}{ta:TE}
theorem qL {P:Ie}{w:Ig}{K:Frag}{mg:Str->Option Ib}{base:Ij}{pl:Sem Bool}(hP:X.prog=P)(hw:X.w=w)(hK:X.K=K)(hmg:X.mg=mg)(hb0:X.base=base)(he:PE X o ta)(hr:Room k X.A)
    (ht:autoParam (eval (.Call (.Attribute o m apos) [] [] pos) X.env=(do
      let ov<-eval o X.env
      standAt apos.atName
      let(f,first)<-holding [ov] (getMethod ov m pl)
      callWith pos f first (backTo pos (starEach [] X.env)) (backToKw pos (keywordEach [] X.env)))) Z0):
    PE X (.Call (.Attribute o m apos) [] [] pos) (sL P w K mg base k m ta gv):=by
  subst hP hw hK hmg hb0
  intro Io s σ H Q I h
  refine Ea (pl:=pl) (thn (he Io s σ H _ I h) λ u s1 z9=>?_) ht
  obtain⟨x,H1,I1,rx,a,C,dx,fs,f,fd,ps,sp,ex,ea,l,c,hm,F,hb,q⟩:=z9
  subst ex
  obtain rfl:u=Value.ref a:=rx
  refine cb I1 ea c hm l ?_
  exact Et (first:=[.ref a]) I1.kIn hm.kp (run_fn (us:=[.ref a]) (vs:=[.ref a]) F hr hb .nil aw I1 (.cons rfl .nil) q)
end
end L2
namespace K24.Ck
open PySem L2 QQ W17 W16 BP
seal PE PA PS PSs PT PW PG PI
variable {CK Tb ck f g p:HZ}{fd:Ih}{x:Str}{R S W:List Nat}{H H':Hp}{b:Nat}
abbrev gk:Im:=top 100
theorem yC:¬(("way":Str)="count"):=Z8
theorem zB:¬(("way":Str)="inside"):=Z8
theorem zJ:¬(("count":Str)="inside"):=Z8
noncomputable def fH (a b c:Nat):List (Str×V):=[("way",vN a),("count",vN b),("inside",vN c)]
theorem kS (a b c:Nat):putF "inside" (vN c) (putF "count" (vN b) (putF "way" (vN a) []))=fH a b c:=by
 show(putF "inside" (vN c) (if("way":Str)="count" then _ else(("way":Str),vN a):: [("count",vN b)]))=_;rw [Bu yC];show(if("way":Str)="inside" then _ else(("way":Str),vN a)::(if("count":Str)="inside" then _ else(("count":Str),vN b):: [("inside",vN c)]))=_;rw [Bu zB,Bu zJ];rfl
theorem AJ (a b c:Nat):(fH a b c).lookup ("way":Str)=some (vN a):=by rw [<-kS,ao,Bu zB,ao,Bu yC,ao,BM rfl]
theorem AT (a b c:Nat):(fH a b c).lookup ("count":Str)=some (vN b):=by rw [<-kS,ao,Bu zJ,ao,BM rfl]
theorem AA (a b c:Nat):(fH a b c).lookup ("inside":Str)=some (vN c):=by rw [<-kS,ao,BM rfl]
theorem z7 (a b c:Nat){m:Str}(h1:autoParam (¬m="inside") ZY)(h2:autoParam (¬m="count") ZY)(h3:autoParam (¬m="way") ZY):(fH a b c).lookup m=none:=by
 rw [<-kS,ao,Bu h1,ao,Bu h2,ao,Bu h3];rfl
structure CH (K:Frag)(mg:Str->Option Ib)(C:HZ):Prop where
 cl:Cls K C
 nW:NoAttr K C "way"
 nC:NoAttr K C "count"
 nI:NoAttr K C "inside"
 m:mg "Head"=some (.ref C)
 init:∃f fd,Fun K "__init__" "Head.__init__" mJ f fd/\Binds K fd ["self","way","count","inside"] []/\Mk K C f
 row:∃f fd,Me K C "row" "Head.row" uA ["self"] f fd
section
variable {C CC':HZ}
def vA (C:HZ):Sp:=λ vs H Q _=>∃(p dx a b c:Nat),vs=[.ref p,vN a,vN b,vN c]/\H p=some (.ins C dx [])/\∀H',H' p=some (.ins C dx (fH a b c))->(∀b o,H b=some o->b≠p->H' b=some o)->Q .non H'
theorem u8:FnScope ["self","way","count","inside"] ["self","way","count","inside"] (ak mJ):=scK Z8
theorem sI (F:Fun K "__init__" "Head.__init__" mJ f fd)(T:CH K mg C):FnOk P w K mg base CX0 1 f fd ["self","way","count","inside"] (vA C):=by
 refine F.ok u8 λ Iq A outer st H vs Q E hr h=>?_
 intro _;obtain⟨p,dx,a,b,c,rfl,hp,k⟩:=h;refine⟨_,ad (aU (pv 0) (pv 1) rfl)
  (ad (aU (pv 0) (pv 2) rfl)
  (ag (aU (pv 0) (pv 3) rfl))),?_⟩
 refine⟨_,rfl,_,rfl,p,C,dx,[],rfl,hp,T.cl,T.nW,(by show 0<1000;decide),?_⟩;refine⟨_,rfl,_,rfl,p,C,dx,_,rfl,ac,T.cl,T.nC,(by show 1<1000;decide),?_⟩;refine⟨_,rfl,_,rfl,p,C,dx,_,rfl,ac,T.cl,T.nI,(by rw [show(putF "count" (vN b) (putF "way" (vN a) [])).length=2 by show(if("way":Str)="count" then _ else(("way":Str),vN a):: [("count",vN b)]).length=2;rw [Bu yC];rfl];decide),?_⟩;exact k _ (Eq.trans ac (congrArg (λ l=>some (HO.ins C dx l)) (kS a b c))) λ d o e hd=>by rw [upd_ne hd,upd_ne hd,upd_ne hd];exact e
def yV (C:HZ):Sp:=λ vs H Q _=>∃(p dx a b c:Nat),vs=[.ref p]/\H p=some (.ins C dx (fH a b c))/\a<4/\1≤b/\b≤64/\c<256/\∀l H',H l=none->Same H H'->H' l=some (.lst ((Iv (64*a+b-1) c).map vN))->Q (.ref l) H'
theorem yL:FnScope ["self"] ["self"] (ak uA):=scK Z8
theorem vj (F:Fun K "row" "Head.row" uA f fd)(T:CH K mg C)(Y:Cks K mg CC'):FnOk P w K mg base CX0 8 f fd ["self"] (yV C):=by
 obtain⟨_,_,Hr⟩:=Y.headrow;refine F.ok yL λ Iq A outer st H vs Q E hr h=>?_
 intro _;obtain⟨p,dx,a,b,c,rfl,hp,ha,hb1,hb2,hc,k⟩:=h;refine⟨_,ag (ax (aq (iw Hr Y) hr Z7 Hr.m Hr.F.kp Hr.b .nil aw (aa (am aY (am aK (am bZ af (aN (pv 0) rfl)) (aN (pv 0) rfl)) af) (aa (aN (pv 0) rfl) ae)))),?_⟩;have e1:(64:Int)*((a:Nat):Int)+((b:Nat):Int)-1=((64*a+b-1:Nat):Int):=(Eh (Gv hb1)).symm;refine⟨_,rfl,p,C,dx,_,_,rfl,hp,T.cl,T.nW,AJ _ _ _,_,_,rfl,rfl,.inl ⟨Z9,Z9⟩,_,rfl,p,C,dx,_,_,rfl,hp,T.cl,T.nC,AT _ _ _,_,_,rfl,rfl,_,_,rfl,rfl,_,rfl,p,C,dx,_,_,rfl,hp,T.cl,T.nI,AA _ _ _,?_⟩
 try dsimp only
 rw [e1];exact⟨_,_,rfl,Z5,hc,k⟩
end
def PB (W T R:List Nat):Prop:=∃(i:Nat) (ps:List (Nat×Nat)) (Rb:List Nat),i<4/\(∀j,j<4->cst i W T≤cst j W T/\(j<i->cst i W T<cst j W T))/\PtOf i W T ps/\RowOf (dJ ps 0) (tots ps) Rb/\R=sld (Iv (64*i+T.length-1) Rb.length++Rb)
theorem PB.uniq {T R':List Nat}(h:PB W T R)(h':PB W T R'):R=R':=by
 obtain⟨i,ps,Rb,hi,hm,hp,hr,e⟩:=h;obtain⟨j,qs,Sb,hj,hn,hq,hs,e'⟩:=h';have eij:i=j:=by
  rcases Nat.lt_trichotomy i j with z|z|z
  ·have h1:=(hn i hi).2 z;have h2:=(hm j hj).1;lia
  ·exact z
  ·have h1:=(hm j hj).2 z;have h2:=(hn i hi).1;lia
 subst eij;have eps:=hp.uniq hq;subst eps;have eR:=RowOf.uniq hr hs;subst eR;rw [e,e']
theorem PB.facts {T:List Nat}(h:PB W T R)(t:TW T W):(∀b∈R,b<256)/\R.length≤69:=by
 obtain⟨i,ps,Rb,hi,hm,hp,hr,rfl⟩:=h;have hlen:=hr.len;have h0:cst 0 W T=8*T.length:=by rw [ik (u:=0) (ps:=pf false T) rfl,dU]
 have h1:=(hm 0 Z9).1;rw [h0,ik hp] at h1;have hl:=t.le;have h1':=t.one;refine⟨wQ λ b hb=>(Br.mp hb).elim (fg Z5 Z5 b) (hr.byt b),?_⟩;unfold sld;rw [Bb,Bb];show 3+Rb.length+2≤69;lia
theorem gR {l:HZ}(t:TbB Tb H')(s:g9 Tb H H')(n:H' l=none):H l=none:=by
 cases e:H l with
 |none=>rfl
 |some o=>
  by_cases z:l=Tb
  ·subst z;obtain⟨ps,h,_⟩:=t;rw [h] at n;cases n
  ·rw [s _ _ z e] at n;cases n
structure Bks (K:Frag)(mg:Str->Option Ib)(B D G CW C0 C1 C2 C3 c CK CHd:HZ):Prop where
 Z:Wal K mg B D G CW C0 C1 C2 C3
 Y:Cks K mg CK
 T:CH K mg CHd
 min:mg "min"=none
 best:∃f fd dV,FunC K "best_way" "best_way" gU dV c f fd/\mg "best_way"=some (.ref f)/\Binds K fd ["text","before"] []/\Binds K fd ["text","before"] [.none]
section
variable {B D G CW C0 C1 C2 C3 c CK CHd Tb:HZ}
def nV (Tb:HZ):Sp:=λ vs H Q _=>∃(a:HZ) (x:V) (T W:List Nat),vs=[.ref a,x]/\H a=some (.lst (T.map vN))/\WinV H x W/\TW T W/\TbB Tb H/\∀(l:HZ) (R:List Nat) (H':Hp),H l=none->PB W T R->H' l=some (.lst (R.map vN))->g9 Tb H H'->TbB Tb H'->Q (.ref l) H'
theorem scPutBlock:FnScope ["text","before","way","bits","body","head"] ["text","before"] (ak gk):=scK Z8
theorem dN {dV:Ib}(F:FunD K "put_block" "put_block" gk dV f fd)(Z:Bks K mg B D G CW C0 C1 C2 C3 c CK CHd)(hC:CodeHd base c Tb)(hBm:BmAt mg base)(hK:K.lookup Tb=none):FnOk P w K mg base CX0 40 f fd ["text","before"] (nV Tb):=by
 obtain⟨fB,fdB,dB,FB,mB,bB,_⟩:=Z.best;have ZB:=Z.Z.S0.Zb;have X:=ZB.R.X;obtain⟨_,_,FI,bI,MI⟩:=ZB.init;obtain⟨_,_,Ro⟩:=ZB.row;have TB:=ZB.T;obtain⟨_,_,FH,bH,MH⟩:=Z.T.init;have GH:=sI (P:=P) (w:=w) (base:=base) FH Z.T;obtain⟨_,_,Hw⟩:=Z.T.row;have GR:=vj (P:=P) (w:=w) (base:=base) Hw.F Z.T Z.Y;obtain⟨_,_,Wc⟩:=Z.Y.withcheck;refine F.ok scPutBlock λ Iq A outer st H vs Q E hr h=>?_
 intro _;obtain⟨a,x,T,W,rfl,ha,hx,tw,hT,k⟩:=h;have hr1:Room 1 _:=hr.mono Z9;have hr2:Room 2 _:=hr.mono Z9;have hr7:Room 7 _:=hr.mono Z9;have hr8:Room 8 _:=hr.mono Z9;have hr35:Room 35 _:=hr.mono Z9;refine⟨_,ad (ar (i:=2) scPutBlock.nd (aq (wC FB Z.Z Z.min hC hBm hK) hr Z7 mB FB.kp bB .nil aw (aa (pv 0) (aa (pv 1) ae))))
  (ad (ar (i:=3) scPutBlock.nd (cA MI (kU (mg:=mg) FI TB) hr2 Z7 ZB.m bI .nil aw))
  (ad (aF (lI (P:=P) (w:=w) (K:=K) (mg:=mg) (base:=base) (k:=35) rfl rfl rfl rfl rfl (pv 2) hr35 (aa (pv 3) (aa (pv 0) (aa (pv 1) ae)))))
  (ad (ar (i:=4) scPutBlock.nd (a8 (pv 3) TB.cl Ro.m (qi Ro.F TB X) hr1 Ro.b .nil aw))
  (ad (ar (i:=5) scPutBlock.nd (pD MH GH hr2 Z7 Z.T.m bH .nil aw (aa (qL (P:=P) (w:=w) (K:=K) (mg:=mg) (base:=base) (k:=1) rfl rfl rfl rfl rfl (pv 2) hr1) (aa (az ay Z7 X.len BV (aa (pv 0) ae)) (aa (az ay Z7 X.len BV (aa (pv 4) ae)) ae)))))
  (ag (ax (aq (ft Wc Z.Y) hr7 Z7 Wc.m Wc.F.kp Wc.b .nil aw (aa (am aR (a8 (pv 5) Z.T.cl Hw.m GR hr8 Hw.b .nil aw) (pv 4)) ae)))))))),?_⟩
 refine seq_g λ _ g1=>⟨_,rfl,_,rfl,a,x,T,W,rfl,ha,hx,tw,hT,λ i o dx H1 hi no ho hmin sT hT1=>g1 _ _ ?_⟩
 clear g1;have WK:=Z.Z.ok (P:=P) (w:=w) (base:=base) hi;obtain⟨fT,fdT,mT,bT,GT⟩:=WK.tell;obtain⟨fN,fdN,mN,bN,GN⟩:=WK.num;have ha1:=sT _ _ (hT.ne ha (by intro ps z;cases z)) ha;have hx1:=hx.sameT hT sT;refine seq_g λ R1 g1=>?_
 intro p dp np ndp nep;have hp0:(upd (upd H1 dp (.own p)) p (.ins B dp [])) p=some (.ins B dp []):=ac;have s0:=bR (C:=B) np ndp;refine⟨p,dp,rfl,hp0,λ d H2 nd hB2 kp2=>⟨rfl,g1 _ _ ?_⟩⟩;clear g1;have nd0:H1 d=none:=none_of s0 nd;have s12:Same H1 H2:=λ c o e=>kp2 _ _ (s0 _ _ e) (ai e np)
 clear s0 hp0 kp2 nd;refine seq_g λ _ g1=>⟨_,rfl,o,_,dx,[],fT,fdT,_,_,rfl,s12 _ _ ho,rfl,WK.cl,mT,GT,bT,_,rfl,_,rfl,_,rfl,o,p,d,a,x,T,W,0,0,rfl,hB2,Z9,s12 _ _ ha1,hx1.same s12,tw,λ ps H3 hps hB3 kp3=>g1 _ _ ?_⟩
 clear g1;have s13:Same H1 H3:=λ c o e=>kp3 _ _ (s12 _ _ e) (ai e np) (ai e nd0)
 rw [C5] at hB3;have hgd:=(hps.good tw).2;clear hB2 kp3 s12;refine seq_g λ R1 g1=>?_
 obtain⟨dx3,r3,k3,hp3⟩:=hB3.ob;refine⟨_,rfl,p,dx3,_,rfl,hp3,cY _ _ _,p,d,_,_,rfl,hB3,Ba hgd Z9,λ lr Rb H4 nlr hlr row s34=>g1 _ _ ?_⟩;clear g1;have s14:=s13.trans s34;have hlen:=row.len;have hcst:=(hmin 0 Z9).1;rw [ik (u:=0) (ps:=pf false T) rfl,dU,ik hps] at hcst;have htl:=tw.le;clear hp3 hB3 s34 s13 nlr;refine seq_g λ _ g1=>⟨_,rfl,o,_,dx,[],fN,fdN,_,_,rfl,s14 _ _ ho,rfl,WK.cl,mN,GN,bN,o,rfl,_,rfl,a,_,rfl,.inl (SqL.of (s14 _ _ ha1)),_,rfl,lr,_,rfl,.inl (SqL.of hlr),?_⟩
 intro h dh nh ndh neh;have s0:=bR (C:=CHd) nh ndh;refine⟨h,dh,i,(T.map vN).length,(Rb.map vN).length,rfl,ac,λ H5 hh kp5=>⟨rfl,g1 _ _ ?_⟩⟩;clear g1;have s45:Same H4 H5:=λ c o e=>kp5 _ _ (s0 _ _ e) (ai e nh)
 rw [A9,A9] at hh;have hlr5:=s45 _ _ hlr;have s15:=s14.trans s45;clear s0 kp5 hlr s45 s14;refine⟨_,rfl,h,dh,_,rfl,hh,z7 _ _ _,h,dh,i,T.length,Rb.length,rfl,hh,hi,tw.one,tw.le,Z5,λ l6 H6 nl6 s56 hl6=>?_⟩;refine⟨_,rfl,l6,lr,_,_,rfl,rfl,hl6,s56 _ _ hlr5,bj (by rw [A9,A9];show 3+Rb.length≤2000;lia),λ l7 n7=>?_⟩;have s67:=aj (o:=.lst ((Iv (64*i+T.length-1) Rb.length).map vN++Rb.map vN)) n7;have h77:(upd H6 l7 (.lst ((Iv (64*i+T.length-1) Rb.length).map vN++Rb.map vN))) l7=some (.lst ((Iv (64*i+T.length-1) Rb.length++Rb).map vN)):=by rw [ac,Bm]
 have s17:=(s15.trans s56).trans s67;generalize upd H6 l7 (.lst ((Iv (64*i+T.length-1) Rb.length).map vN++Rb.map vN))=H7 at*;have hone:=tw.one;refine⟨l7,_,rfl,h77,λ b hb=>(Br.mp hb).elim (fg Z4 Z4 b) (row.byt b),by rw [Bb];show 3+Rb.length≤1000;lia,λ l H8 nl s78 hl=>?_⟩;refine k l _ H8 (gR (hT1.same s17) (λ c o n e=>s17 _ _ (sT _ _ n e)) nl) ⟨i,ps,Rb,hi,hmin,hps,row,rfl⟩ hl (λ c o n e=>s78 _ _ (s17 _ _ (sT _ _ n e))) (hT1.same (s17.trans s78))
end
abbrev uk:Im:=top 105
abbrev jK:Im:=top 106
abbrev og:Im:=aO (top 107) 0
abbrev t9:Im:=aO (top 107) 1
abbrev yb:Im:=aO (top 107) 2
abbrev oy:Im:=aO (top 107) 4
noncomputable def four (n:Nat):List Nat:=two (n/65536%65536)++two (n%65536)
def tailR (n c:Nat):List Nat:=sld (Iv 0 0++four n++two c)
theorem lE (n:Nat):∀b∈four n,b<256:=λ b h=>(Br.mp h).elim (fx (DK _ Z9) b) (fx (DK _ Z9) b)
theorem xE:¬(("blocks":Str)="many_signs"):=Z8
theorem Aj:¬(("blocks":Str)="signs_check"):=Z8
theorem yq:¬(("blocks":Str)="group"):=Z8
theorem zW:¬(("many_signs":Str)="signs_check"):=Z8
theorem yu:¬(("many_signs":Str)="group"):=Z8
theorem yI:¬(("signs_check":Str)="group"):=Z8
noncomputable def fO (b m:Nat) (ck g:HZ):List (Str×V):=[("blocks",vN b),("many_signs",vN m),("signs_check",.ref ck),("group",.ref g)]
theorem jd (b m:Nat)(ck g:HZ):putF "group" (.ref g) (putF "signs_check" (.ref ck) (putF "many_signs" (vN m) (putF "blocks" (vN b) [])))=fO b m ck g:=by
 show(putF "group" (.ref g) (putF "signs_check" (.ref ck) (if("blocks":Str)="many_signs" then _ else(("blocks":Str),vN b):: [("many_signs",vN m)])))=_;rw [Bu xE];show(putF "group" (.ref g) (if("blocks":Str)="signs_check" then _ else(("blocks":Str),vN b)::(if("many_signs":Str)="signs_check" then _ else(("many_signs":Str),vN m):: [("signs_check",.ref ck)])))=_;rw [Bu Aj,Bu zW];show(if("blocks":Str)="group" then _ else(("blocks":Str),vN b)::(if("many_signs":Str)="group" then _ else(("many_signs":Str),vN m)::(if("signs_check":Str)="group" then _ else(("signs_check":Str),V.ref ck):: [("group",V.ref g)])))=_;rw [Bu yq,Bu yu,Bu yI];rfl
theorem Ao (b m:Nat)(ck g:HZ):(fO b m ck g).lookup ("blocks":Str)=some (vN b):=by
 rw [<-jd,ao,Bu yq,ao,Bu Aj,ao,Bu xE,ao,BM rfl]
theorem zA (b m:Nat)(ck g:HZ):(fO b m ck g).lookup ("many_signs":Str)=some (vN m):=by
 rw [<-jd,ao,Bu yu,ao,Bu zW,ao,BM rfl]
theorem zo (b m:Nat)(ck g:HZ):(fO b m ck g).lookup ("signs_check":Str)=some (.ref ck):=by
 rw [<-jd,ao,Bu yI,ao,BM rfl]
theorem Al (b m:Nat)(ck g:HZ):(fO b m ck g).lookup ("group":Str)=some (.ref g):=by rw [<-jd,ao,BM rfl]
theorem tu (b m:Nat)(ck g:HZ)(h1:autoParam (¬x="group") ZY)(h2:autoParam (¬x="signs_check") ZY)(h3:autoParam (¬x="many_signs") ZY)(h4:autoParam (¬x="blocks") ZY):(fO b m ck g).lookup x=none:=by
 rw [<-jd,ao,Bu h1,ao,Bu h2,ao,Bu h3,ao,Bu h4];rfl
theorem jG (b m:Nat)(ck g:HZ):(fO b m ck g).length<1000:=by show 4<1000;decide
theorem Am (b m b':Nat)(ck g:HZ):putF "blocks" (vN b') (fO b m ck g)=fO b' m ck g:=by
 show(if("blocks":Str)="blocks" then _ else _)=_;rw [BM rfl];rfl
theorem zH (b m m':Nat)(ck g:HZ):putF "many_signs" (vN m') (fO b m ck g)=fO b m' ck g:=by
 show(if("blocks":Str)="many_signs" then _ else(("blocks":Str),vN b)::(if("many_signs":Str)="many_signs" then _ else _))=_;rw [Bu xE,BM rfl];rfl
theorem w8 (b m:Nat)(ck g g':HZ):putF "group" (.ref g') (fO b m ck g)=fO b m ck g':=by
 show(if("blocks":Str)="group" then _ else(("blocks":Str),vN b)::(if("many_signs":Str)="group" then _ else(("many_signs":Str),vN m)::(if("signs_check":Str)="group" then _ else(("signs_check":Str),V.ref ck)::(if("group":Str)="group" then _ else _))))=_;rw [Bu yq,Bu yu,Bu yI,BM rfl];rfl
structure CoAt (C CK:HZ)(H:Hp)(p ck g:HZ)(S:List Nat)(b:Nat)(G:List Nat):Prop where
 ob:∃dx,H p=some (.ins C dx (fO b S.length ck g))
 ch:∃dk,H ck=some (.ins CK dk (fC 16 (chk 16 45 S)))
 gr:H g=some (.lst (G.map vN))
 byt:∀x∈S,x<256
theorem CoAt.keep {C:HZ}{G:List Nat}(h:CoAt C CK H p ck g S b G)(s:∀c o,H c=some o->c=p\/c=ck\/c=g->H' c=some o):CoAt C CK H' p ck g S b G:=
 ⟨h.ob.elim λ dx z=>⟨dx,s _ _ z (.inl rfl)⟩,h.ch.elim λ dx z=>⟨dx,s _ _ z (.inr (.inl rfl))⟩,s _ _ h.gr (.inr (.inr rfl)),h.byt⟩
structure Crs (K:Frag)(mg:Str->Option Ib)(CK CO:HZ):Prop where
 Y:Cks K mg CK
 initd:∃f fd t,(∃dV,FunD K "__init__" "Check.__init__" jM dV f fd)/\Binds K fd ["self","wide"] [.int 16 t]/\Mk K CK f
 cl:Cls K CO
 nB:NoAttr K CO "blocks"
 nM:NoAttr K CO "many_signs"
 nC:NoAttr K CO "signs_check"
 nG:NoAttr K CO "group"
 m:mg "Course"=some (.ref CO)
 gb:∃t,mg "GROUP_BLOCKS"=some (.int 4 t)
 four:∃f fd,Fn K mg "in_four_bytes" uk ["number"] f fd
 tailof:∃f fd,Fn K mg "tail_of" jK ["many_signs","signs_check"] f fd
 init:∃f fd,Fun K "__init__" "Course.__init__" og f fd/\Binds K fd ["self"] []/\Mk K CO f
 win:∃f fd,Me K CO "window" "Course.window" t9 ["self"] f fd
 go:∃f fd,Me K CO "go_on" "Course.go_on" yb ["self","text"] f fd
 tail:∃f fd,Me K CO "tail" "Course.tail" oy ["self"] f fd
section
variable {CK CO:HZ}
def xq:Sp:=λ vs H Q _=>∃n:Nat,vs=[vN n]/\∀l H',H l=none->Same H H'->H' l=some (.lst ((four n).map vN))->Q (.ref l) H'
theorem yh:FnScope ["number"] ["number"] (ak uk):=scK Z8
theorem wp (F:Fn K mg "in_four_bytes" uk ["number"] f fd)(Z:Crs K mg CK CO):FnOk P w K mg base CX0 2 f fd ["number"] xq:=by
 obtain⟨_,_,Tw⟩:=Z.Y.two;have GT:=nZ (P:=P) (w:=w) (base:=base) Tw;refine F.F.ok yh λ Iq A outer st H vs Q E hr h=>?_
 intro _;obtain⟨n,rfl,k⟩:=h;refine⟨_,ag (ax (am aR (aq GT hr Z7 Tw.m Tw.F.kp Tw.b .nil aw (aa (am hG (am il (pv 0) af) af) ae)) (aq GT hr Z7 Tw.m Tw.F.kp Tw.b .nil aw (aa (am hG (pv 0) af) ae)))),?_⟩;have e1:((n:Nat):Int)/2^Int.toNat 16=((n/65536:Nat):Int):=by
  show((n:Nat):Int)/65536=_;exact DR (Nat.ToInt.div_congr rfl rfl)
 have e2:∀m:Nat,Builtin.bitAnd ((m:Nat):Int) 65535=((m%65536:Nat):Int):=λ m=>dQ m 16
 refine⟨_,rfl,_,_,rfl,rfl,(by show(0:Int)≤16;decide),_,_,rfl,rfl,?_⟩
 try dsimp only
 rw [e1,e2];refine⟨_,rfl,DK _ Z9,λ l1 n1=>?_⟩;have s1:=aj (o:=.lst ((two (n/65536%65536)).map vN)) n1;have h11:(upd H l1 (.lst ((two (n/65536%65536)).map vN))) l1=some (.lst ((two (n/65536%65536)).map vN)):=ac;generalize upd H l1 (.lst ((two (n/65536%65536)).map vN))=H1 at*;refine⟨_,rfl,_,_,rfl,rfl,?_⟩
 try dsimp only
 rw [e2];refine⟨_,rfl,DK _ Z9,λ l2 n2=>?_⟩;have s2:=aj (o:=.lst ((two (n%65536)).map vN)) n2;have h22:(upd H1 l2 (.lst ((two (n%65536)).map vN))) l2=some (.lst ((two (n%65536)).map vN)):=ac;have h21:=s2 _ _ h11;have s12:=s1.trans s2;generalize upd H1 l2 (.lst ((two (n%65536)).map vN))=H2 at*;refine⟨l1,l2,_,_,rfl,rfl,h21,h22,(by show 4≤sizeLine;decide),λ l nl=>?_⟩;exact k l _ (none_of s12 nl) (s12.trans (aj nl)) (by rw [ac,<-Bm];rfl)
def sG:Sp:=λ vs H Q _=>∃n c:Nat,vs=[vN n,vN c]/\c<65536/\∀l H',H l=none->Same H H'->H' l=some (.lst ((tailR n c).map vN))->Q (.ref l) H'
theorem tT:FnScope ["many_signs","signs_check"] ["many_signs","signs_check"] (ak jK):=scK Z8
theorem qx (F:Fn K mg "tail_of" jK ["many_signs","signs_check"] f fd)(Z:Crs K mg CK CO):FnOk P w K mg base CX0 8 f fd ["many_signs","signs_check"] sG:=by
 obtain⟨_,_,Tw⟩:=Z.Y.two;obtain⟨_,_,Fo⟩:=Z.four;obtain⟨_,_,Hr⟩:=Z.Y.headrow;obtain⟨_,_,Wc⟩:=Z.Y.withcheck;refine F.F.ok tT λ Iq A outer st H vs Q E hr h=>?_
 intro _;obtain⟨n,c,rfl,hc,k⟩:=h;have hr1:Room 1 _:=hr.mono Z9;have hr2:Room 2 _:=hr.mono Z9;refine⟨_,ag (ax (aq (ft Wc Z.Y) hr Z7 Wc.m Wc.F.kp Wc.b .nil aw (aa (am aR (am aR (aq (iw Hr Z.Y) hr Z7 Hr.m Hr.F.kp Hr.b .nil aw (aa af (aa af ae))) (aq (wp Fo Z) hr2 Z7 Fo.m Fo.F.kp Fo.b .nil aw (aa (pv 0) ae))) (aq (nZ Tw) hr1 Z7 Tw.m Tw.F.kp Tw.b .nil aw (aa (pv 1) ae))) ae))),?_⟩;refine⟨0,0,rfl,Z9,Z9,λ l1 H1 n1 s1 h11=>?_⟩;refine⟨_,rfl,n,rfl,λ l2 H2 n2 s2 h22=>?_⟩;refine⟨l1,l2,_,_,rfl,rfl,s2 _ _ h11,h22,(by show 7≤sizeLine;decide),λ l3 n3=>?_⟩;rw [<-Bm];have s3:=aj (o:=.lst ((Iv 0 0++four n).map vN)) n3;have h33:(upd H2 l3 (.lst ((Iv 0 0++four n).map vN))) l3=some (.lst ((Iv 0 0++four n).map vN)):=ac;have s03:=(s1.trans s2).trans s3;generalize upd H2 l3 (.lst ((Iv 0 0++four n).map vN))=H3 at*;refine⟨_,rfl,c,rfl,hc,λ l4 n4=>?_⟩;have s4:=aj (o:=.lst ((two c).map vN)) n4;have h44:(upd H3 l4 (.lst ((two c).map vN))) l4=some (.lst ((two c).map vN)):=ac;have h43:=s4 _ _ h33;have s04:=s03.trans s4;generalize upd H3 l4 (.lst ((two c).map vN))=H4 at*;refine⟨l3,l4,_,_,rfl,rfl,h43,h44,(by show 9≤sizeLine;decide),λ l5 n5=>?_⟩;rw [<-Bm];have s5:=aj (o:=.lst ((Iv 0 0++four n++two c).map vN)) n5;have h55:(upd H4 l5 (.lst ((Iv 0 0++four n++two c).map vN))) l5=some (.lst ((Iv 0 0++four n++two c).map vN)):=ac;have s05:=s04.trans s5;generalize upd H4 l5 (.lst ((Iv 0 0++four n++two c).map vN))=H5 at*;refine⟨l5,_,rfl,h55,λ b hb=>?_,(by show 9≤1000;decide),λ l H6 nl s6 hl=>k l H6 (none_of s05 nl) (s05.trans s6) hl⟩;rcases Br.mp hb with hb|hb
 ·rcases Br.mp hb with hb|hb
  ·exact fg Z9 Z9 b hb
  ·exact lE n b hb
 ·exact fx hc b hb
end
theorem vI (S T:List Nat):chk 16 45 (S++T)=crc 16 45 (chk 16 45 S) T:=by
 unfold chk crc;rw [Hu]
theorem cW (x:Str)(v:V):∀l:List (Str×V),(putF x v l).length≤l.length+1
 | []=>Bh _
 |(y,u)::l=>by
  unfold putF
  split
  ·simp
  ·have:=cW x v l;simp
   assumption
theorem fOC {CO dx dk:HZ}{m n s:Nat}:HO.ins CO dx (fO b m ck g)≠HO.ins CK dk (fC n s):=by
 intro z;injection z with _ _ z
 have:=congrArg List.length z;simp [fO,fC] at this
section
variable {CK CO:HZ}
theorem CoAt.ne {G:List Nat}(h:CoAt CO CK H p ck g S b G):p≠ck/\g≠p/\g≠ck:=by
 obtain⟨dx,hp⟩:=h.ob;obtain⟨dk,hk⟩:=h.ch;exact⟨ne_of hp hk fOC,ne_of h.gr hp (by intro z;cases z),ne_of h.gr hk (by intro z;cases z)⟩
def vq (CO CK:HZ):Sp:=λ vs H Q _=>∃(p dx:HZ),vs=[.ref p]/\H p=some (.ins CO dx [])/\∀(ck g:HZ) (H':Hp),H ck=none->H g=none->CoAt CO CK H' p ck g [] 0 []->(∀b o,H b=some o->b≠p->H' b=some o)->Q .non H'
theorem wJ:FnScope ["self"] ["self"] (ak og):=scK Z8
theorem rP (F:Fun K "__init__" "Course.__init__" og f fd)(Z:Crs K mg CK CO):FnOk P w K mg base CX0 4 f fd ["self"] (vq CO CK):=by
 obtain⟨_,_,W⟩:=Z.Y.Z.whole;obtain⟨_,_,t16,⟨_,FI⟩,B16,MI⟩:=Z.initd;refine F.ok wJ λ Iq A outer st H vs Q E hr h=>?_
 intro _;obtain⟨p,dx,rfl,hp,k⟩:=h;refine⟨_,ad (aU (pv 0) af rfl)
  (ad (aU (pv 0) af rfl)
  (ad (aU (pv 0) (cA MI (kM FI W Z.Y.Z.T Z.Y.Z.X) (hr.mono Z9) Z7 Z.Y.Z.T.m B16 (.cons (a:=V.int 16) ⟨_,rfl⟩ .nil) aw) rfl)
  (ag (aU (pv 0) (aE ae) rfl)))),?_⟩
 refine⟨_,rfl,p,CO,dx,[],rfl,hp,Z.cl,Z.nB,(by show 0<1000;decide),?_⟩;refine⟨_,rfl,p,CO,dx,_,rfl,ac,Z.cl,Z.nM,(by show 1<1000;decide),?_⟩;have hp2:(upd (upd H p (.ins CO dx (putF "blocks" (.int 0) []))) p (.ins CO dx (putF "many_signs" (.int 0) (putF "blocks" (.int 0) [])))) p=some (.ins CO dx (putF "many_signs" (vN 0) (putF "blocks" (vN 0) []))):=ac;have kp2:∀c o,H c=some o->c≠p->(upd (upd H p (.ins CO dx (putF "blocks" (.int 0) []))) p (.ins CO dx (putF "many_signs" (.int 0) (putF "blocks" (.int 0) [])))) c=some o:=λ c o e n=>by rw [upd_ne n,upd_ne n];exact e
 have no2:∀c,(upd (upd H p (.ins CO dx (putF "blocks" (.int 0) []))) p (.ins CO dx (putF "many_signs" (.int 0) (putF "blocks" (.int 0) [])))) c=none->H c=none:=λ c e=>by
  by_cases n:c=p
  ·subst n;rw [ac] at e;cases e
  ·rw [upd_ne n,upd_ne n] at e;exact e
 generalize upd (upd H p (.ins CO dx (putF "blocks" (.int 0) []))) p (.ins CO dx (putF "many_signs" (.int 0) (putF "blocks" (.int 0) [])))=H2 at*;intro x dk nx ndk nek;have s0:=bR (C:=CK) nx ndk;have npx:p≠x:=ai hp2 nx;refine⟨x,dk,16,45,rfl,iz,ac,λ H3 hx kp3=>⟨rfl,?_⟩⟩;have hp3:=kp3 _ _ (s0 _ _ hp2) npx;have k13:∀c o,H c=some o->c≠p->H3 c=some o:=λ c o e n=>kp3 _ _ (s0 _ _ (kp2 _ _ e n)) (ai (kp2 _ _ e n) nx)
 clear kp3 s0;have hl2:=cW "many_signs" (vN 0) (putF "blocks" (vN 0) []);have hl1:=cW "blocks" (vN 0) [];have hl3:=cW "signs_check" (.ref x) (putF "many_signs" (vN 0) (putF "blocks" (vN 0) []));have hl0:([]:List (Str×V)).length=0:=rfl;refine⟨_,rfl,p,CO,dx,_,rfl,hp3,Z.cl,Z.nC,Z5,?_⟩;have hp4:(upd H3 p (.ins CO dx (putF "signs_check" (.ref x) (putF "many_signs" (vN 0) (putF "blocks" (vN 0) []))))) p=some (.ins CO dx (putF "signs_check" (.ref x) (putF "many_signs" (vN 0) (putF "blocks" (vN 0) [])))):=ac;have hx4:(upd H3 p (.ins CO dx (putF "signs_check" (.ref x) (putF "many_signs" (vN 0) (putF "blocks" (vN 0) []))))) x=some (.ins CK dk (fC 16 (2^16-1))):=by rw [upd_ne npx.symm];exact hx
 have k14:∀c o,H c=some o->c≠p->(upd H3 p (.ins CO dx (putF "signs_check" (.ref x) (putF "many_signs" (vN 0) (putF "blocks" (vN 0) []))))) c=some o:=λ c o e n=>by rw [upd_ne n];exact k13 _ _ e n
 generalize upd H3 p (.ins CO dx (putF "signs_check" (.ref x) (putF "many_signs" (vN 0) (putF "blocks" (vN 0) []))))=H4 at*;refine⟨(by show 0≤sizeLine;decide),λ g ng=>?_⟩;have s5:=aj (o:=.lst []) ng;have hg5:(upd H4 g (.lst [])) g=some (.lst []):=ac;have hp5:=s5 _ _ hp4;have hx5:=s5 _ _ hx4;have ngp:g≠p:=(ai hp4 ng).symm;have hgH:H g=none:=by
  cases e:H g with
  |none=>rfl
  |some o=>rw [k14 _ _ e ngp] at ng;cases ng
 generalize upd H4 g (.lst [])=H5 at*;refine⟨_,rfl,p,CO,dx,_,rfl,hp5,Z.cl,Z.nG,Z5,?_⟩;refine k x g _ (no2 x nx) hgH ⟨⟨dx,Eq.trans ac (congrArg (λ l=>some (HO.ins CO dx l)) (jd 0 0 x g))⟩,⟨dk,by rw [upd_ne npx.symm];exact hx5⟩,by rw [upd_ne ngp];exact hg5,λ z hz=>by simp at hz⟩ λ c o e n=>?_
 rw [upd_ne n];exact s5 _ _ (k14 _ _ e n)
def y6 (CO CK:HZ):Sp:=λ vs H Q _=>∃(p ck g:HZ) (S G:List Nat) (b:Nat),vs=[.ref p]/\CoAt CO CK H p ck g S b G/\∀l,H l=none->Q (.ref l) (upd H l (.lst (G.map vN)))
theorem xt:FnScope ["self"] ["self"] (ak t9):=scK Z8
theorem wm (F:Fun K "window" "Course.window" t9 f fd)(Z:Crs K mg CK CO):FnOk P w K mg base CX0 1 f fd ["self"] (y6 CO CK):=by
 have T:=Z.Y.Z.X.R.X;refine F.ok xt λ Iq A outer st H vs Q E hr h=>?_
 intro _;obtain⟨p,ck,g,S,G,b,rfl,⟨⟨dx,hp⟩,_,hg,_⟩,k⟩:=h;refine⟨_,ag (ax (bw bC Z7 T.list C7 (aa (aN (pv 0) rfl) ae))),?_⟩;exact⟨_,rfl,p,CO,dx,_,_,rfl,hp,Z.cl,Z.nG,Al _ _ _ _,g,_,rfl,.inl (SqL.of hg),k⟩
def vi (CO CK:HZ):Sp:=λ vs H Q _=>∃(p ck g:HZ) (S G:List Nat) (b:Nat),vs=[.ref p]/\CoAt CO CK H p ck g S b G/\∀l H',H l=none->Same H H'->H' l=some (.lst ((tailR S.length (chk 16 45 S)).map vN))->Q (.ref l) H'
theorem vv:FnScope ["self"] ["self"] (ak oy):=scK Z8
theorem ue (F:Fun K "tail" "Course.tail" oy f fd)(Z:Crs K mg CK CO):FnOk P w K mg base CX0 9 f fd ["self"] (vi CO CK):=by
 obtain⟨_,_,To⟩:=Z.tailof;obtain⟨_,_,Va⟩:=Z.Y.Z.value;have CT:=Z.Y.Z.T;refine F.ok vv λ Iq A outer st H vs Q E hr h=>?_
 intro _;obtain⟨p,ck,g,S,G,b,rfl,⟨⟨dx,hp⟩,⟨dk,hk⟩,hg,hb⟩,k⟩:=h;have hr1:Room 1 _:=hr.mono Z9;refine⟨_,ag (ax (aq (qx To Z) hr Z7 To.m To.F.kp To.b .nil aw (aa (aN (pv 0) rfl) (aa (a8 (aN (pv 0) rfl) CT.cl Va.m (kP (mg:=mg) Va.F CT) hr1 Va.b .nil aw) ae)))),?_⟩;refine⟨_,rfl,p,CO,dx,_,_,rfl,hp,Z.cl,Z.nM,zA _ _ _ _,_,rfl,p,CO,dx,_,_,rfl,hp,Z.cl,Z.nC,zo _ _ _ _,ck,dk,_,rfl,hk,pM _ _,ck,dk,16,_,rfl,hk,?_⟩;exact⟨_,_,rfl,eC iz hb,k⟩
noncomputable def grp (b:Nat) (G T:List Nat):List Nat:=if(b+1)%4=0 then [] else G++T
def zO (CO CK:HZ):Sp:=λ vs H Q _=>∃(p ck g a:HZ) (S G T:List Nat) (b:Nat),vs=[.ref p,.ref a]/\CoAt CO CK H p ck g S b G/\H a=some (.lst (T.map vN))/\(∀x∈T,x<256)/\G.length+T.length≤1000/\
 ∀(g':HZ) (H':Hp),H g'=none->CoAt CO CK H' p ck g' (S++T) (b+1) (grp b G T)->(∀c o,H c=some o->c≠p->c≠ck->H' c=some o)->Q .non H'
theorem zi:FnScope ["self","text"] ["self","text"] (ak yb):=scK Z8
theorem yz (F:Fun K "go_on" "Course.go_on" yb f fd)(Z:Crs K mg CK CO):FnOk P w K mg base CX0 6 f fd ["self","text"] (zO CO CK):=by
 have T:=Z.Y.Z.X.R.X;obtain⟨X,CT,⟨_,_,W⟩,⟨_,_,R⟩,⟨_,_,N⟩,⟨_,_,Yw⟩,_,⟨_,_,Ad⟩,_⟩:=Z.Y.Z;obtain⟨tg,hgb⟩:=Z.gb;refine F.ok zi λ Iq A outer st H vs Q E hr h=>?_
 intro _;obtain⟨p,ck,g,a,S,G,T',b,rfl,hC,ha,hT,hl,k⟩:=h;obtain⟨npk,ngp,ngk⟩:=hC.ne;obtain⟨⟨dx,hp⟩,⟨dk,hk⟩,hg,hb⟩:=hC;have nap:a≠p:=ne_of ha hp (by intro z;cases z);have nak:a≠ck:=ne_of ha hk (by intro z;cases z);refine⟨_,ad (aU (pv 0) (am aK (aN (pv 0) rfl) af) rfl)
  (ad (aU (pv 0) (am aK (aN (pv 0) rfl) (az ay Z7 T.len BV (aa (pv 1) ae))) rfl)
  (ad (aF (aV (aN (pv 0) rfl) CT.cl Ad.m (r0 Ad.F N R W Yw CT X) hr Ad.b .nil aw (aa (pv 1) ae)))
  (ag (aL (aA bP (am a7 (aN (pv 0) rfl) (aH (v:=.int 4) Z7 hgb ⟨tg,rfl⟩)) af (aC _)) (ag (aU (pv 0) (aE ae) rfl)) (ag (aU (pv 0) (am aR (aN (pv 0) rfl) (pv 1)) rfl)))))),?_⟩
 have e1:((b:Nat):Int)+1=((b+1:Nat):Int):=Gw _;have e2:((S.length:Nat):Int)+(((T'.map vN).length:Nat):Int)=((S.length+T'.length:Nat):Int):=by rw [A9];lia
 refine seq_g λ _ g1=>⟨_,rfl,p,CO,dx,_,_,rfl,hp,Z.cl,Z.nB,Ao _ _ _ _,_,_,rfl,rfl,_,rfl,p,CO,dx,_,rfl,hp,Z.cl,Z.nB,jG _ _ _ _,g1 _ _ ?_⟩
 clear g1
 try dsimp only
 rw [e1,Am];have hp1:(upd H p (.ins CO dx (fO (b+1) S.length ck g))) p=some (.ins CO dx (fO (b+1) S.length ck g)):=ac;have k1:∀c o,H c=some o->c≠p->(upd H p (.ins CO dx (fO (b+1) S.length ck g))) c=some o:=λ c o e n=>by rw [upd_ne n];exact e
 generalize upd H p (.ins CO dx (fO (b+1) S.length ck g))=H1 at*;refine seq_g λ _ g1=>⟨_,rfl,p,CO,dx,_,_,rfl,hp1,Z.cl,Z.nM,zA _ _ _ _,_,rfl,a,_,rfl,.inl (SqL.of (k1 _ _ ha nap)),_,_,rfl,rfl,_,rfl,p,CO,dx,_,rfl,hp1,Z.cl,Z.nM,jG _ _ _ _,g1 _ _ ?_⟩
 clear g1
 try dsimp only
 rw [e2,zH];have hp2:(upd H1 p (.ins CO dx (fO (b+1) (S.length+T'.length) ck g))) p=some (.ins CO dx (fO (b+1) (S.length+T'.length) ck g)):=ac;have k2:∀c o,H c=some o->c≠p->(upd H1 p (.ins CO dx (fO (b+1) (S.length+T'.length) ck g))) c=some o:=λ c o e n=>by rw [upd_ne n];exact k1 _ _ e n
 generalize upd H1 p (.ins CO dx (fO (b+1) (S.length+T'.length) ck g))=H2 at*;clear k1 hp1;refine seq_g λ R1 g1=>?_
 have hk2:=k2 _ _ hk npk.symm;refine⟨_,rfl,p,CO,dx,_,_,rfl,hp2,Z.cl,Z.nC,zo _ _ _ _,ck,dk,_,rfl,hk2,pM _ _,_,rfl,ck,dk,a,16,45,_,T',rfl,iz,eC iz hb,hk2,k2 _ _ ha nap,hT,λ H3 hk3 kp3=>g1 _ _ ?_⟩;clear g1;rw [<-vI] at hk3;have hp3:=kp3 _ _ hp2 npk;have k3:∀c o,H c=some o->c≠p->c≠ck->H3 c=some o:=λ c o e n m=>kp3 _ _ (k2 _ _ e n) m
 clear kp3 hk2 hp2 k2;have hg3:=k3 _ _ hg ngp ngk;have ha3:=k3 _ _ ha nap nak;have hbb:∀x∈S++T',x<256:=λ x hx=>(Br.mp hx).elim (hb x) (hT x)
 have eL:(S++T').length=S.length+T'.length:=Bb;have hgH:∀l,H3 l=none->H l=none:=λ l nl=>by
  cases e:H l with
  |none=>rfl
  |some o=>
   by_cases n:l=p
   ·subst n;rw [hp3] at nl;cases nl
   ·by_cases m:l=ck
    ·subst m;rw [hk3] at nl;cases nl
    ·rw [k3 _ _ e n m] at nl;cases nl
 have fin:∀(l:HZ) (L:List Nat) (H4:Hp),H3 l=none->H4=upd (upd H3 l (.lst (L.map vN))) p (.ins CO dx (fO (b+1) (S.length+T'.length) ck l))->L=grp b G T'->Q .non H4:=λ l L H4 nl e4 eL'=>by
  subst e4 eL';have nlp:l≠p:=(ai hp3 nl).symm;have nlk:l≠ck:=(ai hk3 nl).symm;refine k l _ (hgH l nl) ⟨⟨dx,by rw [ac,eL]⟩,⟨dk,by rw [upd_ne npk.symm,upd_ne nlk.symm];exact hk3⟩,by rw [upd_ne nlp,ac],hbb⟩ λ c o e n m=>?_
  rw [upd_ne n,upd_ne (ai (k3 _ _ e n m) nl)];exact k3 _ _ e n m
 have e4:((b+1:Nat):Int)%4=(((b+1)%4:Nat):Int):=DR (FO rfl rfl);refine⟨_,rfl,p,CO,dx,_,_,rfl,hp3,Z.cl,Z.nB,Ao _ _ _ _,_,_,rfl,rfl,(by show(0:Int)<4;decide),?_⟩
 try dsimp only
 rw [e4];refine⟨rfl,_,rfl,bd (λ h=>?_) (λ h=>?_)⟩
 ·have h0:(b+1)%4=0:=by
   have:V.int (((b+1)%4:Nat):Int)=V.int 0:=Bp h;injection this with this
   exact Int.ofNat_eq_zero.mp this
  refine⟨(by show 0≤sizeLine;decide),λ l nl=>?_⟩;have hpl:(upd H3 l (.lst [])) p=_:=(upd_ne (ai hp3 nl)).trans hp3;refine⟨_,rfl,p,CO,dx,_,rfl,hpl,Z.cl,Z.nG,jG _ _ _ _,?_⟩;rw [w8];exact fin l [] _ nl rfl (by unfold grp;rw [BM h0])
 ·have h0:¬(b+1)%4=0:=λ z=>h (Bj (by rw [z];rfl))
  refine⟨_,rfl,p,CO,dx,_,_,rfl,hp3,Z.cl,Z.nG,Al _ _ _ _,_,rfl,g,a,_,_,rfl,rfl,hg3,ha3,bj (by rw [A9,A9];exact Ba hl Z9),λ l nl=>?_⟩;have hpl:(upd H3 l (.lst (G.map vN++T'.map vN))) p=_:=(upd_ne (ai hp3 nl)).trans hp3;refine⟨_,rfl,p,CO,dx,_,rfl,hpl,Z.cl,Z.nG,jG _ _ _ _,?_⟩;rw [w8,<-Bm];exact fin l (G++T') _ nl rfl (by unfold grp;rw [Bu h0])
end
abbrev m9:Im:=aO (top 109) 0
abbrev yY:Im:=aO (top 109) 1
abbrev ni:Im:=aO (top 109) 2
abbrev mZ:Im:=aO (top 109) 3
abbrev mG:Im:=aO (top 109) 4
abbrev rY:Im:=aO (top 109) 5
abbrev iF:Im:=top 110
theorem yt:¬(("course":Str)="waiting"):=Z8
theorem xF:¬(("course":Str)="begun"):=Z8
theorem xv:¬(("course":Str)="finished"):=Z8
theorem xr:¬(("waiting":Str)="begun"):=Z8
theorem yl:¬(("waiting":Str)="finished"):=Z8
theorem y3:¬(("begun":Str)="finished"):=Z8
noncomputable def fP (co wt:HZ) (bg fn:Bool):List (Str×V):=[("course",.ref co),("waiting",.ref wt),("begun",.bl bg),("finished",.bl fn)]
theorem jv (co wt:HZ)(bg fn:Bool):putF "finished" (.bl fn) (putF "begun" (.bl bg) (putF "waiting" (.ref wt) (putF "course" (.ref co) [])))=fP co wt bg fn:=by
 show(putF "finished" (.bl fn) (putF "begun" (.bl bg) (if("course":Str)="waiting" then _ else(("course":Str),V.ref co):: [("waiting",V.ref wt)])))=_;rw [Bu yt];show(putF "finished" (.bl fn) (if("course":Str)="begun" then _ else(("course":Str),V.ref co)::(if("waiting":Str)="begun" then _ else(("waiting":Str),V.ref wt):: [("begun",V.bl bg)])))=_;rw [Bu xF,Bu xr];show(if("course":Str)="finished" then _ else(("course":Str),V.ref co)::(if("waiting":Str)="finished" then _ else(("waiting":Str),V.ref wt)::(if("begun":Str)="finished" then _ else(("begun":Str),V.bl bg):: [("finished",V.bl fn)])))=_;rw [Bu xv,Bu yl,Bu y3];rfl
theorem yH (co wt:HZ)(bg fn:Bool):(fP co wt bg fn).lookup ("course":Str)=some (.ref co):=by
 rw [<-jv,ao,Bu xv,ao,Bu xF,ao,Bu yt,ao,BM rfl]
theorem xM (co wt:HZ)(bg fn:Bool):(fP co wt bg fn).lookup ("waiting":Str)=some (.ref wt):=by
 rw [<-jv,ao,Bu yl,ao,Bu xr,ao,BM rfl]
theorem AE (co wt:HZ)(bg fn:Bool):(fP co wt bg fn).lookup ("begun":Str)=some (.bl bg):=by
 rw [<-jv,ao,Bu y3,ao,BM rfl]
theorem A8 (co wt:HZ)(bg fn:Bool):(fP co wt bg fn).lookup ("finished":Str)=some (.bl fn):=by rw [<-jv,ao,BM rfl]
theorem bW (co wt:HZ)(bg fn:Bool)(h1:autoParam (¬x="finished") ZY)(h2:autoParam (¬x="begun") ZY)(h3:autoParam (¬x="waiting") ZY)(h4:autoParam (¬x="course") ZY):(fP co wt bg fn).lookup x=none:=by
 rw [<-jv,ao,Bu h1,ao,Bu h2,ao,Bu h3,ao,Bu h4];rfl
theorem nD (co wt:HZ)(bg fn:Bool):(fP co wt bg fn).length<1000:=by show 4<1000;decide
theorem zN (co wt wt':HZ)(bg fn:Bool):putF "waiting" (.ref wt') (fP co wt bg fn)=fP co wt' bg fn:=by
 show(if("course":Str)="waiting" then _ else(("course":Str),V.ref co)::(if("waiting":Str)="waiting" then _ else _))=_;rw [Bu yt,BM rfl];rfl
theorem zF (co wt:HZ)(bg fn bg':Bool):putF "begun" (.bl bg') (fP co wt bg fn)=fP co wt bg' fn:=by
 show(if("course":Str)="begun" then _ else(("course":Str),V.ref co)::(if("waiting":Str)="begun" then _ else(("waiting":Str),V.ref wt)::(if("begun":Str)="begun" then _ else _)))=_;rw [Bu xF,Bu xr,BM rfl];rfl
theorem zf (co wt:HZ)(bg fn fn':Bool):putF "finished" (.bl fn') (fP co wt bg fn)=fP co wt bg fn':=by
 show(if("course":Str)="finished" then _ else(("course":Str),V.ref co)::(if("waiting":Str)="finished" then _ else(("waiting":Str),V.ref wt)::(if("begun":Str)="finished" then _ else(("begun":Str),V.bl bg)::(if("finished":Str)="finished" then _ else _))))=_;rw [Bu xv,Bu yl,Bu y3,BM rfl];rfl
structure CP (K:Frag)(mg:Str->Option Ib)(C cO:HZ):Prop where
 cl:Cls K C
 nC:NoAttr K C "course"
 nW:NoAttr K C "waiting"
 nB:NoAttr K C "begun"
 nF:NoAttr K C "finished"
 m:mg "Presser"=some (.ref C)
 mO:mg "Over"=some (.ref cO)
 xO:ExC K cO
 mark:∃d,mg "MARK"=some (.ref d)/\∀H,SqT K H d [vN 184,vN 66,vN 1]
section
variable {C cO:HZ}
def AO (C cO:HZ):Sp:=λ vs H Q E=>∃(p dx co wt:HZ) (bg fn:Bool),vs=[.ref p]/\H p=some (.ins C dx (fP co wt bg fn))/\(fn=false->Q .non H)/\(fn=true->E (.ref cO) none H)
theorem zr:FnScope ["self"] ["self"] (ak yY):=scK Z8
theorem w4 (F:Fun K "need_unfinished" "Presser.need_unfinished" yY f fd)(T:CP K mg C cO):FnOk P w K mg base (CXE P w) 31 f fd ["self"] (AO C cO):=by
 refine F.okE zr λ Iq A outer st H vs Q E hr h=>?_
 intro _;obtain⟨p,dx,co,wt,bg,fn,rfl,hp,k1,k2⟩:=h;refine⟨_,ag (aL (bq (aN (pv 0) rfl)) (ag (lV kF (hr.hd Z9) Z7 T.mO T.xO cf)) aD),?_⟩;refine⟨_,rfl,p,C,dx,_,_,rfl,hp,T.cl,T.nF,A8 _ _ _ _,fn,rfl,?_⟩;cases fn with
 |false=>exact bV (k1 rfl)
 |true=>exact gi (k2 rfl)
noncomputable def mk (bg:Bool):List Nat:=if bg=true then [] else [184,66,1]
def ze (C:HZ):Sp:=λ vs H Q _=>∃(p dx co wt:HZ) (bg fn:Bool),vs=[.ref p]/\H p=some (.ins C dx (fP co wt bg fn))/\∀l H',H l=none->H' p=some (.ins C dx (fP co wt true fn))->H' l=some (.lst ((mk bg).map vN))->(∀c o,H c=some o->c≠p->H' c=some o)->Q (.ref l) H'
theorem wd:FnScope ["self"] ["self"] (ak ni):=scK Z8
theorem oW (F:Fun K "mark_once" "Presser.mark_once" ni f fd)(T:CP K mg C cO)(X:K24.Txt K mg):FnOk P w K mg base CX0 1 f fd ["self"] (ze C):=by
 obtain⟨dM,mM,hM⟩:=T.mark;refine F.ok wd λ Iq A outer st H vs Q E hr h=>?_
 intro _;obtain⟨p,dx,co,wt,bg,fn,rfl,hp,k⟩:=h;refine⟨_,ad (aL (bq (aN (pv 0) rfl)) (ag (ax (aE ae))) aD)
  (ad (aU (pv 0) bU rfl)
  (ag (ax (bw bC Z7 X.list C7 (aa (aH (v:=.ref dM) Z7 mM rfl) ae))))),?_⟩
 refine⟨_,rfl,p,C,dx,_,_,rfl,hp,T.cl,T.nB,AE _ _ _ _,bg,rfl,?_⟩;cases bg with
 |true=>
  refine gi ⟨(by show 0≤sizeLine;decide),λ l nl=>?_⟩;exact k l _ nl (by rw [upd_ne (ai hp nl)];exact hp) ac λ c o e _=>aj nl _ _ e
 |false=>
  refine bV ⟨_,rfl,p,C,dx,_,rfl,hp,T.cl,T.nB,nD _ _ _ _,?_⟩;rw [zF];have hp1:(upd H p (.ins C dx (fP co wt true fn))) p=some (.ins C dx (fP co wt true fn)):=ac;refine⟨dM,_,rfl,.inr (hM _),λ l nl=>?_⟩;have nlp:p≠l:=ai hp1 nl;refine k l _ (by rw [upd_ne nlp.symm] at nl;exact nl) (by rw [upd_ne nlp];exact hp1) ac λ c o e n=>?_
  rw [upd_ne (ai (by rw [upd_ne n];exact e) nl),upd_ne n];exact e
end
def nb (A:List Nat):Nat:=A.length/64
noncomputable def wn (A:List Nat) (i:Nat):List Nat:=(A.take (64*i)).drop (i/4*256)
structure PrAt (C CO CK:HZ)(H:Hp)(p co ck:HZ)(A:List Nat)(bg:Bool):Prop where
 ob:∃dx wt g,H p=some (.ins C dx (fP co wt bg false))/\H wt=some (.lst ((A.drop (64*nb A)).map vN))/\CoAt CO CK H co ck g (A.take (64*nb A)) (nb A) (wn A (nb A))
 byt:∀x∈A,x<256
theorem tb_keep (t:TbB Tb H)(kp:∀c o,H c=some o->(∀C dx fs,o≠ .ins C dx fs)->(∀xs,o≠ .lst xs)->H' c=some o):TbB Tb H':=by
 obtain⟨ps,h,z⟩:=t;refine⟨ps,kp _ _ h (by intro _ _ _ z;cases z) (by intro _ z;cases z),z.imp id λ z9=>by obtain⟨c',oc,vs,t,e,hc,r⟩:=z9;exact⟨c',oc,vs,t,e,kp _ _ hc (by intro _ _ _ z;cases z) (by intro _ z;cases z),r⟩⟩
structure Prz (K:Frag)(mg:Str->Option Ib)(B D G CW C0 C1 C2 C3 c CK CHd CO C cO:HZ):Prop where
 Bk:Bks K mg B D G CW C0 C1 C2 C3 c CK CHd
 Cr:Crs K mg CK CO
 T:CP K mg C cO
 bs:∃t,mg "BLOCK_SIGNS"=some (.int 64 t)
 putblock:∃f fd,FnD K mg "put_block" gk ["text","before"] f fd
 init:∃f fd,Fun K "__init__" "Presser.__init__" m9 f fd/\Binds K fd ["self"] []/\Mk K C f
 un:∃f fd,Me K C "need_unfinished" "Presser.need_unfinished" yY ["self"] f fd
 mark:∃f fd,Me K C "mark_once" "Presser.mark_once" ni ["self"] f fd
 next:∃f fd,Me K C "next_block" "Presser.next_block" mZ ["self","signs"] f fd
 feed:∃f fd,Me K C "feed" "Presser.feed" mG ["self","text"] f fd
 finish:∃f fd,Me K C "finish" "Presser.finish" rY ["self"] f fd
section
variable {B D G' CW C0 C1 C2 C3 c CK CHd CO C cO Tb:HZ}
def ww (C CO CK:HZ):Sp:=λ vs H Q _=>∃(p dx:HZ),vs=[.ref p]/\H p=some (.ins C dx [])/\∀(co ck:HZ) (H':Hp),H co=none->H ck=none->PrAt C CO CK H' p co ck [] false->(∀b o,H b=some o->b≠p->H' b=some o)->Q .non H'
theorem wx:FnScope ["self"] ["self"] (ak m9):=scK Z8
theorem k9 (F:Fun K "__init__" "Presser.__init__" m9 f fd)(Z:Prz K mg B D G' CW C0 C1 C2 C3 c CK CHd CO C cO):FnOk P w K mg base CX0 6 f fd ["self"] (ww C CO CK):=by
 have T:=Z.T;obtain⟨_,_,FI,bI,MI⟩:=Z.Cr.init;refine F.ok wx λ Iq A outer st H vs Q E hr h=>?_
 intro _;obtain⟨p,dx,rfl,hp,k⟩:=h;refine⟨_,ad (aU (pv 0) (cA MI (rP FI Z.Cr) hr Z7 Z.Cr.m bI .nil aw) rfl)
  (ad (aU (pv 0) (aE ae) rfl)
  (ad (aU (pv 0) bU rfl)
  (ag (aU (pv 0) bU rfl)))),?_⟩
 intro x dk nx ndk nek;have s0:=bR (C:=CO) nx ndk;have npx:p≠x:=ai hp nx;refine⟨x,dk,rfl,ac,λ ck g H1 nck ng hC kp1=>⟨rfl,?_⟩⟩;have hp1:=kp1 _ _ (s0 _ _ hp) npx;have k1:∀b o,H b=some o->H1 b=some o:=λ b o e=>kp1 _ _ (s0 _ _ e) (ai e nx)
 have nckH:H ck=none:=none_of s0 nck;clear kp1 s0;refine⟨_,rfl,p,C,dx,[],rfl,hp1,T.cl,T.nC,(by show 0<1000;decide),?_⟩;have hp2:(upd H1 p (.ins C dx (putF "course" (.ref x) []))) p=some (.ins C dx (putF "course" (.ref x) [])):=ac;have k2:∀b o,H1 b=some o->b≠p->(upd H1 p (.ins C dx (putF "course" (.ref x) []))) b=some o:=λ b o e n=>by rw [upd_ne n];exact e
 generalize upd H1 p (.ins C dx (putF "course" (.ref x) []))=H2 at*;refine⟨(by show 0≤sizeLine;decide),λ wt nwt=>?_⟩;have s3:=aj (o:=.lst []) nwt;have hw3:(upd H2 wt (.lst [])) wt=some (.lst []):=ac;have hp3:=s3 _ _ hp2;have nwp:wt≠p:=(ai hp2 nwt).symm;generalize upd H2 wt (.lst [])=H3 at*;refine⟨_,rfl,p,C,dx,_,rfl,hp3,T.cl,T.nW,(by show 1<1000;decide),?_⟩;have hl1:=cW "course" (.ref x) [];have hl2:=cW "waiting" (.ref wt) (putF "course" (.ref x) []);have hl3:=cW "begun" (.bl false) (putF "waiting" (.ref wt) (putF "course" (.ref x) []));have hl0:([]:List (Str×V)).length=0:=rfl;refine⟨_,rfl,p,C,dx,_,rfl,ac,T.cl,T.nB,Z5,?_⟩;refine⟨_,rfl,p,C,dx,_,rfl,ac,T.cl,T.nF,Z5,?_⟩;rw [oY,oY,jv];obtain⟨npk,ngp,ngk⟩:=hC.ne;have hck:ck≠p:=λ z=>by rw [z,hp] at nckH;cases nckH
 have hgp:g≠p:=λ z=>by
  have:=hC.gr;rw [z,hp1] at this;cases this
 have k3:∀b o,H1 b=some o->b≠p->(upd H3 p (.ins C dx (fP x wt false false))) b=some o:=λ b o e n=>by rw [upd_ne n];exact s3 _ _ (k2 _ _ e n)
 refine k x ck _ nx nckH ⟨⟨dx,wt,g,ac,by rw [upd_ne nwp];exact hw3,hC.keep λ c o e hc=>k3 _ _ e ?_⟩,λ z hz=>by simp at hz⟩ λ b o e n=>k3 _ _ (k1 _ _ e) n
 rcases hc with rfl|rfl|rfl
 ·exact npx.symm
 ·exact hck
 ·exact hgp
def xB (Tb C CO CK:HZ):Sp:=λ vs H Q _=>∃(p dx co wt ck g a:HZ) (bg fn:Bool) (S G T:List Nat) (b:Nat),vs=[.ref p,.ref a]/\H p=some (.ins C dx (fP co wt bg fn))/\CoAt CO CK H co ck g S b G/\H a=some (.lst (T.map vN))/\TW T G/\TbB Tb H/\
 ∀(l g':HZ) (R:List Nat) (H':Hp),H l=none->H g'=none->PB G T R->H' l=some (.lst (R.map vN))->CoAt CO CK H' co ck g' (S++T) (b+1) (grp b G T)->(∀c o,c≠Tb->H c=some o->c≠co->c≠ck->H' c=some o)->TbB Tb H'->Q (.ref l) H'
theorem scPNext:FnScope ["self","signs","block"] ["self","signs"] (ak mZ):=scK Z8
theorem ph (F:Fun K "next_block" "Presser.next_block" mZ f fd)(Z:Prz K mg B D G' CW C0 C1 C2 C3 c CK CHd CO C cO)(hC:CodeHd base c Tb)(hBm:BmAt mg base)(hK:K.lookup Tb=none):FnOk P w K mg base CX0 41 f fd ["self","signs"] (xB Tb C CO CK):=by
 have T0:=Z.T;obtain⟨_,_,Pb⟩:=Z.putblock;obtain⟨_,FP⟩:=Pb.F;obtain⟨_,_,Wi⟩:=Z.Cr.win;obtain⟨_,_,Go⟩:=Z.Cr.go;refine F.ok scPNext λ Iq A outer st H vs Q E hr h=>?_
 intro _;obtain⟨p,dx,co,wt,ck,g,a,bg,fn,S,G,T,b,rfl,hp,hCo,ha,tw,hT,k⟩:=h;have hr1:Room 1 _:=hr.mono Z9;have hr6:Room 6 _:=hr.mono Z9;refine⟨_,ad (ar (i:=2) scPNext.nd (aq (dN FP Z.Bk hC hBm hK) hr Z7 Pb.m Pb.kp Pb.b .nil aw (aa (pv 1) (aa (a8 (aN (pv 0) rfl) Z.Cr.cl Wi.m (wm Wi.F Z.Cr) hr1 Wi.b .nil aw) ae))))
  (ad (aF (aV (aN (pv 0) rfl) Z.Cr.cl Go.m (yz Go.F Z.Cr) hr6 Go.b .nil aw (aa (pv 1) ae)))
  (ag (ax (pv 2)))),?_⟩
 refine seq_g λ R1 g1=>?_
 obtain⟨dxo,hco⟩:=hCo.ob;refine⟨_,rfl,_,rfl,p,C,dx,_,_,rfl,hp,T0.cl,T0.nC,yH _ _ _ _,co,dxo,_,rfl,hco,tu _ _ _ _,co,ck,g,S,G,b,rfl,hCo,λ lw nlw=>?_⟩;have s1:=aj (o:=.lst (G.map vN)) nlw;have hw1:(upd H lw (.lst (G.map vN))) lw=some (.lst (G.map vN)):=ac;generalize upd H lw (.lst (G.map vN))=H1 at*;have hT1:=hT.same s1;refine⟨a,.ref lw,T,G,rfl,s1 _ _ ha,.inr ⟨lw,rfl,hw1⟩,tw,hT1,λ l R H2 nl pb hl sT hT2=>g1 _ _ ?_⟩;clear g1;have k2:∀{e:HZ} {o:HO},H e=some o->(∀ps,o≠ .tbl ps)->H2 e=some o:=λ h hn=>sT _ _ (hT1.ne (s1 _ _ h) hn) (s1 _ _ h)
 have hp2:=k2 hp (by intro ps z;cases z);have hCo2:CoAt CO CK H2 co ck g S b G:=by
  obtain⟨dk,hk⟩:=hCo.ch;exact⟨⟨dxo,k2 hco (by intro ps z;cases z)⟩,⟨dk,k2 hk (by intro ps z;cases z)⟩,k2 hCo.gr (by intro ps z;cases z),hCo.byt⟩
 have ha2:=k2 ha (by intro ps z;cases z);have htl:=tw.le;have hwl:=tw.wl;refine seq_g λ R1 g1=>?_
 obtain⟨dxo2,hco2⟩:=hCo2.ob;refine⟨_,rfl,p,C,dx,_,_,rfl,hp2,T0.cl,T0.nC,yH _ _ _ _,co,dxo2,_,rfl,hco2,tu _ _ _ _,_,rfl,co,ck,g,a,S,G,T,b,rfl,hCo2,ha2,tw.tb,Z5,λ g' H3 ng' hC3 kp3=>g1 _ _ ?_⟩;clear g1;obtain⟨dk2,hk2⟩:=hCo2.ch;have hTb3:TbB Tb H3:=tb_keep hT2 λ e o h hn _=>kp3 _ _ h (ne_of h hco2 (hn _ _ _)) (ne_of h hk2 (hn _ _ _))
 have hl3:=kp3 _ _ hl (ne_of hl hco2 (by intro z;cases z)) (ne_of hl hk2 (by intro z;cases z));exact⟨_,rfl,k l g' R H3 (none_of s1 nl) (none_of s1 (gR hT2 sT ng')) pb hl3 hC3 (λ c o n e n1 n2=>kp3 _ _ (sT _ _ n (s1 _ _ e)) n1 n2) hTb3⟩
end
end K24.Ck
set_option maxHeartbeats 4000000
namespace K24.Rf
open PySem L2 QQ W16
seal PE PA PS PSs PT PW PG PI
variable {f:HZ}{fd fdW:Ih}
section
variable (K:Frag)
theorem yp:kitOne K (.type "bool") (.type "bool")=some true:=by
 show(if(Value.type "bool"==Value.type "bool")=true then some true else if kitMeta "bool"=true then(fastBuiltinMro "bool").map (·.contains (.type "bool")) else none)=some true;decide+kernel
theorem kit_nl {t:String}(h: ["NoneType","str","int","bool","tuple","dict"].contains t=true):kitOne K (.type t) (.type "list")=some false:=by
 show(if(Value.type t==Value.type "list")=true then some true else if kitMeta "list"=true then(fastBuiltinMro t).map (·.contains (.type "list")) else none)=some false;have ht:t="NoneType"\/t="str"\/t="int"\/t="bool"\/t="tuple"\/t="dict":=by simpa using h
 rcases ht with rfl|rfl|rfl|rfl|rfl|rfl<;>decide+kernel
theorem xw:kitOne K (.type "bool") (.type "int")=some true:=by
 show(if(Value.type "bool"==Value.type "int")=true then some true else if kitMeta "int"=true then(fastBuiltinMro "bool").map (·.contains (.type "int")) else none)=some true;decide+kernel
def NoInt (H:Hp)(x:V):Prop:=∃t b c,TyOf K H x t/\kitOne K t (.type "int")=some c/\kitOne K t (.type "bool")=some b/\(c=false\/b=true)
def WhV (H:Hp)(x:V)(lo hi:Int)(b:Bool):Prop:=(∃i,x=.int i/\b=(decide (lo≤i)&&decide (i≤hi)))\/(NoInt K H x/\b=false)
variable {K}
theorem NoInt.bl {H:Hp}(b:Bool):NoInt K H (.bl b):=⟨_,true,true,.bl b,xw K,yp K,.inr rfl⟩
def NoRow (K:Frag)(H:Hp)(x:V):Prop:=(∃t,TyOf K H x t/\kitOne K t (.type "list")=some false)\/
 ∃(a:HZ) (xs:List V) (j:Nat) (y:V),x=.ref a/\H a=some (.lst xs)/\(∀i:Nat,i<j->∃n:Nat,n<256/\xs[i]?=some (vN n))/\xs[j]?=some y/\WhV K H y 0 255 false
def IsR (H:Hp)(x:V)(B:List Nat):Prop:=∃a,x=.ref a/\H a=some (.lst (B.map vN))/\∀b∈B,b<256
end
section
def cZ (K:Frag):Sp:=λ vs H Q _=>∃(x:V) (lo hi:Int) (b:Bool),vs=[x,.int lo,.int hi]/\WhV K H x lo hi b/\Q (.bl b) H
def on (K:Frag):Sp:=λ vs H Q _=>∃(x:V) (b:Bool),vs=[x]/\((∃i,x=.int i/\b=true)\/(NoInt K H x/\b=false))/\Q (.bl b) H
theorem ki (F:Fun K "is_number" "is_number" gE f fd)(T:Txt K mg):FnOk P w K mg base CX0 0 f fd ["thing"] (on K):=by
 refine F.ok0 rQ λ Iq A outer s H vs Q E h=>?_
 intro _;obtain⟨x,b,rfl,hw,k⟩:=h;refine⟨_,ag (ax (gP (az cx Z7 T.isi Cu (aa (pv 0) (aa (cJ (v:=.ty "int") Z7 T.int EA rfl) ae))) (io (ux (az cx Z7 T.isi Cu (aa (pv 0) (aa (cJ (v:=.ty "bool") Z7 T.bool PyProof.Rows.boot_bool rfl) ae))))))),?_⟩;rcases hw with⟨i,rfl,rfl⟩|⟨⟨t,b',c,ty,k1,k2,k3⟩,rfl⟩
 ·refine⟨_,rfl,_,_,_,_,rfl,.int _,ut K,_,rfl,gi ?_⟩;exact⟨_,rfl,_,_,_,_,rfl,.int _,tS K,_,rfl,k⟩
 ·refine⟨_,rfl,_,_,_,_,rfl,ty,k1,_,rfl,?_⟩;cases c with
  |false=>exact bV k
  |true=>
   rcases k3 with k3|k3
   ·cases k3
   ·subst k3;exact gi ⟨_,rfl,_,_,_,_,rfl,ty,k2,_,rfl,k⟩
theorem cT (F:Fn K mg "is_whole" bE ["thing","least","most"] f fd)(T:Txt K mg):FnOk P w K mg base CX0 1 f fd ["thing","least","most"] (cZ K):=by
 obtain⟨fN,fdN,NF,Nm,Nb⟩:=T.isnumb;refine F.F.ok p7 λ Iq A outer s H vs Q E hr h=>?_
 intro _;obtain⟨x,lo,hi,b,rfl,hw,k⟩:=h;refine⟨_,ag (ax (gP (aq (ki NF T) hr Z7 Nm NF.kp Nb .nil aw (aa (pv 0) ae)) (io (iC i7 i7 (pv 1) (pv 0) (pv 2))))),?_⟩;rcases hw with⟨i,rfl,rfl⟩|⟨hN,rfl⟩
 ·refine⟨_,rfl,_,true,rfl,.inl ⟨i,rfl,rfl⟩,_,rfl,gi ?_⟩;refine⟨_,rfl,_,rfl,_,_,rfl,rfl,_,rfl,?_⟩;refine bd (λ h1=>?_) (λ h1=>?_)
  ·refine⟨_,rfl,_,_,rfl,rfl,?_⟩;rw [h1,Bool.true_and] at k;exact k
  ·have h2:decide (lo≤i)=false:=by simpa using h1
   rw [h2,Hs] at k;exact k
 ·exact⟨_,rfl,_,false,rfl,.inr ⟨hN,rfl⟩,_,rfl,bV k⟩
def eJ (K:Frag):Sp:=λ vs H Q _=>∃x:V,vs=[x,.int 0,.int 255]/\((∃B,IsR H x B/\Q (.bl true) H)\/(NoRow K H x/\Q (.bl false) H))
theorem o9 (b:Nat)(h:b<256):(decide ((0:Int)≤(b:Int))&&decide ((b:Int)≤255))=true:=by
 rw [Bj (BZ _),Bj Z5];rfl
theorem cy {fW:HZ}(F:Fn K mg "are_whole" bK ["thing","least","most"] f fd)(W:Fn K mg "is_whole" bE ["thing","least","most"] fW fdW)(T:Txt K mg):FnOk P w K mg base CX0 2 f fd ["thing","least","most"] (eJ K):=by
 have GW:FnOk P w K mg base CX0 1 fW fdW ["thing","least","most"] (cZ K):=cT W T;refine F.F.ok scAreWhole λ Iq A outer s H vs Q E hr h=>?_
 intro _;obtain⟨x,rfl,h⟩:=h;refine⟨_,ad (aL (bM (bq (az cx Z7 T.isi Cu (aa (pv 0) (aa (cJ (v:=.ty "list") Z7 T.list C7 rfl) ae))))) (ag (ax bU)) aD)
  (ad (bf BW rfl (bi (pv 0)) (aJ (i:=3) scAreWhole.nd)
   (ag (aL (bM (bq (aq GW hr Z7 W.m W.F.kp W.b .nil aw (aa (pv 3) (aa (pv 1) (aa (pv 2) ae)))))) (ag (ax bU)) aD)))
  (ag (ax bU))),?_⟩
 rcases h with⟨B,⟨a,rfl,hB,hb⟩,k⟩|⟨⟨t,ty,kl⟩|⟨a,xs,j,y,rfl,hL,hg1,hj,hy⟩,k⟩
 ·refine⟨_,rfl,_,_,_,_,rfl,.lst hB,jE K,_,rfl,bV ?_⟩;refine⟨_,rfl,a,rfl,⟨_,SqL.of hB⟩,bx (K:=K) (a:=a) (xs:=B.map vN) (λ i σ H2=>∃v:Option V,σ=[some (.ref a),some (.int 0),some (.int 255),v]/\H2=H)
   ⟨none,rfl,rfl⟩ (λ i σ H2 _ z9=>by obtain⟨_,_,e⟩:=z9;exact by rw [e];exact SqL.of hB) ?_ ?_⟩
  ·rintro i y σ H2 hi ⟨v,rfl,rfl⟩;obtain⟨b,hb1,rfl⟩:∃b,b∈B/\y=vN b:=by
    rw [B4] at hi;cases e:B[i]? with
    |none=>rw [e] at hi;cases hi
    |some z=>rw [e] at hi;exact⟨z,Cm e,(BU hi).symm⟩
   refine⟨_,rfl,_,rfl,_,rfl,_,_,_,_,rfl,.inl ⟨_,rfl,rfl⟩,_,rfl,?_⟩;rw [o9 b (hb b hb1)];exact bV ⟨_,rfl,rfl⟩
  ·rintro σ H2 ⟨v,rfl,rfl⟩;exact k
 ·exact⟨_,rfl,_,_,_,_,rfl,ty,kl,_,rfl,gi k⟩
 ·refine⟨_,rfl,_,_,_,_,rfl,.lst hL,jE K,_,rfl,bV ?_⟩;refine⟨_,rfl,a,rfl,⟨_,SqL.of hL⟩,bx (K:=K) (a:=a) (xs:=xs) (λ i σ H2=>i≤j/\∃v:Option V,σ=[some (.ref a),some (.int 0),some (.int 255),v]/\H2=H)
   ⟨BX _,none,rfl,rfl⟩ (λ i σ H2 _ z9=>by obtain⟨_,_,_,e⟩:=z9;exact by rw [e];exact SqL.of hL) ?_ ?_⟩
  ·rintro i z σ H2 hi ⟨hij,v,rfl,rfl⟩;by_cases e:i=j
   ·subst e;rw [hj] at hi;cases hi;exact⟨_,rfl,_,rfl,_,rfl,_,_,_,_,rfl,hy,_,rfl,gi k⟩
   ·obtain⟨n,hn,e2⟩:=hg1 i (Cn hij e);rw [e2] at hi;cases hi;refine⟨_,rfl,_,rfl,_,rfl,_,_,_,_,rfl,.inl ⟨_,rfl,rfl⟩,_,rfl,?_⟩;rw [o9 n hn];exact bV ⟨Z5,_,rfl,rfl⟩
  ·rintro σ H2 ⟨hij,v,rfl,rfl⟩;have:=(Bo.mp hj).1;lia
def spIsRow (K:Frag):Sp:=λ vs H Q _=>∃x:V,vs=[x]/\((∃B,IsR H x B/\Q (.bl true) H)\/(NoRow K H x/\Q (.bl false) H))
theorem gW {fW:HZ}(F:Fn K mg "is_row" eG ["thing"] f fd)(W:Fn K mg "is_whole" bE ["thing","least","most"] fW fdW)(Y:Rows K mg):FnOk P w K mg base CX0 3 f fd ["thing"] (spIsRow K):=by
 obtain⟨fA,fdA,AW⟩:=Y.arewhole;have T:=Y.X;obtain⟨tg,hg⟩:=T.great;refine F.F.ok pd λ Iq A outer s H vs Q E hr h=>?_
 intro _;obtain⟨x,rfl,h⟩:=h;refine⟨_,ag (ax (aq (cy AW W T) hr Z7 AW.m AW.F.kp AW.b .nil aw (aa (pv 0) (aa af (aa (aH (v:=.int 255) Z7 hg ⟨tg,rfl⟩) ae))))),?_⟩;exact⟨_,rfl,x,rfl,h⟩
def spNeedRow (K:Frag)(cR:HZ):Sp:=λ vs H Q E=>∃x:V,vs=[x]/\((∃B,IsR H x B/\∀l,H l=none->Q (.ref l) (upd H l (.lst (B.map vN))))\/(NoRow K H x/\E (.ref cR) none H))
theorem ok_needrow {cR:HZ}{fW fR:HZ}{fdR:Ih}(F:Fn K mg "need_row" bY ["thing"] f fd)(R:Fn K mg "is_row" eG ["thing"] fR fdR)(W:Fn K mg "is_whole" bE ["thing","least","most"] fW fdW)(Y:Rows K mg)(mR:mg "BadRow"=some (.ref cR))(xR:ExC K cR):
  FnOk P w K mg base (CXE P w) 31 f fd ["thing"] (spNeedRow K cR):=by
 have GR:FnOk P w K mg base CX0 3 fR fdR ["thing"] (spIsRow K):=gW R W Y;have T:=Y.X;refine F.F.okE jj λ Iq A outer s H vs Q E hr h=>?_
 intro _;obtain⟨x,rfl,h⟩:=h;have hr2:Room 3 _:=hr.mono Z9;refine⟨_,ad (aL (bM (bq (aq GR hr2 Z7 R.m R.F.kp R.b .nil aw (aa (pv 0) ae)))) (ag (lV kF (hr.hd Z9) Z7 mR xR cf)) aD)
  (ag (ax (bw bC Z7 T.list C7 (aa (pv 0) ae)))),?_⟩
 rcases h with⟨B,⟨a,rfl,hB,hb⟩,k⟩|⟨hN,k⟩
 ·refine⟨_,rfl,_,rfl,.inl ⟨B,⟨a,rfl,hB,hb⟩,_,rfl,bV ?_⟩⟩;exact⟨_,rfl,a,_,rfl,.inl (SqL.of hB),k⟩
 ·exact⟨_,rfl,_,rfl,.inr ⟨hN,_,rfl,gi k⟩⟩
end
end K24.Rf
set_option maxHeartbeats 4000000
namespace K24.Ck
open PySem L2 QQ W17 W16 BP
seal PE PA PS PSs PT PW PG PI
variable {f:HZ}{fd:Ih}{A:List Nat}
noncomputable def blk (F:List Nat) (i:Nat):List Nat:=(F.drop (64*i)).take 64
def Bl (F:List Nat)(i:Nat)(R:List Nat):Prop:=PB (wn F i) (blk F i) R
theorem kJ (F:List Nat)(i:Nat):F.take (64*i)++blk F i=F.take (64*(i+1)):=by
 unfold blk;rw [show 64*(i+1)=64*i+64 from Nat.mul_succ 64 _,F1]
theorem m6 {F:List Nat}{i:Nat}(h:64*i≤F.length):(wn F i).length≤192:=by
 unfold wn;rw [By,Bv];lia
theorem vy {F:List Nat}{i:Nat}(h:64*(i+1)≤F.length):grp i (wn F i) (blk F i)=wn F (i+1):=by
 unfold grp wn;by_cases z:(i+1)%4=0
 ·rw [BM z,D3];rw [Bv];lia
 ·rw [Bu z,<-kJ,DN (by rw [Bv];lia),show(i+1)/4=i/4 from Nat.succ_div_of_mod_ne_zero z]
theorem oI {F:List Nat}{i:Nat}(h:64*(i+1)≤F.length):(blk F i).length=64:=by
 unfold blk;rw [Bv,By];lia
theorem se {F:List Nat}{i:Nat}(h:64*(i+1)≤F.length)(hb:∀x∈F,x<256):TW (blk F i) (wn F i):=
 ⟨λ x hx=>hb x (Cs (Cq hx)),by rw [oI h];decide,by rw [oI h];decide,λ x hx=>hb x (Cq (Cs hx)),m6 (Gg h)⟩
section
variable {B D G' CW C0 C1 C2 C3 c CK CHd CO C cO cR Tb:HZ}
def New (C CO:HZ)(H H':Hp)(p co:HZ):Prop:=(∀dx wt bg fn,H' p=some (.ins C dx (fP co wt bg fn))->H wt=none)/\∀dx b m ck g,H' co=some (.ins CO dx (fO b m ck g))->H g=none\/∃dx' b' m',H co=some (.ins CO dx' (fO b' m' ck g))
theorem pZ {H H':Hp}{p co ck e:HZ}(fr:∀e o,e≠Tb->H e=some o->e≠p->e≠co->e≠ck->H' e=some o)(h1:∃o,H' Tb=some o)(h2:∃o,H' p=some o)(h3:∃o,H' co=some o)(h4:∃o,H' ck=some o)(n:H' e=none):H e=none:=by
 have ne:∀{y},(∃o,H' y=some o)->e≠y:=λ⟨o,h⟩ z=>by rw [z,h] at n;cases n
 cases z:H e with
 |none=>rfl
 |some o=>rw [fr e o (ne h1) z (ne h2) (ne h3) (ne h4)] at n;cases n
def xK (K:Frag)(Tb C CO CK cO cR:HZ):Sp:=λ vs H Q E=>∃(p:HZ) (x:V),vs=[.ref p,x]/\((∃dx co wt bg,H p=some (.ins C dx (fP co wt bg true))/\E (.ref cO) none H)\/∃(co ck:HZ) (A:List Nat) (bg:Bool),PrAt C CO CK H p co ck A bg/\
 ((Rf.NoRow K H x/\E (.ref cR) none H)\/∃(T:List Nat),Rf.IsR H x T/\(A++T).length≤1000/\TbB Tb H/\∀(l:HZ) (Rs:List (List Nat)) (H':Hp),H l=none->nb A+Rs.length=nb (A++T)->(∀j R,Rs[j]?=some R->Bl (A++T) (nb A+j) R)->
  H' l=some (.lst ((mk bg++Rs.flatten).map vN))->PrAt C CO CK H' p co ck (A++T) true->(∀e o,e≠Tb->H e=some o->e≠p->e≠co->e≠ck->H' e=some o)->TbB Tb H'->New C CO H H' p co->Q (.ref l) H'))
theorem scPFeed:FnScope ["self","text","signs","told","begin"] ["self","text"] (ak mG):=scK Z8
theorem gM (F:Fun K "feed" "Presser.feed" mG f fd)(Z:Prz K mg B D G' CW C0 C1 C2 C3 c CK CHd CO C cO)(mR:mg "BadRow"=some (.ref cR))(xR:ExC K cR)(hC:CodeHd base c Tb)(hBm:BmAt mg base)(hK:K.lookup Tb=none):FnOk P w K mg base (CXE P w) 42 f fd ["self","text"] (xK K Tb C CO CK cO cR):=by
 have T0:=Z.T;have X:=Z.Cr.Y.Z.X.R.X;obtain⟨_,_,Un⟩:=Z.un;obtain⟨_,_,Mo⟩:=Z.mark;obtain⟨_,_,Nx⟩:=Z.next;obtain⟨tb,hbs⟩:=Z.bs;obtain⟨_,_,W⟩:=Z.Cr.Y.Z.whole;obtain⟨_,_,Ri⟩:=Z.Cr.Y.Z.isrow;obtain⟨_,_,Nr⟩:=Z.Cr.Y.Z.needrow;refine F.okE scPFeed λ Iq A outer st H vs Q E hr h=>?_
 intro _;obtain⟨p,x,rfl,h⟩:=h;have hr1:Room 1 _:=hr.mono Z9;have hr31:Room 31 _:=hr.mono Z9;refine⟨_,ad (aF (a8 (pv 0) T0.cl Un.m (w4 Un.F T0) hr31 Un.b .nil kF))
  (ad (ar (i:=2) scPFeed.nd (am aR (aN (pv 0) rfl) (aq (Rf.ok_needrow Nr Ri W Z.Cr.Y.Z.X.R mR xR) hr31 Z7 Nr.m Nr.F.kp Nr.b .nil kF (aa (pv 1) ae))))
  (ad (ar (i:=3) scPFeed.nd (a8 (pv 0) T0.cl Mo.m (oW Mo.F T0 X) hr1 Mo.b .nil aw))
  (ad (ar (i:=4) scPFeed.nd af)
  (ad (cX PassesOwn.leaving (aA pG (am aY (az ay Z7 X.len BV (aa (pv 2) ae)) (pv 4)) (aH (v:=.int 64) Z7 hbs ⟨tb,rfl⟩) (aC _)) (ad (aF (dI Cj Gh PySem.F.type_list_extend je (pv 3) (aa (aV (pv 0) T0.cl Nx.m (ph Nx.F Z hC hBm hK) hr Nx.b .nil aw (aa (bu bJ (pv 2) (a6 (pv 4)) (a6 (am aK (pv 4) (aH (v:=.int 64) Z7 hbs ⟨tb,rfl⟩)))) ae)) ae)))
  (ag (ar (i:=4) scPFeed.nd (am aK (pv 4) (aH (v:=.int 64) Z7 hbs ⟨tb,rfl⟩))))))
  (ad (aU (pv 0) (bu bJ (pv 2) (a6 (pv 4)) d7) rfl)
  (ag (ax (pv 3)))))))),?_⟩
 rcases h with⟨dx,co,wt,bg,hp,kE⟩|⟨co,ck,A',bg,hP,h⟩
 ·exact⟨_,rfl,p,dx,_,rfl,hp,bW _ _ _ _,p,dx,co,wt,bg,true,rfl,hp,λ z=>(by cases z),λ _=>kE⟩
 obtain⟨⟨dx,wt,g,hp,hw,hCo⟩,hA⟩:=id hP;refine seq_g λ _ g1=>⟨_,rfl,p,dx,_,rfl,hp,bW _ _ _ _,p,dx,co,wt,bg,false,rfl,hp,λ _=>g1 _ _ ?_,λ z=>(by cases z)⟩
 clear g1;refine seq_g λ _ g1=>⟨_,rfl,p,C,dx,_,_,rfl,hp,T0.cl,T0.nW,xM _ _ _ _,_,rfl,x,rfl,?_⟩
 rcases h with⟨hN,kE⟩|⟨T,hI,hlen,hT,k⟩
 ·exact .inr ⟨hN,kE⟩
 refine .inl ⟨T,hI,λ l1 n1=>?_⟩;obtain⟨a,rfl,ha,hTb⟩:=hI;have s1:=aj (o:=.lst (T.map vN)) n1;have h11:(upd H l1 (.lst (T.map vN))) l1=some (.lst (T.map vN)):=ac;generalize upd H l1 (.lst (T.map vN))=H1 at*;have hn64:64*nb A'≤A'.length:=by unfold nb;exact HY _ 64
 refine⟨wt,l1,_,_,rfl,rfl,s1 _ _ hw,h11,bj (by rw [A9,A9,By];rw [Bb] at hlen;omega),λ l2 n2=>g1 _ _ ?_⟩;clear g1;have e2:(A'.drop (64*nb A')).map vN++T.map vN=((A'++T).drop (64*nb A')).map vN:=by rw [<-Bm,DN hn64]
 rw [e2];have s2:=aj (o:=.lst (((A'++T).drop (64*nb A')).map vN)) n2;have h22:(upd H1 l2 (.lst (((A'++T).drop (64*nb A')).map vN))) l2=some (.lst (((A'++T).drop (64*nb A')).map vN)):=ac;have s02:=s1.trans s2;generalize upd H1 l2 (.lst (((A'++T).drop (64*nb A')).map vN))=H2 at*;clear s1 s2 n1 n2 h11;have hp2:=s02 _ _ hp;have hCo2:CoAt CO CK H2 co ck g ((A'++T).take (64*nb A')) (nb A') (wn (A'++T) (nb A')):=by
  have e:(A'++T).take (64*nb A')=A'.take (64*nb A'):=Do hn64;have e':wn (A'++T) (nb A')=wn A' (nb A'):=by unfold wn;rw [e]
  rw [e,e'];exact hCo.keep λ c o z _=>s02 _ _ z
 have hF:∀y∈A'++T,y<256:=λ y hy=>(Br.mp hy).elim (hA y) (hTb y)
 have hnF:nb A'≤nb (A'++T):=by unfold nb;rw [Bb];lia
 have hFl:64*nb (A'++T)≤(A'++T).length/\(A'++T).length<64*nb (A'++T)+64:=by unfold nb;exact⟨HY _ _,Nat.lt_mul_div_succ _ Z9⟩
 generalize A'++T=F' at*;generalize nb A'=n0 at*;refine seq_g λ _ g1=>⟨_,rfl,p,dx,_,rfl,hp2,bW _ _ _ _,p,dx,co,wt,bg,false,rfl,hp2,λ l3 H3 n3 hp3 hl3 kp3=>g1 _ _ ?_⟩
 clear g1;refine seq_g λ R1 g1=>g1 _ _ ?_
 clear g1;obtain⟨dxo,hco2⟩:=hCo2.ob;obtain⟨dk,hck2⟩:=hCo2.ch;have npc:co≠p:=λ z=>by rw [z,hp2] at hco2;injection hco2 with hco2;injection hco2 with _ _ z;cases(congrArg (List.map Prod.fst) z)
 have npk:ck≠p:=λ z=>by rw [z,hp2] at hck2;injection hck2 with hck2;injection hck2 with _ _ z;have:=congrArg List.length z;cases this
 have ngp:g≠p:=ne_of hCo2.gr hp2 (by intro z;cases z);have nl2p:l2≠p:=ne_of h22 hp2 (by intro z;cases z);have nH3:H l3=none:=none_of s02 n3;refine seq_g λ _ g1=>⟨λ m σ H4=>∃(j:Nat) (Rs:List (List Nat)) (g4:HZ),m=nb F'-(n0+j)/\σ=[some (.ref p),some (.ref a),some (.ref l2),some (.ref l3),some (vN (64*j))]/\n0+j≤nb F'/\Rs.length=j/\Rs.flatten.length≤69*j/\(∀i R,Rs[i]?=some R->Bl F' (n0+i) R)/\H4 l3=some (.lst ((mk bg++Rs.flatten).map vN))/\H4 l2=some (.lst ((F'.drop (64*n0)).map vN))/\
   H4 p=some (.ins C dx (fP co wt true false))/\CoAt CO CK H4 co ck g4 (F'.take (64*(n0+j))) (n0+j) (wn F' (n0+j))/\(∀e o,e≠Tb->H e=some o->e≠p->e≠co->e≠ck->H4 e=some o)/\TbB Tb H4/\(g4=g\/H g4=none),
  ⟨nb F'-n0,0,[],g,rfl,rfl,hnF,rfl,BX _,λ i R e=>by simp at e,by rw [hl3];simp,kp3 _ _ h22 nl2p,hp3,hCo2.keep λ e o z hz=>kp3 _ _ z (by rcases hz with rfl|rfl|rfl;exact npc;exact npk;exact ngp),
   λ e o _ z n _ _=>kp3 _ _ (s02 _ _ z) n,tb_keep (hT.same s02) λ e o z hn _=>kp3 _ _ z (ne_of z hp2 (hn _ _ _)),.inl rfl⟩,?_⟩
 rintro m σ H4 ⟨j,Rs,g4,rfl,rfl,hj,hRl,hR69,hRs,hl34,hl24,hp4,hCo4,fr4,hT4,hg4⟩;refine⟨_,rfl,l2,_,rfl,.inl (SqL.of hl24),_,rfl,_,_,rfl,rfl,_,_,rfl,rfl,_,rfl,bd (λ hc=>?_) (λ hc=>?_)⟩
 ·clear g1;have hj1:64*(n0+j+1)≤F'.length:=by
   have:=Bp hc;rw [A9,By] at this;lia
  have hjb:n0+j+1≤nb F':=Z5;refine⟨λ σ' H'=>∃(Rs:List (List Nat)) (g4:HZ),σ'=[some (.ref p),some (.ref a),some (.ref l2),some (.ref l3),some (vN (64*(j+1)))]/\Rs.length=j+1/\Rs.flatten.length≤69*(j+1)/\(∀i R,Rs[i]?=some R->Bl F' (n0+i) R)/\H' l3=some (.lst ((mk bg++Rs.flatten).map vN))/\H' l2=some (.lst ((F'.drop (64*n0)).map vN))/\
    H' p=some (.ins C dx (fP co wt true false))/\CoAt CO CK H' co ck g4 (F'.take (64*(n0+(j+1)))) (n0+(j+1)) (wn F' (n0+(j+1)))/\(∀e o,e≠Tb->H e=some o->e≠p->e≠co->e≠ck->H' e=some o)/\TbB Tb H'/\(g4=g\/H g4=none),
   λ σ' H' z9=>by obtain⟨Rs,g4,z1,z⟩:=z9;exact⟨nb F'-(n0+(j+1)),Cy _ _ hjb,j+1,Rs,g4,rfl,z1, ‹_›,z⟩,?_⟩
  have tw:=se (i:=n0+j) hj1 hF;have e64:((64*j:Nat):Int)+64=((64*j+64:Nat):Int):=Z5;refine seq_g λ _ g2=>⟨_,rfl,.inl ⟨rfl,_,SqL.of hl34⟩,_,rfl,p,dx,_,rfl,hp4,bW _ _ _ _,_,rfl,_,rfl,_,rfl,_,rfl,_,_,rfl,rfl,_,rfl,l2,_,rfl,SqL.of hl24,λ ls nls=>?_⟩
  try dsimp only
  rw [e64,u6 _ Z5 (by rw [A9,By];lia),show 64*j+64-64*j=64 from DQ _ 64,<-EE,EI,<-E1,show 64*n0+64*j=64*(n0+j) by lia];have s5:=aj (o:=.lst ((blk F' (n0+j)).map vN)) nls;have hls:(upd H4 ls (.lst ((blk F' (n0+j)).map vN))) ls=some (.lst ((blk F' (n0+j)).map vN)):=ac;have e5:upd H4 ls (.lst (((F'.drop (64*(n0+j))).take 64).map vN))=upd H4 ls (.lst ((blk F' (n0+j)).map vN)):=rfl;rw [e5];clear e5;generalize upd H4 ls (.lst ((blk F' (n0+j)).map vN))=H5 at*;have hT5:=hT4.same s5;refine⟨p,dx,co,wt,ck,g4,ls,true,false,_,_,_,n0+j,rfl,s5 _ _ hp4,hCo4.keep λ e o z _=>s5 _ _ z,hls,tw,hT5,λ l6 g6 R H6 n6 ng6 pb hl6 hC6 kp6 hT6=>?_⟩;have hR:=pb.facts tw;have hl35:=s5 _ _ hl34;have hl25:=s5 _ _ hl24;have hp5:=s5 _ _ hp4;obtain⟨dxo4,hco4⟩:=hCo4.ob;obtain⟨dk4,hck4⟩:=hCo4.ch;have nlst:∀{e:HZ} {xs:List V},H5 e=some (.lst xs)->H6 e=some (.lst xs):=λ z=>kp6 _ _ (hT5.ne z (by intro ps y;cases y)) z (ne_of z (s5 _ _ hco4) (by intro y;cases y)) (ne_of z (s5 _ _ hck4) (by intro y;cases y))
  have hl36:=nlst hl35;have hl26:=nlst hl25;have hp6:=kp6 _ _ (hT5.ne hp5 (by intro ps y;cases y)) hp5 npc.symm npk.symm;refine⟨l3,l6,_,_,rfl,rfl,hl36,hl6,bj (by
   have hmk:(mk bg).length≤3:=by cases bg<;>decide
   rw [A9,A9,Bb];lia),g2 _ _ ?_⟩
  clear g2;have n36:l3≠l6:=ai hl35 n6;have nl23:l2≠l3:=by
   intro z;subst z;rw [h22] at n3;cases n3
  have e66:((64*j:Nat):Int)+64=((64*(j+1):Nat):Int):= ‹_›;refine⟨_,rfl,_,_,rfl,rfl,Rs++[R],g6,?_,by simp;assumption,?_,λ i R' e=>?_,?_,?_,?_,?_,λ e o n z n1 n2 n3'=>?_,?_,.inr (pZ (λ e o n z n1 n2 n3=>s5 _ _ (fr4 _ _ n z n1 n2 n3)) (hT5.elim λ _ h=>⟨_,h.1⟩) ⟨_,hp5⟩ ⟨_,s5 _ _ hco4⟩ ⟨_,s5 _ _ hck4⟩ ng6)⟩
  ·try dsimp only
   rw [e66];rfl
  ·rw [DO,Bb,show [R].flatten=R by simp];have:=hR.2;exact E9 hR69 hR.2
  ·rcases Dm i Rs.length with h|h
   ·rw [Cg h] at e;exact hRs i R' e
   ·rw [BJ h] at e;have hi0:i-Rs.length=0:=by
     rcases Ed (i-Rs.length) with q|q
     ·exact q
     ·rw [BS (by simp;assumption)] at e;cases e
    rw [hi0] at e;cases e;have:i=j:=(BI (Nat.sub_eq_zero_iff_le.1 hi0) h).trans hRl;rw [this];exact pb
  ·rw [ac,DO,<-Be,Bm (l₁:=mk bg++Rs.flatten)];simp
  ·rw [upd_ne nl23];exact hl26
  ·rw [upd_ne (ne_of hp6 hl36 (by intro z;cases z))];exact hp6
  ·rw [show n0+(j+1)=n0+j+1 by lia,<-kJ,<-vy hj1];refine hC6.keep λ e o z hz=>?_
   obtain⟨_,hco6⟩:=hC6.ob;obtain⟨_,hck6⟩:=hC6.ch;rw [upd_ne (by
    rcases hz with rfl|rfl|rfl
    ·exact ne_of hco6 hl36 (by intro y;cases y)
    ·exact ne_of hck6 hl36 (by intro y;cases y)
    ·exact(ai hl35 ng6).symm)]
   exact z
  ·rw [upd_ne (ai z nH3)];exact kp6 _ _ n (s5 _ _ (fr4 _ _ n z n1 n2 n3')) n2 n3'
  ·exact tb_keep hT6 λ e o z _ hn=>by
    rw [upd_ne (ne_of z hl36 (hn _))];exact z
 ·have hnb:n0+j=nb F':=by
   have h1:¬((64:Int)≤(((F'.drop (64*n0)).map vN).length:Int)-((64*j:Nat):Int)):=λ z=>hc (Bj z)
   rw [A9,By] at h1;lia
  refine g1 _ _ ?_;clear g1;refine⟨_,rfl,_,rfl,_,rfl,l2,_,rfl,SqL.of hl24,λ lw nlw=>?_⟩
  try dsimp only
  rw [iE,<-EE,EI,show 64*n0+64*j=64*nb F' by lia];obtain⟨dxo4,hco4⟩:=hCo4.ob;obtain⟨dk4,hck4⟩:=hCo4.ch;have nlw0:H lw=none:=pZ fr4 (hT4.elim λ _ h=>⟨_,h.1⟩) ⟨_,hp4⟩ ⟨_,hco4⟩ ⟨_,hck4⟩ nlw;have s5:=aj (o:=.lst ((F'.drop (64*nb F')).map vN)) nlw;have hco5:=s5 _ _ hco4;have hlw:(upd H4 lw (.lst ((F'.drop (64*nb F')).map vN))) lw=some (.lst ((F'.drop (64*nb F')).map vN)):=ac;have hp5:=s5 _ _ hp4;have hT5:=hT4.same s5;have hCo5:=hCo4.keep (H':=upd H4 lw (.lst ((F'.drop (64*nb F')).map vN))) λ e o z _=>s5 _ _ z
  have hl35:=s5 _ _ hl34;have fr5:∀e o,e≠Tb->H e=some o->e≠p->e≠co->e≠ck->(upd H4 lw (.lst ((F'.drop (64*nb F')).map vN))) e=some o:=λ e o n z n1 n2 n3=>s5 _ _ (fr4 _ _ n z n1 n2 n3)
  generalize upd H4 lw (.lst ((F'.drop (64*nb F')).map vN))=H5 at*;refine⟨_,rfl,p,C,dx,_,rfl,hp5,T0.cl,T0.nW,nD _ _ _ _,?_⟩;rw [zN];have nlp:∀{e:HZ} {xs:List V},H5 e=some (.lst xs)->e≠p:=λ z=>ne_of z hp5 (by intro y;cases y)
  refine⟨_,rfl,k l3 Rs _ nH3 Z5 hRs (by rw [upd_ne (nlp hl35)];exact hl35) ⟨⟨dx,lw,g4,ac,by rw [upd_ne (nlp hlw)];exact hlw,?_⟩,hF⟩ (λ e o n z n1 n2 n3=>by rw [upd_ne n1];exact fr5 _ _ n z n1 n2 n3) (tb_keep hT5 λ e o z hn _=>by rw [upd_ne (ne_of z hp5 (hn _ _ _))];exact z) ⟨λ dx' wt' bg' fn' e=>?_,λ dx' b' m' ck' g' e=>?_⟩⟩
  ·rw [<-hnb];exact hCo5.keep λ e o z hz=>by
    rw [upd_ne (by rcases hz with rfl|rfl|rfl;exact npc;exact npk;exact nlp hCo5.gr)];exact z
  ·rw [ac] at e;simp [fP] at e;rw [<-e.2.1];exact nlw0
  ·rw [upd_ne npc,hco5] at e;simp [fO] at e;obtain⟨_,_,_,rfl,rfl⟩:=e;rcases hg4 with rfl|z
   ·obtain⟨_,h⟩:=hCo.ob;exact .inr ⟨_,_,_,h⟩
   ·exact .inl z
end
def LB (A R:List Nat):Prop:=(A.length%64=0/\R=[])\/(A.length%64≠0/\PB (wn A (nb A)) (A.drop (64*nb A)) R)
theorem pQ (hb:∀x∈A,x<256)(h:A.length%64≠0):TW (A.drop (64*nb A)) (wn A (nb A)):=
 ⟨λ x hx=>hb x (Cs hx),by rw [By];unfold nb;exact by rw [<-Gi];exact F2 h,by rw [By];unfold nb;exact by rw [<-Gi];exact B7 (DK _ Z9),λ x hx=>hb x (Cq (Cs hx)),m6 (by unfold nb;exact HY _ 64)⟩
section
variable {B D G' CW C0 C1 C2 C3 c CK CHd CO C cO cR Tb:HZ}
def zS (Tb C CO CK cO:HZ):Sp:=λ vs H Q E=>∃(p:HZ),vs=[.ref p]/\((∃dx co wt bg,H p=some (.ins C dx (fP co wt bg true))/\E (.ref cO) none H)\/∃(co ck:HZ) (A:List Nat) (bg:Bool),PrAt C CO CK H p co ck A bg/\A.length≤1000/\TbB Tb H/\
 ∀(l dx wt:HZ) (R:List Nat) (H':Hp),H l=none->LB A R->H' l=some (.lst ((mk bg++R++tailR A.length (chk 16 45 A)).map vN))->H' p=some (.ins C dx (fP co wt true true))->(∀e o,e≠Tb->H e=some o->e≠p->e≠co->e≠ck->H' e=some o)->TbB Tb H'->Q (.ref l) H')
theorem scPFin:FnScope ["self","told"] ["self"] (ak rY):=scK Z8
theorem j9 (F:Fun K "finish" "Presser.finish" rY f fd)(Z:Prz K mg B D G' CW C0 C1 C2 C3 c CK CHd CO C cO)(hC:CodeHd base c Tb)(hBm:BmAt mg base)(hK:K.lookup Tb=none):FnOk P w K mg base (CXE P w) 42 f fd ["self"] (zS Tb C CO CK cO):=by
 have T0:=Z.T;have X:=Z.Cr.Y.Z.X.R.X;obtain⟨_,_,Un⟩:=Z.un;obtain⟨_,_,Mo⟩:=Z.mark;obtain⟨_,_,Nx⟩:=Z.next;obtain⟨_,_,Ta⟩:=Z.Cr.tail;refine F.okE scPFin λ Iq A outer st H vs Q E hr h=>?_
 intro _;obtain⟨p,rfl,h⟩:=h;have hr1:Room 1 _:=hr.mono Z9;have hr9:Room 9 _:=hr.mono Z9;have hr31:Room 31 _:=hr.mono Z9;refine⟨_,ad (aF (a8 (pv 0) T0.cl Un.m (w4 Un.F T0) hr31 Un.b .nil kF))
  (ad (aU (pv 0) bU rfl)
  (ad (ar (i:=1) scPFin.nd (a8 (pv 0) T0.cl Mo.m (oW Mo.F T0 X) hr1 Mo.b .nil aw))
  (ad (aL (aA dH (az ay Z7 X.len BV (aa (aN (pv 0) rfl) ae)) af (aC _)) (ag (aF (dI Cj Gh PySem.F.type_list_extend je (pv 1) (aa (aV (pv 0) T0.cl Nx.m (ph Nx.F Z hC hBm hK) hr Nx.b .nil aw (aa (aN (pv 0) rfl) ae)) ae)))) aD)
  (ag (ax (am aR (pv 1) (a8 (aN (pv 0) rfl) Z.Cr.cl Ta.m (ue Ta.F Z.Cr) hr9 Ta.b .nil aw))))))),?_⟩
 rcases h with⟨dx,co,wt,bg,hp,kE⟩|⟨co,ck,A',bg,⟨⟨dx,wt,g,hp,hw,hCo⟩,hA⟩,hlen,hT,k⟩
 ·exact⟨_,rfl,p,dx,_,rfl,hp,bW _ _ _ _,p,dx,co,wt,bg,true,rfl,hp,λ z=>(by cases z),λ _=>kE⟩
 refine seq_g λ _ g1=>⟨_,rfl,p,dx,_,rfl,hp,bW _ _ _ _,p,dx,co,wt,bg,false,rfl,hp,λ _=>g1 _ _ ?_,λ z=>(by cases z)⟩
 clear g1;obtain⟨dxo,hco⟩:=hCo.ob;obtain⟨dk,hck⟩:=hCo.ch;have npc:co≠p:=λ z=>by rw [z,hp] at hco;injection hco with hco;injection hco with _ _ z;cases(congrArg (List.map Prod.fst) z)
 have npk:ck≠p:=λ z=>by rw [z,hp] at hck;injection hck with hck;injection hck with _ _ z;have:=congrArg List.length z;cases this
 have ngp:g≠p:=ne_of hCo.gr hp (by intro z;cases z);have nwp:wt≠p:=ne_of hw hp (by intro z;cases z);refine seq_g λ _ g1=>⟨_,rfl,p,C,dx,_,rfl,hp,T0.cl,T0.nF,nD _ _ _ _,g1 _ _ ?_⟩
 clear g1;rw [zf];have hp1:(upd H p (.ins C dx (fP co wt bg true))) p=some (.ins C dx (fP co wt bg true)):=ac;have k1:∀e o,H e=some o->e≠p->(upd H p (.ins C dx (fP co wt bg true))) e=some o:=λ e o z n=>by rw [upd_ne n];exact z
 have no1:∀e,(upd H p (.ins C dx (fP co wt bg true))) e=none->H e=none:=λ e z=>by
  by_cases n:e=p
  ·subst n;rw [hp1] at z;cases z
  ·rw [upd_ne n] at z;exact z
 generalize upd H p (.ins C dx (fP co wt bg true))=H1 at*;refine seq_g λ _ g1=>⟨_,rfl,p,dx,_,rfl,hp1,bW _ _ _ _,p,dx,co,wt,bg,true,rfl,hp1,λ l3 H3 n3 hp3 hl3 kp3=>g1 _ _ ?_⟩
 clear g1;have k3:∀e o,H e=some o->e≠p->H3 e=some o:=λ e o z n=>kp3 _ _ (k1 _ _ z n) n
 have nH3:=no1 _ n3;have hCo3:CoAt CO CK H3 co ck g (A'.take (64*nb A')) (nb A') (wn A' (nb A')):=hCo.keep λ e o z hz=>k3 _ _ z (by rcases hz with rfl|rfl|rfl;exact npc;exact npk;exact ngp)
 have hw3:=k3 _ _ hw nwp;have hT3:TbB Tb H3:=tb_keep hT λ e o z hn _=>k3 _ _ z (ne_of z hp (hn _ _ _))
 clear kp3 k1 hp1 no1;refine seq_g λ R1 g1=>?_
 have J:∀(R S G:List Nat) (b:Nat) (g5:HZ) (H5:Hp),LB A' R->S=A'->CoAt CO CK H5 co ck g5 S b G->R.length≤100->H5 l3=some (.lst ((mk bg++R).map vN))->H5 p=some (.ins C dx (fP co wt true true))->(∀e o,e≠Tb->H e=some o->e≠p->e≠co->e≠ck->H5 e=some o)->TbB Tb H5->R1 [some (.ref p),some (.ref l3)] H5:=by
  intro R S G b g5 H5 hLB eS hC5 hR hl5 hp5 fr5 hT5;subst eS;refine g1 _ _ ?_;obtain⟨dxo5,hco5⟩:=hC5.ob;refine⟨_,rfl,_,rfl,p,C,dx,_,_,rfl,hp5,T0.cl,T0.nC,yH _ _ _ _,co,dxo5,_,rfl,hco5,tu _ _ _ _,co,ck,g5,_,G,b,rfl,hC5,λ lt H6 nt s56 Ir=>?_⟩;refine⟨l3,lt,_,_,rfl,rfl,s56 _ _ hl5,Ir,bj (by
   have hmk:(mk bg).length≤3:=by cases bg<;>decide
   rw [A9,A9,Bb];show _+11≤2000;lia),λ l nl=>?_⟩
  have s67:=aj (o:=.lst ((mk bg++R).map vN++(tailR S.length (chk 16 45 S)).map vN)) nl;refine k l dx wt R _ ?_ hLB (by rw [ac,<-Bm]) (s67 _ _ (s56 _ _ hp5)) (λ e o n z n1 n2 n3=>s67 _ _ (s56 _ _ (fr5 _ _ n z n1 n2 n3))) ((hT5.same s56).same s67);have n5:H5 l=none:=none_of s56 nl;cases e:H l with
  |none=>rfl
  |some o=>
   exfalso;by_cases z1:l=p
   ·subst z1;rw [hp5] at n5;cases n5
   ·by_cases z2:l=co
    ·subst z2;rw [hco5] at n5;cases n5
    ·by_cases z3:l=ck
     ·obtain⟨_,hk5⟩:=hC5.ch;subst z3;rw [hk5] at n5;cases n5
     ·by_cases z4:l=Tb
      ·obtain⟨ps,h,_⟩:=hT5;subst z4;rw [h] at n5;cases n5
      ·rw [fr5 _ _ z4 e z1 z2 z3] at n5;cases n5
 clear g1;refine⟨_,rfl,p,C,dx,_,_,rfl,hp3,T0.cl,T0.nW,xM _ _ _ _,wt,_,rfl,.inl (SqL.of hw3),_,_,rfl,rfl,_,rfl,bd (λ hc=>?_) (λ hc=>?_)⟩
 ·have h0:A'.length%64≠0:=by
   have:=Bp hc;rw [A9,By] at this;unfold nb at this;omega
  have tw:=pQ hA h0;refine⟨_,rfl,.inl ⟨rfl,_,SqL.of hl3⟩,_,rfl,p,dx,_,rfl,hp3,bW _ _ _ _,_,rfl,p,C,dx,_,_,rfl,hp3,T0.cl,T0.nW,xM _ _ _ _,?_⟩;refine⟨p,dx,co,wt,ck,g,wt,true,true,_,_,_,nb A',rfl,hp3,hCo3,hw3,tw,hT3,λ l6 g6 R H6 n6 ng6 pb hl6 hC6 kp6 hT6=>?_⟩;have hR:=(pb.facts tw).2;have hco3:=hCo3.ob;have hck3:=hCo3.ch;obtain⟨_,hco3⟩:=hco3;obtain⟨_,hck3⟩:=hck3;have hl36:=kp6 _ _ (hT3.ne hl3 (by intro ps y;cases y)) hl3 (ne_of hl3 hco3 (by intro y;cases y)) (ne_of hl3 hck3 (by intro y;cases y));have hp6:=kp6 _ _ (hT3.ne hp3 (by intro ps y;cases y)) hp3 npc.symm npk.symm;refine⟨l3,l6,_,_,rfl,rfl,hl36,hl6,bj (by
   have hmk:(mk bg).length≤3:=by cases bg<;>decide
   rw [A9,A9];lia),?_⟩
  refine J R _ _ _ g6 _ (.inr ⟨h0,pb⟩) (B8 _ _) (hC6.keep λ e o z hz=>?_) (Ba hR Z9) (by rw [ac,Bm]) (by rw [upd_ne (ne_of hp6 hl36 (by intro z;cases z))];exact hp6) (λ e o n z n1 n2 n3'=>?_) (tb_keep hT6 λ e o z _ hn=>by rw [upd_ne (ne_of z hl36 (hn _))];exact z)
  ·obtain⟨_,hco6⟩:=hC6.ob;obtain⟨_,hck6⟩:=hC6.ch;rw [upd_ne (by
    rcases hz with rfl|rfl|rfl
    ·exact ne_of hco6 hl36 (by intro y;cases y)
    ·exact ne_of hck6 hl36 (by intro y;cases y)
    ·exact(ai hl3 ng6).symm)]
   exact z
  ·rw [upd_ne (ai z nH3)];exact kp6 _ _ n (k3 _ _ z n1) n2 n3'
 ·have h0:A'.length%64=0:=by
   have h1:¬((0:Int)<((((A'.drop (64*nb A')).map vN).length:Nat):Int)):=λ z=>hc (Bj z)
   rw [A9,By] at h1;unfold nb at h1;omega
  refine J [] _ _ _ g H3 (.inl ⟨h0,rfl⟩) (BQ (by unfold nb;lia)) hCo3 Z9 (by rw [Ct];exact hl3) hp3 (λ e o _ z n _ _=>k3 _ _ z n) hT3
end
def WH (T Z:List Nat):Prop:=∃(Rs:List (List Nat)) (R:List Nat),Rs.length=nb T/\(∀j R,Rs[j]?=some R->Bl T j R)/\LB T R/\Z=[184,66,1]++Rs.flatten++R++tailR T.length (chk 16 45 T)
section
variable {B D G' CW C0 C1 C2 C3 c CK CHd CO C cO cR Tb:HZ}
def qX (Tb:HZ):Sp:=λ vs H Q _=>∃(a:HZ) (T:List Nat),vs=[.ref a]/\H a=some (.lst (T.map vN))/\(∀x∈T,x<256)/\T.length≤1000/\TbB Tb H/\∀(l:HZ) (Y:List Nat) (H':Hp),H l=none->WH T Y->H' l=some (.lst (Y.map vN))->(∀e o,e≠Tb->H e=some o->H' e=some o)->TbB Tb H'->Q (.ref l) H'
theorem scPressed:FnScope ["text","presser","bale"] ["text"] (ak iF):=scK Z8
theorem kN {F:List Nat}(hb:∀x∈F,x<256):∀(Rs:List (List Nat)) (i:Nat),i+Rs.length≤nb F->(∀j R,Rs[j]?=some R->Bl F (i+j) R)->Rs.flatten.length≤69*Rs.length
 | [],_,_,_=>BX _
 |R::Rs,i,h,hR=>by
  rw [Bq] at h;have h1:=kN hb Rs (i+1) Z5 λ j R' e=>by
   have:=hR (j+1) R' (by simpa using e);rw [show i+1+j=i+(j+1) by lia];exact this
  have h0:Bl F i R:=hR 0 R rfl;have h2:=(h0.facts (se (by unfold nb at h;lia) hb)).2;rw [CG,Bb,Bq];lia
theorem LB.len {R:List Nat}(h:LB A R)(hb:∀x∈A,x<256):R.length≤69:=by
 rcases h with⟨_,rfl⟩|⟨h0,h⟩
 ·decide
 ·exact(h.facts (pQ hb h0)).2
theorem oh (F:Fn K mg "pressed" iF ["text"] f fd)(Z:Prz K mg B D G' CW C0 C1 C2 C3 c CK CHd CO C cO)(mR:mg "BadRow"=some (.ref cR))(xR:ExC K cR)(hC:CodeHd base c Tb)(hBm:BmAt mg base)(hK:K.lookup Tb=none):FnOk P w K mg base CX0 43 f fd ["text"] (qX Tb):=by
 have T0:=Z.T;obtain⟨_,_,FI,bI,MI⟩:=Z.init;obtain⟨_,_,Fe⟩:=Z.feed;obtain⟨_,_,Fi⟩:=Z.finish;refine F.F.ok scPressed λ Iq A outer st H vs Q E hr h=>?_
 intro _;obtain⟨a,T,rfl,ha,hb,hl,hT,k⟩:=h;have hr7:Room 7 _:=hr.mono Z9;refine⟨_,ad (ar (i:=1) scPressed.nd (cA MI (k9 FI Z) hr7 Z7 T0.m bI .nil aw))
  (ad (ar (i:=2) scPressed.nd (aV (pv 1) T0.cl Fe.m (gM Fe.F Z mR xR hC hBm hK) hr Fe.b .nil ig (aa (pv 0) ae)))
  (ag (ax (am aR (pv 2) (a8 (pv 1) T0.cl Fi.m (j9 Fi.F Z hC hBm hK) hr Fi.b .nil ig))))),?_⟩
 refine seq_g λ R1 g1=>?_
 intro p dp np ndp nep;have s0:=bR (C:=C) np ndp;refine⟨p,dp,rfl,ac,λ co ck H1 nco nck hP kp1=>⟨rfl,g1 _ _ ?_⟩⟩;clear g1;have s1:Same H H1:=λ e o z=>kp1 _ _ (s0 _ _ z) (ai z np)
 have ncoH:=none_of s0 nco;have nckH:=none_of s0 nck;clear kp1 s0;refine seq_g λ R1 g1=>?_
 obtain⟨⟨dx1,wt1,gg1,hp1,_,_⟩,_⟩:=id hP;refine⟨_,rfl,p,dx1,_,rfl,hp1,bW _ _ _ _,_,rfl,p,.ref a,rfl,.inr ⟨co,ck,[],false,hP,.inr ⟨T,⟨a,rfl,s1 _ _ ha,hb⟩,hl,hT.same s1,λ l Rs H2 nl hRl hRs hl2 hP2 fr2 hT2 _=>g1 _ _ ?_⟩⟩⟩;clear g1;obtain⟨⟨dx2,wt2,gg2,hp2,_,_⟩,_⟩:=id hP2;have hRl':Rs.length=nb T:=by
  have:nb ([]:List Nat)=0:=rfl;rw [this,C5] at hRl;exact hRl
 have hRs':∀j R,Rs[j]?=some R->Bl T j R:=λ j R e=>by
  have:=hRs j R e;rw [show nb ([]:List Nat)+j=j from C5 j] at this;exact this
 refine⟨_,rfl,_,rfl,p,dx2,_,rfl,hp2,bW _ _ _ _,p,rfl,.inr ⟨co,ck,T,true,hP2,hl,hT2,λ l5 dx5 wt5 R H5 nl5 hLB hl5 hp5 fr5 hT5=>?_⟩⟩;have nlp:∀{e:HZ} {xs:List V},H2 e=some (.lst xs)->e≠p/\e≠co/\e≠ck/\e≠Tb:=λ z=>by
  obtain⟨⟨_,_,_,h,_,hCo⟩,_⟩:=hP2;obtain⟨_,hco⟩:=hCo.ob;obtain⟨_,hck⟩:=hCo.ch;exact⟨ne_of z h (by intro y;cases y),ne_of z hco (by intro y;cases y),ne_of z hck (by intro y;cases y),hT2.ne z (by intro ps y;cases y)⟩
 obtain⟨m1,m2,m3,m4⟩:=nlp hl2;have hl25:=fr5 _ _ m4 hl2 m1 m2 m3;have hfl:=kN hb Rs 0 Z5 λ j R e=>by rw [C5];exact hRs' j R e
 have hRlen:=hLB.len hb;have hnb:nb T≤15:=by unfold nb;lia
 have ht11:(tailR T.length (chk 16 45 T)).length=11:=rfl;refine⟨l,l5,_,_,rfl,rfl,hl25,hl5,bj (by
  rw [A9,A9,Bb,Bb,Bb,ht11];show 3+_+(0+_+11)≤2000;lia),λ l6 n6=>?_⟩
 have s6:=aj (o:=.lst ((mk false++Rs.flatten).map vN++(mk true++R++tailR T.length (chk 16 45 T)).map vN)) n6;have frA:∀e o,e≠Tb->H e=some o->H5 e=some o:=λ e o n z=>by
  have n1:e≠p:=ai z np;have n2:e≠co:=ai z ncoH;have n3:e≠ck:=ai z nckH;exact fr5 _ _ n (fr2 _ _ n (s1 _ _ z) n1 n2 n3) n1 n2 n3
 refine k l6 _ _ (gR hT5 frA n6) ⟨Rs,R,hRl',hRs',hLB,rfl⟩ ?_ (λ e o n z=>s6 _ _ (frA _ _ n z)) (hT5.same s6);rw [ac,<-Bm];show some (HO.lst (([184,66,1]++Rs.flatten++([]++R++tailR T.length (chk 16 45 T))).map vN))=_;rw [CJ,<-Be]
end
end K24.Ck
namespace CK
variable {m n p s w:Nat}
theorem yT (hw:0<w)(hs:s<2^w):s.testBit (w-1)=decide (2^w≤s*2):=by
 rw [EL];have e:2^w=2^(w-1)*2:=by rw [<-Df];congr 1;exact(Ez hw).mp rfl
 have hp:0<2^(w-1):=DG Z9;have Ir:s/2^(w-1)<2:=GU (Bn hs e);by_cases h:2^w≤s*2
 ·have:1≤s/2^(w-1):=(Nat.le_div_iff_mul_le hp).mpr Z5;have e1:s/2^(w-1)=1:=Nat.eq_of_le_of_lt_succ this Ir;rw [e1];simp [h]
 ·have:s/2^(w-1)=0:=HF Z5;rw [this];simp [h]
theorem Ar (hw:0<w)(hp:p<2^w)(hs:s<2^w):T w p s=if s.testBit (w-1) then(s*2)^^^(2^w+p) else s*2:=by
 unfold T;rw [yT hw hs];by_cases h:2^w≤s*2
 ·simp only [h,decide_true,if_true];have e1:s*2%2^w=s*2-2^w:=by
   rw [Nat.mod_eq_sub_mod h,FG Z4]
  have e2:s*2=(1*2^w)^^^(s*2-2^w):=by
   rw [df 1 _ w Z4];omega
  have e3:2^w+p=(1*2^w)^^^p:=by
   rw [df 1 _ w hp];lia
  rw [e1,e3]
  conv=>rhs;rw [e2]
  rw [FT (1*2^w) p,<-DM,FT (1*2^w),DM,DM,FT p,<-DM (1*2^w),Nat.xor_self,Nat.zero_xor]
 ·simp only [h,decide_false,FE,Dk,Nat.xor_zero];exact FG (FJ h)
noncomputable def lay (w m s V:Nat):Nat:=(s*2^m)^^^((V%2^m)*2^w)
theorem jc {V:Nat}(hw:0<w):lay w (m+1) s V=((s^^^((V/2^m%2)*2^(w-1)))*2^(m+1))^^^((V%2^m)*2^w):=by
 unfold lay;have e1:V%2^(m+1)=((V/2^m%2)*2^m)^^^(V%2^m):=by
  rw [df _ _ m (DK _ (DG Z9)),Df,Nat.mod_mul,Dt (2^m),Fh]
 have e2:(V/2^m%2)*2^(w-1)*2^(m+1)=(V/2^m%2)*2^m*2^w:=by
  rw [CN,CN,<-Ee,<-Ee];congr 2;lia
 rw [e1,<-dg,<-dg,e2,DM]
theorem vH {V:Nat}(hw:0<w)(hs:s<2^w):(lay w (m+1) s V).testBit (w+m)=(s^^^((V/2^m%2)*2^(w-1))).testBit (w-1):=by
 rw [jc hw,HQ,Nat.testBit_mul_two_pow];have h1:((V%2^m)*2^w).testBit (w+m)=false:=by
  apply Gd;rw [Ee,Dt (2^w)];exact(EM (DG Z9)).mpr (DK _ (DG Z9))
 have h2:m+1≤w+m:=Z5;rw [h1,show w+m-(m+1)=w-1 by lia];simp [h2]
theorem uM {V:Nat}(hw:0<w)(hp:p<2^w)(hs:s<2^w):
  (if(lay w (m+1) s V)/2^(w+m)%2=1 then lay w (m+1) s V^^^((2^w+p)*2^m) else lay w (m+1) s V)=lay w m (T w p (s^^^((V/2^m%2)*2^(w-1)))) V:=by
 have hb:=vH (m:=m) (V:=V) hw hs;rw [EL] at hb;have hs1:s^^^((V/2^m%2)*2^(w-1))<2^w:=by
  refine Hj hs ?_;have e:2^w=2*2^(w-1):=by rw [<-FX];congr 1;lia
  rw [e];exact(EM (DG Z9)).mpr (DK _ Z9)
 rw [Ar hw hp hs1,<-hb,jc hw];generalize s^^^((V/2^m%2)*2^(w-1))=u at*;unfold lay;by_cases h:(u*2^(m+1)^^^V%2^m*2^w)/2^(w+m)%2=1
 ·simp only [h,decide_true,if_true];rw [<-dg,FX,<-CN,DM,DM,FT (V%2^m*2^w)]
 ·simp only [h,decide_false,FE,Dk];rw [FX,<-CN]
noncomputable def dv (w p n:Nat):Nat->Nat->Nat
 |0,N=>N
 |k+1,N=>if dv w p n k N/2^(n+w-1-k)%2=1 then dv w p n k N^^^((2^w+p)*2^(n-1-k)) else dv w p n k N
theorem Ay (hp:p<2^w):∀(m s V:Nat),s<2^w->F w p m s V<2^w
 |0,s,V,h=>h
 |m+1,s,V,h=>yX hp
theorem xk {V:Nat}(hw:0<w)(hp:p<2^w)(hs:s<2^w)(hV:V<2^n):∀k,k≤n->dv w p n k ((V*2^w)^^^(s*2^n))=lay w (n-k) (F w p k s (V/2^(n-k))) V
 |0,_=>by
  unfold dv lay F;rw [ES,FG hV,FT]
 |k+1,h=>by
  have ih:=xk hw hp hs hV k (Dp h);have e:n-k=(n-(k+1))+1:=Z5;unfold dv;rw [ih,show n+w-1-k=w+(n-(k+1)) by omega,show n-1-k=n-(k+1) by lia,e];rw [uM hw hp (Ay hp _ _ _ hs)];congr 1;show _=T w p (F w p k s (V/2^(n-(k+1))/2)^^^_);rw [Nat.div_div_eq_div_mul,<-Df]
theorem dv_end {V:Nat}(hw:0<w)(hp:p<2^w)(hs:s<2^w)(hV:V<2^n):dv w p n n ((V*2^w)^^^(s*2^n))=F w p n s V:=by
 rw [xk hw hp hs hV n (Bh _)];unfold lay;simp [Nat.mod_one]
end CK
set_option maxHeartbeats 4000000
namespace K24.Ck
open PySem L2 QQ
variable {f:HZ}{fd:Ih}
abbrev ko:Im:=top 112
abbrev jI:Im:=top 113
abbrev kI:Im:=top 116
theorem vS {X:Cx}:OpR X (binaryOp .LShift) (rI (λ i j=>0≤j/\j≤1000000/\i.natAbs<2^100000) λ i j=>.int (i*2^j.toNat)):=opI λ i j _ _ _ _ _ hc q=>by
 refine PyProof.Rows.lshift_int hc.1 ?_ q;have:=PyProof.Rows.intBits_le hc.2.2;have:=hc.2.1;lia
theorem zp {w p:Nat}{B:List Nat}(hw:WP w p)(hb:∀b∈B,b<256):chk w p B=CK.F w p (8*B.length) (2^w-1) (BP.val B):=by
 unfold chk;rw [xg B.length B rfl hb,CK.G_F hw.facts.1]
section
def xV (K:Frag):Sp:=λ vs H Q _=>∃(a:HZ) (ns:List Int) (k:Nat),vs=[.ref a,vN k]/\SqL K H a (ns.map V.int)/\Q (.int (ns.getD k 0)) H
theorem yj:FnScope ["_law_script","_law_k"] ["_law_script","_law_k"] (ak ko):=scK Z8
theorem uX (F:Fn K mg "_law_cell_at" ko ["_law_script","_law_k"] f fd)(X:K24.Txt K mg):FnOk P w K mg base CX0 1 f fd ["_law_script","_law_k"] (xV K):=by
 refine F.F.ok yj λ Iq A outer st H vs Q E hr h=>?_
 intro _;obtain⟨a,ns,k,rfl,hS,q⟩:=h;refine⟨_,ad (aL (aA jw (pv 1) (az ay Z7 X.len BV (aa (pv 0) ae)) (aC _)) (ag (ax (aM aW (pv 0) (pv 1) (λ _ _=>rfl)))) aD)
  (ag (ax af)),?_⟩
 refine⟨_,rfl,_,rfl,a,_,rfl,.inl hS,_,_,rfl,rfl,_,rfl,?_⟩;refine bd (λ h1=>?_) (λ h1=>?_)
 ·have h2:k<ns.length:=by have:=Bp h1;rw [A9] at this;exact EC.mp this
  refine⟨_,rfl,_,rfl,a,_,_,V.int (ns.getD k 0),rfl,rfl,hS,aB ?_,q⟩;rw [B4,Bg h2,Ca,Bg h2];rfl
 ·have h1':decide ((k:Int)<((ns.map V.int).length:Int))≠true:=h1;have h2:ns.length≤k:=by
   rw [A9] at h1';by_cases h:(k:Int)<(ns.length:Int)
   ·exact absurd (Bj h) h1'
   ·exact Hk.mp (Int.not_lt.1 h)
  try dsimp only
  rw [Ca,BS h2] at q;exact q
noncomputable def yw (c k:Int):Int:=((c*48271+16807*k*k+69621*k+11)%2147483647*69621)%2147483629
def mixN (c k:Int):Nat:=(yw c k).toNat
theorem wE (c k:Int):((mixN c k:Nat):Int)=yw c k:=Int.toNat_of_nonneg (Int.emod_nonneg _ Z9)
def vX:Sp:=λ vs H Q _=>∃(c k:Int),vs=[.int c,.int k]/\0≤k/\k≤1000/\Q (vN (mixN c k)) H
theorem u5:FnScope ["_law_cell","_law_k"] ["_law_cell","_law_k"] (ak jI):=scK Z8
theorem mD (F:Fn K mg "_law_mixed" jI ["_law_cell","_law_k"] f fd):FnOk P w K mg base CX0 1 f fd ["_law_cell","_law_k"] vX:=by
 refine F.F.ok u5 λ Iq A outer st H vs Q E hr h=>?_
 intro _;obtain⟨c,k,rfl,h0,h1,q⟩:=h;refine⟨_,ag (ax (am a7 (am bZ (am a7 (am aK (am aK (am aK (am bZ (pv 0) af) (am bZ (am bZ af (pv 1)) (pv 1))) (am bZ af (pv 1))) af) af) af) af)),?_⟩;refine⟨_,rfl,_,_,rfl,rfl,.inr ⟨Z9,Z9⟩,_,rfl,_,_,rfl,rfl,.inl ⟨Z9,Z9⟩,_,rfl,_,_,rfl,rfl,.inr ⟨Z5,Z5⟩,_,_,rfl,rfl,?_⟩;refine⟨_,rfl,_,_,rfl,rfl,.inl ⟨Z9,Z9⟩,_,_,rfl,rfl,_,_,rfl,rfl,_,_,rfl,rfl,(by show(0:Int)<2147483647;decide),_,_,rfl,rfl,.inr ⟨Z9,Z9⟩,_,_,rfl,rfl,(by show(0:Int)<2147483629;decide),?_⟩
 try dsimp only
 rw [show(vN (mixN c k):V)=V.int (yw c k) from congrArg V.int (wE c k)] at q;exact q
theorem scRest:FnScope ["_law_row","_law_wide","_law_number","_law_byte","_law_size","_law_divisor","_law_k"] ["_law_row","_law_wide"] (ak kI):=scK Z8
def yc:Sp:=λ vs H Q _=>∃(a:HZ) (B:List Nat) (n p:Nat),vs=[.ref a,vN n]/\WP n p/\H a=some (.lst (B.map vN))/\(∀b∈B,b<256)/\B.length≤1000/\∀H',Same H H'->Q (vN (chk n p B)) H'
theorem qb (F:Fn K mg "_law_check" kI ["_law_row","_law_wide"] f fd)(X:K24.Txt K mg):FnOk P w K mg base CX0 1 f fd ["_law_row","_law_wide"] yc:=by
 refine F.F.ok scRest λ Iq A outer st H vs Q E hr h=>?_
 intro _;obtain⟨a,B,n,p,rfl,hw,ha,hb,hlen,q⟩:=h;obtain⟨h8,h16,hodd,hp⟩:=hw.facts;refine⟨_,ad (ar (i:=2) scRest.nd af)
  (ad (bf BW rfl (bi (pv 0)) (aJ (i:=3) scRest.nd) (ag (ar (i:=2) scRest.nd (am aK (am bZ (pv 2) af) (pv 3)))))
  (ad (ar (i:=4) scRest.nd (am bZ af (az ay Z7 X.len BV (aa (pv 0) ae))))
  (ad (ar (i:=2) scRest.nd (am kz (am vS (pv 2) (pv 1)) (am b8 (am aY (am b8 af (pv 1)) af) (pv 4))))
  (ad (ar (i:=5) scRest.nd (am aK (am b8 af (pv 1)) (aM aW (aE (aa af (aa af ae))) (bw gh Z7 X.int EA (aa (fF bP (pv 1) af (aC _)) ae)) (λ _ _=>rfl))))
  (ad (bf BW rfl (cS Z7 X.range (aa (pv 4) ae)) (aJ (i:=6) scRest.nd) (ag (aL (aA bP (am a7 (am il (pv 2) (am aY (am aY (am aK (pv 4) (pv 1)) af) (pv 6))) af) af (aC _)) (ag (ar (i:=2) scRest.nd (am kz (pv 2) (am b8 (pv 5) (am aY (am aY (pv 4) af) (pv 6)))))) aD)))
  (ag (ax (pv 2)))))))),?_⟩
 refine⟨_,rfl,a,rfl,⟨_,SqL.of ha⟩,bx (D:=⟨_,_,λ _ _=>False,λ _ _=>False⟩) (K:=K) (a:=a) (xs:=B.map vN) (λ i σ H2=>∃v:Option V,σ=[some (.ref a),some (vN n),some (vN (BP.val (B.take i))),v,none,none,none]/\H2=H)
  ⟨none,rfl,rfl⟩ (λ i σ H2 _ z9=>by obtain⟨_,_,e⟩:=z9;exact by rw [e];exact SqL.of ha) ?_ ?_⟩
 ·rintro i y σ H2 hi ⟨v,rfl,rfl⟩;obtain⟨b,hb1,rfl⟩:=cj hi;refine⟨_,rfl,_,_,rfl,rfl,.inr ⟨Z9,Z9⟩,_,rfl,_,_,rfl,rfl,?_⟩;have e:(BP.val (B.take i):Int)*256+(b:Int)=((BP.val (B.take (i+1)):Nat):Int):=by rw [cM hb1,BP.val_snoc];lia
  exact⟨some (vN b),congrArg (λ z:Int=>[some (V.ref a),some (vN n),some (V.int z),some (vN b),none,none,none]) e,rfl⟩
 rintro σ H2 ⟨v,rfl,rfl⟩;rw [A9,Cc];have hV:=BP.val_lt hb;rw [BP.pow256] at hV;have eL:(8:Int)*((B.map vN).length:Int)=((8*B.length:Nat):Int):=by rw [A9];lia
 have eS:((8*B.length:Nat):Int)+(n:Int)=((8*B.length+n:Nat):Int):=FN _ _;have e1:(1:Int)*2^((n:Nat):Int).toNat=((2^n:Nat):Int):=by have:=du 1 n;simpa using this
 have hp1:1≤2^n:=Nat.one_le_two_pow;have e2:((2^n:Nat):Int)-1=((2^n-1:Nat):Int):=(Eh hp1).symm;refine⟨_,rfl,a,_,rfl,.inl (SqL.of ha),_,_,rfl,rfl,.inl ⟨Z9,Z9⟩,?_⟩;dsimp only;rw [eL];refine⟨_,rfl,_,rfl,_,_,rfl,rfl,⟨BZ _,Int.ofNat_le.2 (Ba h16 Z9),?_⟩,_,rfl,_,_,rfl,rfl,⟨BZ _,Int.ofNat_le.2 (Ba h16 Z9),Z9⟩,?_⟩
 ·rw [Hl];exact Bf hV (Du Z9 Z5)
 dsimp only;rw [e1];refine⟨_,_,rfl,rfl,?_⟩;dsimp only;rw [e2];have h216:2^n≤2^16:=Du Z9 h16;refine⟨_,rfl,_,_,rfl,rfl,⟨BZ _,Z5,by rw [Hl];exact B0 (Ek _ _) (B0 h216 Z9)⟩,?_⟩;dsimp only;rw [du,du];refine⟨_,_,rfl,rfl,?_⟩;dsimp only;rw [fJ];generalize hN0:(BP.val B*2^n)^^^((2^n-1)*2^(8*B.length))=N0;refine⟨_,rfl,_,_,rfl,rfl,⟨BZ _,Int.ofNat_le.2 (Ba h16 Z9),Z9⟩,?_⟩;dsimp only;rw [e1];refine⟨(by show 2≤sizeLine;decide),λ l1 hl1=>⟨_,rfl,rfl,.inr ⟨_,rfl,?_⟩⟩⟩;have s1:Same H2 (upd H2 l1 (.lst [.int 29,.int 45])):=aj hl1;have hdiv:∃j:Nat,(if decide (vN n=V.int 16)=true then(1:Int) else 0)=(j:Int)/\([V.int 29,V.int 45]:List V)[j]?=some (vN p):=by
  rcases hw with⟨rfl,rfl⟩|⟨rfl,rfl⟩
  ·exact⟨0,rfl,rfl⟩
  ·exact⟨1,rfl,rfl⟩
 obtain⟨j,ej,hj⟩:=hdiv;dsimp only;rw [ej];refine⟨l1,_,_,vN p,rfl,rfl,SqL.of ac,aB hj,_,_,rfl,rfl,?_⟩;have eD:((2^n:Nat):Int)+(p:Int)=((2^n+p:Nat):Int):=FN _ _;dsimp only;rw [eD];refine⟨_,rfl,_,rfl,Z5,Z5,b9 (D:=⟨_,_,λ _ _=>False,λ _ _=>False⟩) (lo:=0) (n:=((8*B.length:Nat):Int).toNat)
  (λ i σ H3=>∃v6,σ=[some (.ref a),some (vN n),some (vN (CK.dv n p (8*B.length) i N0)),v,some (vN (8*B.length)),some (vN (2^n+p)),v6]/\H3=upd H2 l1 (.lst [.int 29,.int 45])) ⟨none,rfl,rfl⟩ ?_ ?_⟩
 ·rintro i σ H3 hi ⟨v6,rfl,rfl⟩;rw [BO] at hi;have e0:(0:Int)+(i:Int)=(i:Int):=Z5;rw [e0];have ea:((8*B.length:Nat):Int)+(n:Int)-1-(i:Int)=((8*B.length+n-1-i:Nat):Int):=Z5;have eb:((8*B.length:Nat):Int)-1-(i:Int)=((8*B.length-1-i:Nat):Int):=Z5;refine⟨_,rfl,_,rfl,_,rfl,_,_,rfl,rfl,_,_,rfl,rfl,_,rfl,_,_,rfl,rfl,?_⟩;dsimp only;rw [ea];refine⟨_,_,rfl,rfl,Z4,?_⟩;dsimp only;rw [jN];generalize hM:CK.dv n p (8*B.length) i N0=M at*;have eS2:CK.dv n p (8*B.length) (i+1) N0=if M/2^(8*B.length+n-1-i)%2=1 then M^^^((2^n+p)*2^(8*B.length-1-i)) else M:=by rw [<-hM];rfl
  refine⟨_,_,rfl,rfl,(by show(0:Int)<2;decide),rfl,_,rfl,bd (λ h1=>?_) (λ h1=>?_)⟩
  ·have h1':M/2^(8*B.length+n-1-i)%2=1:=by have:=V.int.inj (Bp h1);exact DR ((λ {m n}=>G0.mp) this.symm)
   rw [BM h1'] at eS2;refine⟨_,rfl,_,rfl,_,rfl,_,_,rfl,rfl,_,rfl,_,_,rfl,rfl,?_⟩;dsimp only;rw [eb];refine⟨_,_,rfl,rfl,⟨BZ (8*_-1-_),Z5,?_⟩,?_⟩
   ·rw [Hl];lia
   dsimp only;rw [du];refine⟨_,_,rfl,rfl,?_⟩;dsimp only;rw [fJ,<-eS2];exact⟨_,rfl,rfl⟩
  ·have h1':¬M/2^(8*B.length+n-1-i)%2=1:=λ e=>h1 (Bj (congrArg V.int (DR (Nat.ToInt.of_eq rfl rfl e.symm))))
   rw [Bu h1'] at eS2;rw [eS2];exact⟨_,rfl,rfl⟩
 ·rintro σ H3 ⟨v6,rfl,rfl⟩;refine⟨_,rfl,?_⟩;rw [BO,<-hN0,CK.dv_end (Hy h8) hp Z5 hV,<-zp hw hb];exact q _ s1
end
end K24.Ck
set_option maxHeartbeats 4000000
namespace K24.Ck
open PySem L2 QQ W17 W16 BP
seal PE PA PS PSs PT PW PG PI
variable {rs:List HZ}{f:HZ}{fd fdC:Ih}{n:Nat}{H:Hp}{Ls:List (List Nat)}
abbrev gL:Im:=top 117
abbrev nz:Im:=top 120
theorem kn (h:n<65536): [V.int (((n:Nat):Int)/256),V.int (((n:Nat):Int)%256)]=(two n).map vN:=by
 have e1:((n:Nat):Int)/256=((n/256:Nat):Int):=DR (Nat.ToInt.div_congr rfl rfl);have e2:((n:Nat):Int)%256=((n%256:Nat):Int):=Z5;rw [e1,e2];rfl
section
theorem scSealed:FnScope ["_law_row","_law_check_here"] ["_law_row"] (ak gL):=scK Z8
theorem rc {fC:HZ}(F:Fn K mg "_law_sealed" gL ["_law_row"] f fd)(Ch:Fn K mg "_law_check" kI ["_law_row","_law_wide"] fC fdC)(X:K24.Txt K mg):FnOk P w K mg base CX0 2 f fd ["_law_row"] gq:=by
 refine F.F.ok scSealed λ Iq A outer st H vs Q E hr h=>?_
 intro _;obtain⟨a,R,rfl,ha,hb,hl,k⟩:=h;refine⟨_,ad (ar (i:=1) scSealed.nd (aq (qb Ch X) hr Z7 Ch.m Ch.F.kp Ch.b .nil aw (aa (pv 0) (aa af ae))))
  (ag (ax (am aR (pv 0) (aE (aa (am a9 (pv 1) af) (aa (am a7 (pv 1) af) ae)))))),?_⟩
 refine seq_g λ _ g1=>⟨_,rfl,a,R,16,45,rfl,iz,ha,hb,hl,λ H1 s1=>g1 _ _ ?_⟩
 clear g1;have hc:chk 16 45 R<65536:=eC iz hb;refine⟨_,rfl,_,rfl,_,_,rfl,rfl,⟨Z9,Z9⟩,_,rfl,_,_,rfl,rfl,(by show(0:Int)<256;decide),(by show 2≤sizeLine;decide),λ l1 n1=>?_⟩
 try dsimp only
 rw [kn hc];have s2:=aj (o:=.lst ((two (chk 16 45 R)).map vN)) n1;have h11:(upd H1 l1 (.lst ((two (chk 16 45 R)).map vN))) l1=some (.lst ((two (chk 16 45 R)).map vN)):=ac;have ha2:=s2 _ _ (s1 _ _ ha);have s12:=s1.trans s2;generalize upd H1 l1 (.lst ((two (chk 16 45 R)).map vN))=H2 at*;refine⟨a,l1,_,_,rfl,rfl,ha2,h11,bj (by rw [A9];show R.length+2≤2000;lia),λ l nl=>?_⟩;exact k l _ (none_of s12 nl) (s12.trans (aj nl)) (by rw [ac,<-Bm];rfl)
def vz:Sp:=λ vs H Q _=>∃(a:HZ) (T:List Nat),vs=[.ref a]/\H a=some (.lst (T.map vN))/\(∀b∈T,b<256)/\T.length≤1000/\∀l H',H l=none->Same H H'->H' l=some (.lst ((tailR T.length (chk 16 45 T)).map vN))->Q (.ref l) H'
theorem scLTail:FnScope ["_law_text_here","_law_row","_law_size","_law_check_here"] ["_law_text_here"] (ak nz):=scK Z8
theorem uy {fC fS:HZ}{fdS:Ih}(F:Fn K mg "_law_tail" nz ["_law_text_here"] f fd)(Ch:Fn K mg "_law_check" kI ["_law_row","_law_wide"] fC fdC)(Se:Fn K mg "_law_sealed" gL ["_law_row"] fS fdS)(X:K24.Txt K mg):FnOk P w K mg base CX0 3 f fd ["_law_text_here"] vz:=by
 have GC:=qb (P:=P) (w:=w) (base:=base) Ch X;refine F.F.ok scLTail λ Iq A outer st H vs Q E hr h=>?_
 intro _;obtain⟨a,T,rfl,ha,hb,hl,k⟩:=h;have hr1:Room 1 _:=hr.mono Z9;refine⟨_,ad (ar (i:=1) scLTail.nd (aE (aa af (aa af (aa (aq GC hr1 Z7 Ch.m Ch.F.kp Ch.b .nil aw (aa (aE (aa af (aa af ae))) (aa af ae))) ae)))))
  (ad (ar (i:=2) scLTail.nd (az ay Z7 X.len BV (aa (pv 0) ae)))
  (ad (ar (i:=3) scLTail.nd (aq GC hr1 Z7 Ch.m Ch.F.kp Ch.b .nil aw (aa (pv 0) (aa af ae))))
  (ag (ax (aq (rc Se Ch X) hr Z7 Se.m Se.F.kp Se.b .nil aw (aa (am aR (pv 1) (aE (aa af (aa af (aa (am a9 (pv 2) af) (aa (am a7 (pv 2) af) (aa (am a9 (pv 3) af) (aa (am a7 (pv 3) af) ae)))))))) ae)))))),?_⟩
 refine seq_g λ _ g1=>⟨(by show 2≤sizeLine;decide),λ l1 n1=>?_⟩
 have s1:=aj (o:=.lst [V.int 0,V.int 0]) n1;have h11:(upd H l1 (.lst [V.int 0,V.int 0])) l1=some (.lst [V.int 0,V.int 0]):=ac;generalize upd H l1 (.lst [V.int 0,V.int 0])=H1 at*;refine⟨l1,[0,0],8,29,rfl,wp8,h11,λ c hc=>by simp at hc;exact B0 (Bz hc) Z9,Z9,λ H2 s2=>⟨(by show 3≤sizeLine;decide),λ l3 n3=>g1 _ _ ?_⟩⟩;clear g1;have s3:=aj (o:=.lst ((Iv 0 0).map vN)) n3;have h33:(upd H2 l3 (.lst ((Iv 0 0).map vN))) l3=some (.lst ((Iv 0 0).map vN)):=ac;have s03:=(s1.trans s2).trans s3;have e3:upd H2 l3 (.lst [V.int 0,V.int 0,vN (chk 8 29 [0,0])])=upd H2 l3 (.lst ((Iv 0 0).map vN)):=rfl;rw [e3];clear e3;generalize upd H2 l3 (.lst ((Iv 0 0).map vN))=H3 at*;refine seq_g λ _ g1=>⟨_,rfl,a,_,rfl,.inl (SqL.of (s03 _ _ ha)),g1 _ _ ?_⟩
 clear g1;rw [A9];refine seq_g λ _ g1=>⟨_,rfl,a,T,16,45,rfl,iz,s03 _ _ ha,hb,hl,λ H4 s4=>g1 _ _ ?_⟩
 clear g1;have hc:chk 16 45 T<65536:=eC iz hb;have s04:=s03.trans s4;refine⟨_,rfl,_,rfl,_,_,rfl,rfl,⟨Z9,Z9⟩,_,rfl,_,_,rfl,rfl,(by show(0:Int)<256;decide),_,rfl,_,_,rfl,rfl,⟨Z9,Z9⟩,_,rfl,_,_,rfl,rfl,(by show(0:Int)<256;decide),(by show 6≤sizeLine;decide),λ l5 n5=>?_⟩;have e5: [V.int 0,V.int 0,V.int (((T.length:Nat):Int)/256),V.int (((T.length:Nat):Int)%256),V.int (((chk 16 45 T:Nat):Int)/256),V.int (((chk 16 45 T:Nat):Int)%256)]=(four T.length++two (chk 16 45 T)).map vN:=by
  have h1:=kn (n:=T.length) (B0 hl Z9);have h2:=kn hc;have e4:four T.length=[0,0]++two T.length:=by
   unfold four two;rw [show T.length/65536%65536=0 by lia,show T.length%65536=T.length by lia]
  rw [e4,Bm,Bm,<-h1,<-h2];rfl
 try dsimp only
 rw [e5];have s5:=aj (o:=.lst ((four T.length++two (chk 16 45 T)).map vN)) n5;have h55:(upd H4 l5 (.lst ((four T.length++two (chk 16 45 T)).map vN))) l5=some (.lst ((four T.length++two (chk 16 45 T)).map vN)):=ac;have h53:=s5 _ _ (s4 _ _ h33);have s05:=s04.trans s5;generalize upd H4 l5 (.lst ((four T.length++two (chk 16 45 T)).map vN))=H5 at*;refine⟨l3,l5,_,_,rfl,rfl,h53,h55,(by show 9≤sizeLine;decide),λ l6 n6=>?_⟩;rw [<-Bm,<-Be];have s6:=aj (o:=.lst ((Iv 0 0++four T.length++two (chk 16 45 T)).map vN)) n6;have h66:(upd H5 l6 (.lst ((Iv 0 0++four T.length++two (chk 16 45 T)).map vN))) l6=some (.lst ((Iv 0 0++four T.length++two (chk 16 45 T)).map vN)):=ac;have s06:=s05.trans s6;generalize upd H5 l6 (.lst ((Iv 0 0++four T.length++two (chk 16 45 T)).map vN))=H6 at*;refine⟨l6,_,rfl,h66,λ b hb'=>?_,(by show 9≤1000;decide),λ l H7 nl s7 hl'=>k l H7 (none_of s06 nl) (s06.trans s7) hl'⟩;rcases Br.mp hb' with hb'|hb'
 ·rcases Br.mp hb' with hb'|hb'
  ·exact fg Z9 Z9 b hb'
  ·exact lE _ b hb'
 ·exact fx hc b hb'
end
abbrev gQ:Im:=top 119
def Rws (H:Hp)(rs:List HZ)(Ls:List (List Nat)):Prop:=Paired (λ r L=>H r=some (.lst (L.map vN))) rs Ls
theorem Rws.keep {H':Hp}(h:Rws H rs Ls)(s:∀(e:HZ) (xs:List V),H e=some (.lst xs)->H' e=some (.lst xs)):Rws H' rs Ls:=Paired.mapP h λ _ _ z=>s _ _ z
theorem Rws.snoc:∀{H:Hp} {rs:List HZ} {Ls:List (List Nat)} {r:HZ} {L:List Nat},Rws H rs Ls->H r=some (.lst (L.map vN))->Rws H (rs++[r]) (Ls++[L])
 |_,_,_,_,_,.nil,h=>.cons h .nil
 |_,_,_,_,_,.cons a b,h=>.cons a (Rws.snoc b h)
theorem Rws.len:∀{H:Hp} {rs:List HZ} {Ls:List (List Nat)},Rws H rs Ls->rs.length=Ls.length
 |_,_,_,.nil=>rfl
 |_,_,_,.cons _ b=>by rw [Bq,Bq,Rws.len b]
theorem eV (xs:List V){m:Nat}(h:m≤n):cutV xs (some ((m:Nat):Int)) (some ((n:Nat):Int))=(xs.drop m).take (n-m):=by
 unfold cutV;rw [HT.sIx_nat,HT.sIx_nat];rcases HV m xs.length with h1|h1
 ·rw [CA h1];rcases HV n xs.length with h2|h2
  ·rw [CA h2]
  ·rw [DD h2,BQ (by rw [By];exact Bh _),BQ (by rw [By];exact DY h2 _)]
 ·rw [DD h1,DD (Ba h1 h),D3 h1,HI];simp
theorem pV {F:List Nat}{i:Nat}(h:64*i<F.length)(hb:∀x∈F,x<256):TW (blk F i) (wn F i):=
 ⟨λ x hx=>hb x (Cs (Cq hx)),by unfold blk;rw [Bv,By];lia,by unfold blk;rw [Bv,By];exact Da 64 (_-64*_),λ x hx=>hb x (Cq (Cs hx)),m6 (Dp h)⟩
theorem p9 (m:Nat)(h:m≤2000):Builtin.Range.small 0 ((m:Nat):Int) 64=true/\Builtin.Range.rangeSize 0 ((m:Nat):Int) 64=(((m+63)/64:Nat):Int):=by
 have e:Builtin.Range.rangeSize 0 ((m:Nat):Int) 64=(((m+63)/64:Nat):Int):=by
  unfold Builtin.Range.rangeSize;rw [BM Z9]
  split<;>lia
 refine⟨?_,e⟩;have f:∀i:Int,0≤i->i<100000->Builtin.Range.rangeFitsLong i=true:=λ i h0 h1=>by
  unfold Builtin.Range.rangeFitsLong;rw [Bj Z5,Bj Z5];rfl
 unfold Builtin.Range.small;rw [e]
 try dsimp only
 rw [f 0 Z9 Z9,f ((m:Nat):Int) Z5 (Int.ofNat_lt.2 (B0 h Z9)),f 64 Z9 Z9,f (((m+63)/64:Nat):Int) Z5 Z5,BM Z9,f (((m:Nat):Int)+(64-1)) Z5 Z5];simp
section
variable {B D G' CW C0 C1 C2 C3 c CK CHd CO C cO Tb:HZ}
def qD (Tb:HZ):Sp:=λ vs H Q _=>∃(a:HZ) (T:List Nat),vs=[.ref a]/\H a=some (.lst (T.map vN))/\(∀b∈T,b<256)/\T.length≤1000/\TbB Tb H/\∀(l:HZ) (rs:List HZ) (Bs:List (List Nat)) (H':Hp),H l=none->H' l=some (.lst (rs.map V.ref))->Rws H' rs ([184,66,1]::Bs)->Bs.length=(T.length+63)/64->(∀i R,Bs[i]?=some R->Bl T i R)->g9 Tb H H'->TbB Tb H'->Q (.ref l) H'
theorem scLBlocks:FnScope ["_law_text_here","_law_found","_law_at","_law_window"] ["_law_text_here"] (ak gQ):=scK Z8
theorem mI (F:Fn K mg "_law_blocks" gQ ["_law_text_here"] f fd)(Z:Prz K mg B D G' CW C0 C1 C2 C3 c CK CHd CO C cO)(hC:CodeHd base c Tb)(hBm:BmAt mg base)(hK:K.lookup Tb=none):FnOk P w K mg base CX0 41 f fd ["_law_text_here"] (qD Tb):=by
 have X:=Z.Cr.Y.Z.X.R.X;obtain⟨_,_,Pb⟩:=Z.putblock;obtain⟨_,FP⟩:=Pb.F;refine F.F.ok scLBlocks λ Iq A outer st H vs Q E hr h=>?_
 intro _;obtain⟨a,T,rfl,ha,hb,hl,hT,k⟩:=h;refine⟨_,ad (ar (i:=1) scLBlocks.nd (aE (aa (aE (aa af (aa af (aa af ae)))) ae)))
  (ad (bf BW rfl (jq Z7 X.range (aa af (aa (az ay Z7 X.len BV (aa (pv 0) ae)) (aa af ae)))) (aJ (i:=2) scLBlocks.nd) (ad (ar (i:=3) scLBlocks.nd (bu bJ (pv 0) (a6 (am bZ (am a9 (pv 2) af) af)) (a6 (pv 2))))
  (ag (aF (dI Cj CD CS bv (pv 1) (aa (aq (dN FP Z.Bk hC hBm hK) hr Z7 Pb.m Pb.kp Pb.b .nil aw (aa (bu bJ (pv 0) (a6 (pv 2)) (a6 (am aK (pv 2) af))) (aa (pv 3) ae))) ae))))))
  (ag (ax (pv 1)))),?_⟩
 refine seq_g λ _ g1=>⟨(by show 3≤sizeLine;decide),λ l1 n1=>?_⟩
 have s1:=aj (o:=.lst (([184,66,1]:List Nat).map vN)) n1;have h11:(upd H l1 (.lst (([184,66,1]:List Nat).map vN))) l1=some (.lst (([184,66,1]:List Nat).map vN)):=ac;have e1:upd H l1 (.lst [V.int 184,V.int 66,V.int 1])=upd H l1 (.lst (([184,66,1]:List Nat).map vN)):=rfl;rw [e1];clear e1;generalize upd H l1 (.lst (([184,66,1]:List Nat).map vN))=H1 at*;refine⟨(by show 1≤sizeLine;decide),λ l n2=>g1 _ _ ?_⟩;clear g1;have s2:=aj (o:=.lst [V.ref l1]) n2;have h22:(upd H1 l (.lst [V.ref l1])) l=some (.lst [V.ref l1]):=ac;have s02:=s1.trans s2;have h21:=s2 _ _ h11;have nlH:=none_of s1 n2;generalize upd H1 l (.lst [V.ref l1])=H2 at*;refine seq_g λ _ g1=>⟨_,rfl,a,_,rfl,.inl (SqL.of (s02 _ _ ha)),0,_,64,(T.length+63)/64,rfl,Z9,by rw [A9];exact(p9 T.length (Ba hl Z9)).1,by rw [A9];exact(p9 T.length (Ba hl Z9)).2,Gf Z9,iN (D:=⟨_,_,λ _ _=>False,λ _ _=>False⟩) (lo:=0) (c:=64) (n:=(T.length+63)/64)
  (λ i σ H3=>∃(rs:List HZ) (Bs:List (List Nat)) (v2 v3:Option V),σ=[some (.ref a),some (.ref l),v2,v3]/\H3 l=some (.lst (rs.map V.ref))/\Rws H3 rs ([184,66,1]::Bs)/\l∉rs/\Bs.length=i/\(∀i R,Bs[i]?=some R->Bl T i R)/\(∀e o,e≠Tb->H e=some o->H3 e=some o)/\TbB Tb H3)
  ⟨[l1],[],none,none,rfl,h22,.cons h21 .nil,(λ z=>by rw [Bx.mp z,h11] at n2;cases n2),rfl,λ i R e=>by simp at e,λ e o _ z=>s02 _ _ z,hT.same s02⟩ ?_ ?_⟩
 ·rintro i σ H3 hi ⟨rs,Bs,v2,v3,rfl,hl3,hR3,hlr,hBl,hBs,fr3,hT3⟩;have naT:a≠Tb:=hT.ne ha (by intro ps z;cases z);have ha3:=fr3 _ _ naT ha;have e0:(0:Int)+((i:Nat):Int)*64=((64*i:Nat):Int):=Z5;rw [e0];have e256:((64*i:Nat):Int)/256*256=((i/4*256:Nat):Int):=Z5;have e64:((64*i:Nat):Int)+64=((64*i+64:Nat):Int):=Z5;have tw:=pV (F:=T) (i:=i) Z5 hb;refine seq_g λ _ g2=>⟨_,rfl,_,rfl,_,_,rfl,rfl,⟨Z9,Z9⟩,_,_,rfl,rfl,.inr ⟨Z9,Z9⟩,_,rfl,_,rfl,_,rfl,a,_,rfl,SqL.of ha3,λ lw nlw=>g2 _ _ ?_⟩
  clear g2
  try dsimp only
  rw [e256,eV _ Z5,show((T.map vN).drop (i/4*256)).take (64*i-i/4*256)=(wn T i).map vN by unfold wn;rw [EE,E1,List.drop_take]];have s4:=aj (o:=.lst ((wn T i).map vN)) nlw;have hlw:(upd H3 lw (.lst ((wn T i).map vN))) lw=some (.lst ((wn T i).map vN)):=ac;have hl4:=s4 _ _ hl3;have ha4:=s4 _ _ ha3;have hT4:=hT3.same s4;have hR4:=hR3.keep (H':=upd H3 lw (.lst ((wn T i).map vN))) λ e xs z=>s4 _ _ z
  have fr4:∀e o,e≠Tb->H e=some o->(upd H3 lw (.lst ((wn T i).map vN))) e=some o:=λ e o n z=>s4 _ _ (fr3 _ _ n z)
  generalize upd H3 lw (.lst ((wn T i).map vN))=H4 at*;refine⟨_,rfl,.inl ⟨rfl,_,SqL.of hl4⟩,_,rfl,_,rfl,_,rfl,_,rfl,_,_,rfl,rfl,_,rfl,a,_,rfl,SqL.of ha4,λ ls nls=>?_⟩
  try dsimp only
  rw [e64,eV _ Z5,show 64*i+64-64*i=64 from DQ _ 64,show((T.map vN).drop (64*i)).take 64=(blk T i).map vN by unfold blk;rw [E1,EE]];have s5:=aj (o:=.lst ((blk T i).map vN)) nls;have hls:(upd H4 ls (.lst ((blk T i).map vN))) ls=some (.lst ((blk T i).map vN)):=ac;have hl5:=s5 _ _ hl4;have hT5:=hT4.same s5;have hlw5:=s5 _ _ hlw;have hR5:=hR4.keep (H':=upd H4 ls (.lst ((blk T i).map vN))) λ e xs z=>s5 _ _ z
  have fr5:∀e o,e≠Tb->H e=some o->(upd H4 ls (.lst ((blk T i).map vN))) e=some o:=λ e o n z=>s5 _ _ (fr4 _ _ n z)
  generalize upd H4 ls (.lst ((blk T i).map vN))=H5 at*;refine⟨_,rfl,ls,.ref lw,blk T i,wn T i,rfl,hls,.inr ⟨lw,rfl,hlw5⟩,tw,hT5,λ l6 R H6 n6 pb hl6 sT hT6=>?_⟩;have ls6:∀(e:HZ) (xs:List V),H5 e=some (.lst xs)->H6 e=some (.lst xs):=λ e xs z=>sT _ _ (hT5.ne z (by intro ps y;cases y)) z
  have hll6:=ls6 _ _ hl5;have nl6:l≠l6:=ai hl5 n6;have hlen:=hR5.len;refine⟨l,_,_,rfl,rfl,hll6,bF (by rw [A9,hlen,Bq];lia),rs++[l6],Bs++[R],_,_,rfl,by rw [ac,Bm];rfl,?_,?_,by rw [Bb,hBl];rfl,λ j R' e=>?_,λ e o n z=>?_,?_⟩
  ·have hk:∀(rs:List HZ) (Ls:List (List Nat)) (xs:List V),l∉rs->Rws H6 rs Ls->Rws (upd H6 l (.lst xs)) rs Ls:=by
    intro rs Ls xs hn h
    induction h with
    |nil=>exact .nil
    |cons a _ ih=>exact .cons (by rw [upd_ne (λ z=>hn (by rw [<-z];exact BF))];exact a) (ih λ z=>hn (Bw _ z))
   have h7:=hk _ _ ((rs++[l6]).map V.ref) (by
    intro z;rcases Br.mp z with z|z
    ·exact hlr z
    ·exact nl6 (Bx.mp z)) (Rws.snoc (hR5.keep ls6) hl6)
   rw [Bm] at h7;exact h7
  ·intro z;rcases Br.mp z with z|z
   ·exact hlr z
   ·exact nl6 (Bx.mp z)
  ·rcases Dm j Bs.length with h|h
   ·rw [Cg h] at e;exact hBs j R' e
   ·rw [BJ h] at e;have hj0:j-Bs.length=0:=by
     rcases Ed (j-Bs.length) with q|q
     ·exact q
     ·rw [BS (by simp;assumption)] at e;cases e
    rw [hj0] at e;cases e;have:j=i:=(BI (Nat.sub_eq_zero_iff_le.1 hj0) h).trans hBl;rw [this];exact pb
  ·rw [upd_ne (ai z nlH)];exact sT _ _ n (fr5 _ _ n z)
  ·exact tb_keep hT6 λ e o z _ hn=>by rw [upd_ne (ne_of z hll6 (hn _))];exact z
 ·rintro σ H3 ⟨rs,Bs,v2,v3,rfl,hl3,hR3,hlr,hBl,hBs,fr3,hT3⟩;exact g1 _ _ ⟨_,rfl,k l rs Bs H3 nlH hl3 hR3 hBl hBs fr3 hT3⟩
end
abbrev nO:Im:=top 123
theorem Rws.get {i:Nat}{v:V}(h:Rws H rs Ls)(e:(rs.map V.ref)[i]?=some v):∃r L,v=.ref r/\Ls[i]?=some L/\H r=some (.lst (L.map vN)):=by
 induction h generalizing i with
 |nil=>cases e
 |cons a _ ih=>cases i with
  |zero=>cases e;exact⟨_,_,rfl,rfl,a⟩
  |succ i=>exact ih (i:=i) e
theorem jh (Ls:List (List Nat))(i:Nat):(Ls.take i).flatten.length≤Ls.flatten.length:=by
 conv=>rhs;rw [<-B8 i Ls,DO,Bb]
 exact B1 _ _
section
def wA:Sp:=λ vs H Q _=>∃(a:HZ) (rs:List HZ) (Ls:List (List Nat)) (n:Nat),vs=[.ref a,vN n]/\H a=some (.lst (rs.map V.ref))/\Rws H rs Ls/\Ls.flatten.length≤1900/\∀l H',H l=none->Same H H'->H' l=some (.lst (((Ls.take (1+n/64)).flatten).map vN))->Q (.ref l) H'
theorem scSoFar:FnScope ["_law_parts","_law_size","_law_found","_law_part"] ["_law_parts","_law_size"] (ak nO):=scK Z8
theorem tN (F:Fn K mg "_law_so_far" nO ["_law_parts","_law_size"] f fd):FnOk P w K mg base CX0 1 f fd ["_law_parts","_law_size"] wA:=by
 refine F.F.ok scSoFar λ Iq A outer st H vs Q E hr h=>?_
 intro _;obtain⟨a,rs,Ls,n,rfl,ha,hR,hl,k⟩:=h;refine⟨_,ad (ar (i:=2) scSoFar.nd (aE ae))
  (ad (bf BW rfl (bi (bu bJ (pv 0) d7 (a6 (am aK af (am a9 (pv 1) af))))) (aJ (i:=3) scSoFar.nd) (ag (ar (i:=2) scSoFar.nd (am aR (pv 2) (pv 3)))))
  (ag (ax (pv 2)))),?_⟩
 refine seq_g λ _ g1=>⟨(by show 0≤sizeLine;decide),λ l1 n1=>g1 _ _ ?_⟩
 clear g1;have s1:=aj (o:=.lst []) n1;have h11:(upd H l1 (.lst [])) l1=some (.lst []):=ac;generalize upd H l1 (.lst [])=H1 at*;refine seq_g λ R1 g1=>?_
 have e64:(1:Int)+((n:Nat):Int)/64=((1+n/64:Nat):Int):=Z5;refine⟨_,rfl,_,rfl,_,_,rfl,rfl,⟨Z9,Z9⟩,_,_,rfl,rfl,_,rfl,a,_,rfl,SqL.of (s1 _ _ ha),λ lc nlc=>?_⟩
 try dsimp only
 rw [e64,iS];have s2:=aj (o:=.lst ((rs.map V.ref).take (1+n/64))) nlc;have hlc:(upd H1 lc (.lst ((rs.map V.ref).take (1+n/64)))) lc=some (.lst ((rs.map V.ref).take (1+n/64))):=ac;have h12:=s2 _ _ h11;have s02:=s1.trans s2;have nl1:=n1;generalize upd H1 lc (.lst ((rs.map V.ref).take (1+n/64)))=H2 at*;refine⟨lc,rfl,⟨_,SqL.of hlc⟩,bx (D:=⟨_,_,λ _ _=>False,λ _ _=>False⟩) (K:=K) (a:=lc) (xs:=(rs.map V.ref).take (1+n/64)) (λ i σ H3=>∃(lf:HZ) (v3:Option V),σ=[some (.ref a),some (vN n),some (.ref lf),v3]/\H lf=none/\H3 lf=some (.lst (((Ls.take i).flatten).map vN))/\Same H2 H3)
  ⟨l1,none,rfl,n1,h12,λ e o z=>z⟩ (λ i σ H3 _ z9=>by obtain⟨_,_,_,_,_,sm⟩:=z9;exact SqL.of (sm _ _ hlc)) ?_ ?_⟩
 ·rintro i z σ H3 hi ⟨lf,v3,rfl,nf,hlf,sm⟩;have hi':(rs.map V.ref)[i]?=some z:=by
   rw [EB] at hi
   split at hi
   ·exact hi
   ·cases hi
  obtain⟨r,L,rfl,hL,hr'⟩:=hR.get hi';have hr3:=sm _ _ (s02 _ _ hr');have et:Ls.take (i+1)=Ls.take i++[L]:=by rw [CQ,hL];rfl
  have hb:=jh Ls (i+1);rw [et,DO,Bb,show [L].flatten=L by simp] at hb;refine⟨_,rfl,_,rfl,lf,r,_,_,rfl,rfl,hlf,hr3,bj (by rw [A9,A9];exact Ba hb (Ba hl Z9)),λ l4 n4=>?_⟩;refine⟨l4,_,rfl,none_of (s02.trans sm) n4,?_,sm.trans (aj n4)⟩;rw [ac,et,DO,show [L].flatten=L by simp,Bm]
 ·rintro σ H3 ⟨lf,v3,rfl,nf,hlf,sm⟩;refine g1 _ _ ⟨_,rfl,k lf H3 nf (s02.trans sm) ?_⟩;have el:Ls.take ((rs.map V.ref).take (1+n/64)).length=Ls.take (1+n/64):=by
   rw [Bv,A9,hR.len];rcases HV (1+n/64) Ls.length with h|h
   ·rw [CA h]
   ·rw [DD h,BQ (Bh _),BQ h]
  rw [el] at hlf;exact hlf
end
end K24.Ck
set_option maxHeartbeats 4000000
namespace K24.Ck
open PySem L2 QQ W17 W16 BP
variable {A R:List Nat}
theorem y4 {T:List Nat}{i:Nat}(h:64*i≤A.length):wn (A++T) i=wn A i:=by
 unfold wn;rw [Do h]
theorem we {T:List Nat}{i:Nat}(h:64*(i+1)≤A.length):blk (A++T) i=blk A i:=by
 unfold blk;rw [DN (by exact Gg h),Do (by rw [By];exact Nat.le_sub_of_add_le' h)]
theorem Bl.pre {T:List Nat}{i:Nat}(h:64*(i+1)≤A.length)(b:Bl A i R):Bl (A++T) i R:=by
 unfold Bl at*;rw [y4 (Gg h),we h];exact b
theorem uO:blk A (nb A)=A.drop (64*nb A):=by
 unfold blk;exact BQ (by rw [By];unfold nb;exact by rw [<-Gi];exact B7 (DK _ Z9))
theorem LB.bl (h:LB A R)(h0:A.length%64≠0):Bl A (nb A) R:=by
 rcases h with⟨z,_⟩|⟨_,h⟩
 ·exact absurd z h0
 ·unfold Bl;rw [uO];exact h
theorem gj {T:List Nat}{k:Nat}{Rs Rs':List (List Nat)}(hl:Rs.length=Rs'.length)(h:∀i R,Rs[i]?=some R->Bl T (k+i) R)(h':∀i R,Rs'[i]?=some R->Bl T (k+i) R):Rs=Rs':=by
 refine Dq λ i=>?_
 rcases Dm i Rs.length with z|z
 ·have e1:Rs[i]?=some Rs[i]:=Bg z;have e2:Rs'[i]?=some Rs'[i]:=Bg Z4;rw [e1,e2];exact congrArg some ((h i _ e1).uniq (h' i _ e2))
 ·rw [BS z,BS (De hl.symm z)]
theorem WH.eq {T Z:List Nat}{Bs:List (List Nat)}(h:WH T Z)(hl:Bs.length=(T.length+63)/64)(hB:∀i R,Bs[i]?=some R->Bl T i R):Z=([184,66,1]::Bs).flatten++tailR T.length (chk 16 45 T):=by
 obtain⟨Rs,R,hRl,hRs,hLB,rfl⟩:=h;have hRl':Rs.length=T.length/64:=hRl;have eB:Bs=Rs++(if T.length%64=0 then [] else [R]):=by
  by_cases z:T.length%64=0
  ·rw [BM z,Ct];exact gj (k:=0) (T:=T) Z5 (λ i R e=>by rw [C5];exact hB i R e) (λ i R e=>by rw [C5];exact hRs i R e)
  ·rw [Bu z];refine gj (k:=0) (T:=T) (by rw [Bb,hl,hRl'];show _=_+1;lia) (λ i R e=>by rw [C5];exact hB i R e) λ i R' e=>?_
   rw [C5];rcases Dm i Rs.length with y|y
   ·rw [Cg y] at e;exact hRs i R' e
   ·rw [BJ y] at e;have hi0:i-Rs.length=0:=by
     rcases Ed (i-Rs.length) with q|q
     ·exact q
     ·rw [BS (by simp;assumption)] at e;cases e
    rw [hi0] at e;cases e;have:i=nb T:=(BI (Nat.sub_eq_zero_iff_le.1 hi0) y).trans hRl;rw [this];exact hLB.bl z
 have eR:(if T.length%64=0 then [] else [R]:List (List Nat)).flatten=R:=by
  by_cases z:T.length%64=0
  ·rw [BM z];rcases hLB with⟨_,rfl⟩|⟨y,_⟩
   ·rfl
   ·exact absurd z y
  ·rw [Bu z];simp
 rw [eB,CG,DO,eR];simp only [Be]
end K24.Ck
set_option maxHeartbeats 4000000
namespace K24.Ck
open PySem L2 QQ W17 W16 BP
seal PE PA PS PSs PT PW PG PI
variable {H H':Hp}
abbrev uI:Im:=top 121
abbrev d4:Im:=top 122
abbrev ij:Im:=top 114
def InH (H:Hp)(a C:HZ):Prop:=∃vx,H a=some (.frz (exO (.ref C) vx) (.own a))
def jQ (cR cO:HZ):Sp:=λ vs H Q _=>∃(a C:HZ) (z:Str),vs=[.ref a]/\InH H a C/\((C=cR/\z=Str.ofString "row")\/(C=cO/\z=Str.ofString "over"))/\∀t H',Same H H'->H' t=some (.tup [.str z])->Q (.ref t) H'
structure Exc1 (K:Frag)(mg:Str->Option Ib)(cP c:HZ):Prop where
 x:ExC K c
 n:c≠cP
 s:mroIn K c (.ref cP)=some true
section
variable {B D G' CW C0 C1 C2 C3 c CK CHd CO C cO cR cP Tb:HZ}
def zZ (K:Frag)(Tb C CO CK:HZ):Sp:=λ vs H Q _=>∃(p:HZ) (x:V),vs=[.ref p,x]/\((∃dx co wt bg,H p=some (.ins C dx (fP co wt bg true))/\∀t H',Same H H'->H' t=some (.tup [.str (Str.ofString "over")])->Q (.ref t) H')\/∃(co ck:HZ) (A:List Nat) (bg:Bool),PrAt C CO CK H p co ck A bg/\
 ((Rf.NoRow K H x/\∀t H',Same H H'->H' t=some (.tup [.str (Str.ofString "row")])->Q (.ref t) H')\/∃(T:List Nat),Rf.IsR H x T/\(A++T).length≤1000/\TbB Tb H/\∀(lo l:HZ) (Rs:List (List Nat)) (H':Hp),H l=none->nb A+Rs.length=nb (A++T)->(∀j R,Rs[j]?=some R->Bl (A++T) (nb A+j) R)->
  H' l=some (.lst ((mk bg++Rs.flatten).map vN))->H' lo=some (.lst [.ref l])->PrAt C CO CK H' p co ck (A++T) true->(∀e o,e≠Tb->H e=some o->e≠p->e≠co->e≠ck->H' e=some o)->TbB Tb H'->New C CO H H' p co->Q (.ref lo) H'))
theorem scFed:FnScope ["_law_presser","_law_thing","_law_e"] ["_law_presser","_law_thing"] (ak uI):=scK Z8
theorem PrAt.same {p co ck:HZ}{A:List Nat}{bg:Bool}(h:PrAt C CO CK H p co ck A bg)(s:Same H H'):PrAt C CO CK H' p co ck A bg:=by
 obtain⟨⟨dx,wt,g,h1,h2,h3⟩,h4⟩:=h;exact⟨⟨dx,wt,g,s _ _ h1,s _ _ h2,h3.keep λ e o z _=>s _ _ z⟩,h4⟩
theorem back {e:HZ}{o o':HO}(s:Same H H')(h:H e=some o')(h':H' e=some o):H e=some o:=by
 rw [s _ _ h] at h';rw [h,h']
theorem rX {f fw:HZ}{fd fdw:Ih}(F:Fn K mg "_law_fed" uI ["_law_presser","_law_thing"] f fd)(Z:Prz K mg B D G' CW C0 C1 C2 C3 c CK CHd CO C cO)(Wd:Fn K mg "_law_word" ij ["_law_e"] fw fdw)(GW:FnOk P w K mg base CX0 5 fw fdw ["_law_e"] (jQ cR cO))
  (mP:mg "PressError"=some (.ref cP)) (xP:ExC K cP) (eR:Exc1 K mg cP cR) (eO:Exc1 K mg cP cO) (mR:mg "BadRow"=some (.ref cR)) (hC:CodeHd base c Tb) (hBm:BmAt mg base) (hK:K.lookup Tb=none):FnOk P w K mg base CX0 43 f fd ["_law_presser","_law_thing"] (zZ K Tb C CO CK):=by
 have T0:=Z.T;obtain⟨_,_,Fe⟩:=Z.feed;have GF:=gM (P:=P) (w:=w) (base:=base) Fe.F Z mR eR.x hC hBm hK;refine F.F.ok scFed λ Iq A outer st H vs Q E hr h=>?_
 intro _;obtain⟨p,x,rfl,h⟩:=h;refine⟨_,ag (tP (i:=2) scFed.nd rfl rfl Z7 mP xP rfl rfl rfl
   (λ pn σ0 E=>ag (ax (aE (aa (rV (pv 0) T0.cl Fe.m GF hr Fe.b .nil (xn rfl) (aa (pv 1) ae)) ae))))
   (λ e G=>ag (ax (aq GW (hr.hand Z9 Z9) Z7 Wd.m Wd.F.kp Wd.b .nil aw (aa (pv 2) ae))))),?_⟩
 rcases h with⟨dx,co,wt,bg,hp,k⟩|⟨co,ck,A',bg,hP,h⟩
 ·refine⟨rfl,_,rfl,p,dx,_,rfl,hp,bW _ _ _ _,_,rfl,p,x,rfl,.inl ⟨dx,co,wt,bg,hp,cO,rfl,eO.x,eO.n,eO.s,λ e vs he=>?_⟩⟩;exact⟨_,rfl,e,cO,_,rfl,⟨vs,ac⟩,.inr ⟨rfl,rfl⟩,λ t H1 s1 ht=>k t H1 ((aj he).trans s1) ht⟩
 ·obtain⟨⟨dx,wt,g,hp,hw,hCo⟩,hA⟩:=id hP;refine⟨rfl,_,rfl,p,dx,_,rfl,hp,bW _ _ _ _,_,rfl,p,x,rfl,.inr ⟨co,ck,A',bg,hP,?_⟩⟩;rcases h with⟨hN,k⟩|⟨T,hI,hl,hT,k⟩
  ·refine .inl ⟨hN,cR,rfl,eR.x,eR.n,eR.s,λ e vs he=>?_⟩;exact⟨_,rfl,e,cR,_,rfl,⟨vs,ac⟩,.inl ⟨rfl,rfl⟩,λ t H1 s1 ht=>k t H1 ((aj he).trans s1) ht⟩
  ·refine .inr ⟨T,hI,hl,hT,λ l Rs H1 nl h1 h2 h3 hP1 fr hT1 hN1=>⟨(by show 1≤sizeLine;decide),λ lo nlo=>?_⟩⟩;have s2:=aj (o:=.lst [V.ref l]) nlo;refine k lo l Rs _ nl h1 h2 (s2 _ _ h3) ac (hP1.same s2) (λ e o n z n1 n2 n3=>s2 _ _ (fr _ _ n z n1 n2 n3)) (hT1.same s2) ?_;obtain⟨⟨dx1,wt1,g1,hp1,hw1,hC1⟩,_⟩:=hP1;obtain⟨_,hco1⟩:=hC1.ob;exact⟨λ dx wt bg fn e=>hN1.1 dx wt bg fn (back s2 hp1 e),λ dx b m ck g e=>hN1.2 dx b m ck g (back s2 hco1 e)⟩
end
end K24.Ck
set_option maxHeartbeats 4000000
namespace L2
open PySem PySem.Spec PyProof.Rows QQ
section
variable {X:Cx}{CX:CXT}{k:Nat}{f C:HZ}{fd:Ih}{ps:List Str}{sp:Sp}{ds:List Ib}{dvs:List V}{E:XK}{σ0:St}{o:Ik}{m:Str}{apos pos:Pos}{ta:TE}
theorem qy {pl:Sem Bool}(he:PE X o ta)(c:Cls X.K C)(hm:Meth X.K C m f)(F:FnOk X.prog X.w X.K X.mg X.base CX k f fd ps sp)(hr:Room k X.A)(hb:Binds X.K fd ps ds)(hd:Vals dvs ds)(hx:fu CX X E σ0)
    (ht:autoParam (eval (.Call (.Attribute o m apos) [] [] pos) X.env=(do
      let ov<-eval o X.env
      standAt apos.atName
      let(f,first)<-holding [ov] (getMethod ov m pl)
      callWith pos f first (backTo pos (starEach [] X.env)) (backToKw pos (keywordEach [] X.env)))) Z0):
    PE X (.Call (.Attribute o m apos) [] [] pos) (tAt σ0 (o8 C m sp dvs E ta gv)):=by
  intro Io s σ H Q I h
  obtain⟨rfl,h⟩:=h
  refine Ea (pl:=pl) (thn (he Io s σ H _ I h) λ u s1 z9=>?_) ht
  obtain⟨x,H1,I1,rx,a,dx,fs,ex,ea,l,q⟩:=z9
  subst ex
  obtain rfl:u=Value.ref a:=rx
  refine cb I1 ea c hm l ?_
  exact Et (first:=[.ref a]) I1.kIn hm.kp (qe (us:=[.ref a]) (vs:=[.ref a]) F hr hb hd hx I1 (.cons rfl .nil) q)
end
end L2
namespace K24.Ck
open PySem L2 QQ W17 W16 BP
seal PE PA PS PSs PT PW PG PI
variable {fd fdf fdw:Ih}{x z:Str}{H H0:Hp}{C a b f ff fw l p:HZ}{j k n:Nat}{ps:List HZ}{y:V}{xs ys:List (Str×Bool)}{σ:St}
section
variable {B D G' CW C0 C1 C2 C3 c CK CHd CO C cO cR cP Tb:HZ}
def nL (Tb C CO CK:HZ):Sp:=λ vs H Q _=>∃(p:HZ),vs=[.ref p]/\((∃dx co wt bg,H p=some (.ins C dx (fP co wt bg true))/\∀t H',Same H H'->H' t=some (.tup [.str (Str.ofString "over")])->Q (.ref t) H')\/∃(co ck:HZ) (A:List Nat) (bg:Bool),PrAt C CO CK H p co ck A bg/\A.length≤1000/\TbB Tb H/\
 ∀(lo l dx wt:HZ) (R:List Nat) (H':Hp),H l=none->LB A R->H' l=some (.lst ((mk bg++R++tailR A.length (chk 16 45 A)).map vN))->H' lo=some (.lst [.ref l])->H' p=some (.ins C dx (fP co wt true true))->(∀e o,e≠Tb->H e=some o->e≠p->e≠co->e≠ck->H' e=some o)->TbB Tb H'->Q (.ref lo) H')
theorem scFinished:FnScope ["_law_presser","_law_e"] ["_law_presser"] (ak d4):=scK Z8
theorem lN (F:Fn K mg "_law_finished" d4 ["_law_presser"] f fd)(Z:Prz K mg B D G' CW C0 C1 C2 C3 c CK CHd CO C cO)(Wd:Fn K mg "_law_word" ij ["_law_e"] fw fdw)(GW:FnOk P w K mg base CX0 5 fw fdw ["_law_e"] (jQ cR cO))
  (mP:mg "PressError"=some (.ref cP)) (xP:ExC K cP) (eO:Exc1 K mg cP cO) (hC:CodeHd base c Tb) (hBm:BmAt mg base) (hK:K.lookup Tb=none):FnOk P w K mg base CX0 43 f fd ["_law_presser"] (nL Tb C CO CK):=by
 have T0:=Z.T;obtain⟨_,_,Fi⟩:=Z.finish;refine F.F.ok scFinished λ Iq A outer st H vs Q E hr h=>?_
 intro _;obtain⟨p,rfl,h⟩:=h;refine⟨_,ag (tP (i:=1) scFinished.nd rfl rfl Z7 mP xP rfl rfl rfl
   (λ pn σ0 E=>ag (ax (aE (aa (qy (pv 0) T0.cl Fi.m (j9 Fi.F Z hC hBm hK) hr Fi.b .nil (xn rfl)) ae))))
   (λ e G=>ag (ax (aq GW (hr.hand Z9 Z9) Z7 Wd.m Wd.F.kp Wd.b .nil aw (aa (pv 1) ae))))),?_⟩
 rcases h with⟨dx,co,wt,bg,hp,k⟩|⟨co,ck,A',bg,hP,hl,hT,k⟩
 ·refine⟨rfl,_,rfl,p,dx,_,rfl,hp,bW _ _ _ _,p,rfl,.inl ⟨dx,co,wt,bg,hp,cO,rfl,eO.x,eO.n,eO.s,λ e vs he=>?_⟩⟩;exact⟨_,rfl,e,cO,_,rfl,⟨vs,ac⟩,.inr ⟨rfl,rfl⟩,λ t H1 s1 ht=>k t H1 ((aj he).trans s1) ht⟩
 ·obtain⟨⟨dx,wt,g,hp,hw,hCo⟩,hA⟩:=id hP;refine⟨rfl,_,rfl,p,dx,_,rfl,hp,bW _ _ _ _,p,rfl,.inr ⟨co,ck,A',bg,hP,hl,hT,λ l dx' wt' R H1 nl hLB h3 hp1 fr hT1=>⟨(by show 1≤sizeLine;decide),λ lo nlo=>?_⟩⟩⟩;have s2:=aj (o:=.lst [V.ref l]) nlo;exact k lo l dx' wt' R _ nl hLB (s2 _ _ h3) ac (s2 _ _ hp1) (λ e o n z n1 n2 n3=>s2 _ _ (fr _ _ n z n1 n2 n3)) (hT1.same s2)
end
abbrev kA:Im:=top 125
theorem bA (L:List Nat):L.map vN=(L.map λ b=>((b:Nat):Int)).map V.int:=by rw [Dv];rfl
section
variable {B D G' CW C0 C1 C2 C3 c CK CHd CO C cO cR cP Tb:HZ}
def uJ (Tb C CO CK:HZ):Sp:=λ vs H Q _=>∃(p t a b co ck:HZ) (A T Y:List Nat) (bg:Bool),vs=[.ref p,.ref t]/\H t=some (.tup [.ref a,.ref b])/\H a=some (.lst (T.map vN))/\H b=some (.lst (Y.map vN))/\(∀x∈T,x<256)/\PrAt C CO CK H p co ck A bg/\(A++T).length≤1000/\TbB Tb H/\
 (∀(Rs:List (List Nat)) (R:List Nat),nb A+Rs.length=nb (A++T)->(∀j R,Rs[j]?=some R->Bl (A++T) (nb A+j) R)->LB (A++T) R->mk bg++Rs.flatten++(mk true++R++tailR (A++T).length (chk 16 45 (A++T)))=Y/\Y.length≤1900)/\∀H',(∀e o,e≠Tb->H e=some o->e≠p->e≠co->e≠ck->H' e=some o)->TbB Tb H'->Q (.bl true) H'
theorem scLEnded:FnScope ["_law_presser","_law_last","_law_thing"] ["_law_presser","_law_last"] (ak kA):=scK Z8
theorem qF {fe:HZ}{fde:Ih}(F:Fn K mg "_law_ended" kA ["_law_presser","_law_last"] f fd)(Z:Prz K mg B D G' CW C0 C1 C2 C3 c CK CHd CO C cO)(Wd:Fn K mg "_law_word" ij ["_law_e"] fw fdw)(GW:FnOk P w K mg base CX0 5 fw fdw ["_law_e"] (jQ cR cO))(Fi:Fn K mg "_law_finished" d4 ["_law_presser"] fe fde)(Fd:Fn K mg "_law_fed" uI ["_law_presser","_law_thing"] ff fdf)
  (mP:mg "PressError"=some (.ref cP)) (xP:ExC K cP) (eR:Exc1 K mg cP cR) (eO:Exc1 K mg cP cO) (mR:mg "BadRow"=some (.ref cR)) (hC:CodeHd base c Tb) (hBm:BmAt mg base) (hK:K.lookup Tb=none):FnOk P w K mg base CX0 44 f fd ["_law_presser","_law_last"] (uJ Tb C CO CK):=by
 have T0:=Z.T;obtain⟨_,_,Fe⟩:=Z.feed;obtain⟨_,_,Fn'⟩:=Z.finish;refine F.F.ok scLEnded λ Iq A outer st H vs Q E hr h=>?_
 intro _;obtain⟨p,t,a,b,co,ck,A',T,Y,bg,rfl,ht,ha,hb,hTb,hP,hl,hT,hY,k⟩:=h;have hr42:Room 42 _:=hr.mono Z9;have hu:=hr.units;have hu0:=hr.units0;refine⟨_,ad (aL (PW.pt (fE (aA (dD hu) (am aR (aV (pv 0) T0.cl Fe.m (gM Fe.F Z mR eR.x hC hBm hK) hr42 Fe.b .nil ig (aa (aM aZ (pv 1) af (λ _ _=>rfl)) ae)) (a8 (pv 0) T0.cl Fn'.m (j9 Fn'.F Z hC hBm hK) hr42 Fn'.b .nil ig)) (aM aZ (pv 1) af (λ _ _=>rfl)) (aC _)) (dP (aA (jJ hu0) (aq (lN Fi Z Wd GW mP xP eO hC hBm hK) hr Z7 Fi.m Fi.F.kp Fi.b .nil aw (aa (pv 0) ae)) (bL (aa cf ae)) (aC _))))) (ag (ax bU)) aD)
  (ad (bf BW rfl (ye (bL (aa (aE (aa af ae)) (aa eK (aa (aE ae) ae))))) (aJ (i:=2) scLEnded.nd) (ag (aL (aA (jJ hu0) (aq (rX Fd Z Wd GW mP xP eR eO mR hC hBm hK) hr Z7 Fd.m Fd.F.kp Fd.b .nil aw (aa (pv 0) (aa (pv 2) ae))) (bL (aa cf ae)) (aC _)) (ag (ax bU)) aD)))
  (ag (ax bU))),?_⟩
 have away:∀{H:Hp} {A:List Nat} {bg:Bool},PrAt C CO CK H p co ck A bg->TbB Tb H->∀{e:HZ} {o:HO},H e=some o->(∀ps,o≠ .tbl ps)->(∀C dx fs,o≠ .ins C dx fs)->e≠Tb/\e≠p/\e≠co/\e≠ck:=λ hP hT e o z h1 h2=>by
  obtain⟨⟨_,_,_,h,_,hCo⟩,_⟩:=hP;obtain⟨_,hco⟩:=hCo.ob;obtain⟨_,hck⟩:=hCo.ch;exact⟨hT.ne z h1,ne_of z h (h2 _ _ _),ne_of z hco (h2 _ _ _),ne_of z hck (h2 _ _ _)⟩
 refine seq_g λ R1 g1=>?_
 obtain⟨⟨dx,wt,g,hp,_,_⟩,_⟩:=id hP;refine⟨_,rfl,p,dx,_,rfl,hp,bW _ _ _ _,_,rfl,t,_,_,_,rfl,rfl,SqT.of ht,aB (j:=0) rfl,p,.ref a,rfl,.inr ⟨co,ck,A',bg,hP,.inr ⟨T,⟨a,rfl,ha,hTb⟩,hl,hT,λ l Rs H1 nl h1 h2 h3 hP1 fr hT1 _=>?_⟩⟩⟩;obtain⟨⟨dx1,wt1,g1',hp1,_,_⟩,_⟩:=id hP1;obtain⟨a1,a2,a3,a4⟩:=away hP hT ht (by intro ps z;cases z) (by intro _ _ _ z;cases z);obtain⟨b1,b2,b3,b4⟩:=away hP hT hb (by intro ps z;cases z) (by intro _ _ _ z;cases z);have ht1:=fr _ _ a1 ht a2 a3 a4;have hb1:=fr _ _ b1 hb b2 b3 b4;refine⟨_,rfl,p,dx1,_,rfl,hp1,bW _ _ _ _,p,rfl,.inr ⟨co,ck,A'++T,true,hP1,hl,hT1,λ l2 dx2 wt2 R H2 nl2 hLB h4 hp2 fr2 hT2=>?_⟩⟩;obtain⟨eY,hYl⟩:=hY Rs R h1 h2 hLB;obtain⟨c1,c2,c3,c4⟩:=away hP1 hT1 h3 (by intro ps z;cases z) (by intro _ _ _ z;cases z);have h32:=fr2 _ _ c1 h3 c2 c3 c4;have ht2:=fr2 _ _ a1 ht1 a2 a3 a4;have hb2:=fr2 _ _ b1 hb1 b2 b3 b4;refine⟨l,l2,_,_,rfl,rfl,h32,h4,bj (by rw [A9,A9,<-Bb,eY];exact Ba hYl Z9),λ l3 n3=>?_⟩;rw [<-Bm,eY];have s3:=aj (o:=.lst (Y.map vN)) n3;have h33:(upd H2 l3 (.lst (Y.map vN))) l3=some (.lst (Y.map vN)):=ac;have frA:∀e o,e≠Tb->H e=some o->e≠p->e≠co->e≠ck->(upd H2 l3 (.lst (Y.map vN))) e=some o:=λ e o n z n1 n2 n3=>s3 _ _ (fr2 _ _ n (fr _ _ n z n1 n2 n3) n1 n2 n3)
 have ht3:=s3 _ _ ht2;have hb3:=s3 _ _ hb2;have hp3:=s3 _ _ hp2;have hT3:=hT2.same s3;generalize upd H2 l3 (.lst (Y.map vN))=H3 at*;refine⟨_,rfl,t,_,_,_,rfl,rfl,SqT.of ht3,aB (j:=1) rfl,l3,b,_,_,rfl,rfl,by rw [<-bA];exact SqL.of h33,by rw [<-bA];exact SqL.of hb3,_,rfl,dG Z6 ?_⟩;have sOv:∀(H4:Hp) (o1 o2:HZ),H4 o1=some (.tup [.str (Str.ofString "over")])->H4 o2=some (.tup [.str (Str.ofString "over")])->True:=λ _ _ _ _ _=>trivial
 refine⟨_,rfl,p,rfl,.inl ⟨dx2,co,wt2,true,hp3,λ t4 H4 s4 ht4=>⟨(by show 1≤sizeLine;decide),λ t5 n5=>?_⟩⟩⟩;have s5:=aj (o:=.tup [.str (Str.ofString "over")]) n5;refine⟨t4,t5,rfl,rfl,.inl ⟨_,_,SqT.of (s5 _ _ ht4),SqT.of ac,_,rfl,dG Z6 (g1 _ _ ?_)⟩⟩;clear g1;have s35:=s4.trans s5;generalize upd H4 t5 (.tup [.str (Str.ofString "over")])=H5 at*;have hp5:=s35 _ _ hp3;refine seq_g λ _ g1=>⟨(by show 1≤sizeLine;decide),λ l6 n6=>?_⟩
 have s6:=aj (o:=.lst [V.int 1]) n6;generalize upd H5 l6 (.lst [V.int 1])=H6 at*;refine⟨(by show 0≤sizeLine;decide),λ l7 n7=>?_⟩;have s7:=aj (o:=.lst []) n7;generalize upd H6 l7 (.lst [])=H7 at*;refine⟨(by show 3≤sizeLine;decide),λ t8 n8=>?_⟩;have s8:=aj (o:=.tup [V.ref l6,.non,V.ref l7]) n8;have h88:(upd H7 t8 (.tup [V.ref l6,.non,V.ref l7])) t8=some (.tup [V.ref l6,.non,V.ref l7]):=ac;have s38:=s35.trans ((s6.trans s7).trans s8);generalize upd H7 t8 (.tup [V.ref l6,.non,V.ref l7])=H8 at*;refine⟨t8,rfl,⟨_,SqT.of h88⟩,wH (D:=⟨_,_,λ _ _=>False,λ _ _=>False⟩) (K:=K) (a:=t8) (xs:=[V.ref l6,.non,V.ref l7]) (λ i σ H9=>∃v2:Option V,σ=[some (.ref p),some (.ref t),v2]/\Same H8 H9) ⟨none,rfl,λ _ _ z=>z⟩ (λ i σ H9 _ z9=>by obtain⟨_,_,sm⟩:=z9;exact SqT.of (sm _ _ h88)) ?_ ?_⟩
 ·rintro i x σ H9 hi ⟨v2,rfl,sm⟩;refine⟨_,rfl,_,rfl,p,x,rfl,.inl ⟨dx2,co,wt2,true,sm _ _ (s38 _ _ hp3),λ t10 H10 s10 ht10=>⟨(by show 1≤sizeLine;decide),λ t11 n11=>?_⟩⟩⟩;have s11:=aj (o:=.tup [.str (Str.ofString "over")]) n11;exact⟨t10,t11,rfl,rfl,.inl ⟨_,_,SqT.of (s11 _ _ ht10),SqT.of ac,_,rfl,dG Z6 ⟨_,rfl,(sm.trans s10).trans s11⟩⟩⟩
 ·rintro σ H9 ⟨v2,rfl,sm⟩;exact g1 _ _ (k H9 (λ e o n z n1 n2 n3=>sm _ _ (s38 _ _ (frA _ _ n z n1 n2 n3))) (hT3.same (s38.trans sm)))
end
noncomputable def names:List Str:=["BadRow","BadBits","NoBits","BadShares","BadLengths","BadCode","BadTable","Cut","BadPieces","BadBody","BadHead","BadCheck","BadMark","BadTail","Behind","Over","NoRange","BadLetters"]
structure Ers (K:Frag)(mg:Str->Option Ib)(cP cR cO:HZ)(cs:List HZ):Prop where
 tuple:mg "tuple"=none
 verr:mg "ValueError"=none
 mP:mg "PressError"=some (.ref cP)
 xP:ExC K cP
 mR:mg "BadRow"=some (.ref cR)
 eR:Exc1 K mg cP cR
 eO:Exc1 K mg cP cO
 iR:ExI K cR
 iO:ExI K cO
 vR:kitOne K (.ref cR) (.type "ValueError")=some true
 vO:kitOne K (.ref cO) (.type "ValueError")=some true
 len:∃c0 c1 c2 c3 c4 c5 c6 c7 c8 c9 c10 c11 c12 c13 c14 c15 c16 c17:HZ,cs=[c0,c1,c2,c3,c4,c5,c6,c7,c8,c9,c10,c11,c12,c13,c14,c15,c16,c17]
 m:∀(i:Nat) (x:Str) (c:HZ),names[i]?=some x->cs[i]?=some c->mg x=some (.ref c)
 kR:∀(i:Nat) (c:HZ),cs[i]?=some c->kitOne K (.ref cR) (.ref c)=some (decide (i=0))
 kO:∀(i:Nat) (c:HZ),cs[i]?=some c->kitOne K (.ref cO) (.ref c)=some (decide (i=15))
abbrev Tw (H:Hp):List HZ->List (Str×Bool)->Prop:=Paired λ p x=>H p=some (.tup [.str x.1,.bl x.2])
theorem Tw.same {H':Hp}(s:Same H H')(h:Tw H ps xs):Tw H' ps xs:=by
 induction h with
 |nil=>exact .nil
 |cons h _ ih=>exact .cons (s _ _ h) ih
theorem Tw.append {qs:List HZ}(h:Tw H ps xs)(s:Tw H qs ys):Tw H (ps++qs) (xs++ys):=by
 induction h with
 |nil=>exact s
 |cons r _ ih=>exact .cons r ih
theorem Tw.get {i:Nat}(h:Tw H ps xs)(e:ps[i]?=some p):∃x,xs[i]?=some x/\H p=some (.tup [.str x.1,.bl x.2]):=by
 induction h generalizing i with
 |nil=>cases e
 |cons r _ ih=>cases i with
  |zero=>cases e;exact⟨_,rfl,r⟩
  |succ i=>exact ih (i:=i) e
section
variable (K:Frag)
def AY:List V->Hp->VK->Prop:=λ xs H Q=>∃a C vs c b,xs=[.ref a,z8 c]/\(∃n,c=.ref n\/∃t,c=.type t)/\H a=some (.frz (exO (.ref C) vs) (.own a))/\ExI K C/\kitOne K (.ref C) c=some b/\Q (.bl b) H
def wX (z:Str)(c:HZ):TE:=yo (eh (tC (.str z)) (eh (tCB (AY K) (eh (dW 0) (eh (tC (.ref c)) gv))) gv))
def jH:List (Str×HZ)->TA
 | []=>gv
 |x::r=>eh (wX K x.1 x.2) (jH r)
variable {K}
theorem bh {X:Cx}{c:HZ}{p1 p2 p3 p4 p5 p6:Pos}(hi:X.mg "isinstance"=none)(hm:X.mg x=some (.ref c))(hN:autoParam (X.N[0]?=some ("_law_e":Str)) Z0)(hv:autoParam (Vis X.env.scope "_law_e") ZT)
  (hg1:autoParam (Gl X "isinstance") Z0) (hg2:autoParam (Gl X x) Z0) (hd:autoParam ((x==("__debug__":Str))=false) ZZ)
  (hs1:autoParam (starEach [.Name "_law_e" p3,.Name x p4] X.env=(false,eval (.Name "_law_e" p3) X.env)::starEach [.Name x p4] X.env) Z0) (hs2:autoParam (starEach [.Name x p4] X.env=(false,eval (.Name x p4) X.env)::starEach [] X.env) Z0)
  (hs3:autoParam (starEach [.Constant (.str z) j p1,.Call (.Name "isinstance" p2) [.Name "_law_e" p3,.Name x p4] [] p5] X.env=(false,eval (.Constant (.str z) j p1) X.env)::starEach [.Call (.Name "isinstance" p2) [.Name "_law_e" p3,.Name x p4] [] p5] X.env) Z0)
  (hs4:autoParam (starEach [.Call (.Name "isinstance" p2) [.Name "_law_e" p3,.Name x p4] [] p5] X.env=(false,eval (.Call (.Name "isinstance" p2) [.Name "_law_e" p3,.Name x p4] [] p5) X.env)::starEach [] X.env) Z0)
  (hpl:autoParam ((backTo p5 (starEach [.Name x p4] X.env)).any (·.1)=false) Z0):
  PE X (.Tuple [.Constant (.str z) j p1,.Call (.Name "isinstance" p2) [.Name "_law_e" p3,.Name x p4] [] p5] k p6) (wX X.K z c):=
 bL (aa cf (aa (az i8 hg1 hi Cu (aa (sW hN hv) (aa (aH (v:=.ref c) hg2 hm rfl hd) ae hs2) hs1) Z9 Z9 hs1 hpl) ae hs4) hs3)
theorem mx (ci:ExI K C)(h0:σ[0]?=some (some (.ref a)))(l:List (Str×HZ)):∀(bs:List Bool) (H:Hp) (Q:List V->Hp->Prop),Paired (λ(x:Str×HZ) b=>kitOne K (.ref C) (.ref x.2)=some b) l bs->InH H a C->
  (∀H' ps,Same H H'->Tw H' ps ((l.map (·.1)).zip bs)->Q (ps.map V.ref) H')->jH K l σ H Q:=by
 induction l with
 |nil=>intro bs H Q hp _ k;cases hp;exact k H [] (Same.refl H) .nil
 |cons x l ih=>
  intro bs H Q hp hE k;cases hp with
  |cons r rr=>
  rename_i b _
  obtain⟨vx,hE⟩:=hE;refine⟨_,h0,a,C,vx,.ref x.2,b,rfl,⟨x.2,.inl rfl⟩,hE,ci,r,(by show 2≤sizeLine;decide),λ p hp=>?_⟩;have s1:Same H (upd H p (.tup [.str x.1,.bl b])):=λ c o e=>by rw [upd_ne (ai e hp)];exact e
  refine ih _ _ _ rr ⟨vx,s1 _ _ hE⟩ λ H' ps s2 tw=>?_
  exact k H' (p::ps) (s1.trans s2) (.cons (s2 _ _ ac) tw)
end
section
variable {cP cR cO:HZ}{cs:List HZ}
theorem scWord:FnScope ["_law_e","_law_some","_law_found"] ["_law_e"] (ak ij):=scK Z8
structure SomeL (H0 H:Hp)(a C l:HZ)(xs:List (Str×Bool)):Prop where
 s:Same H0 H
 e:InH H a C
 l:∃ps:List HZ,H l=some (.lst (ps.map V.ref))/\Tw H ps xs
theorem SomeL.first (e:InH H0 a C)(s:Same H0 H)(tw:Tw H ps xs)(hl:H l=none):SomeL H0 (upd H l (.lst (ps.map V.ref))) a C l xs:=by
 have s1:Same H (upd H l (.lst (ps.map V.ref))):=λ c o q=>by rw [upd_ne (ai q hl)];exact q
 obtain⟨vx,e⟩:=e;exact⟨s.trans s1,⟨vx,s1 _ _ (s _ _ e)⟩,ps,ac,tw.same s1⟩
theorem SomeL.more {H1:Hp}(S:SomeL H0 H a C l xs)(s:Same H H1)(tw:Tw H1 ps ys)(hb:H1 b=none):
  ∃qs:List HZ,upd H1 b (.lst (ps.map V.ref)) l=some (.lst (qs.map V.ref))/\qs.length=xs.length/\∀p,upd H1 b (.lst (ps.map V.ref)) p=none->SomeL H0 (upd (upd H1 b (.lst (ps.map V.ref))) p (.lst (qs.map V.ref++ps.map V.ref))) a C p (xs++ys):=by
 obtain⟨s0,⟨vx,e⟩,qs,hl,tq⟩:=S;have s1:Same H1 (upd H1 b (.lst (ps.map V.ref))):=λ c o q=>by rw [upd_ne (ai q hb)];exact q
 refine⟨qs,s1 _ _ (s _ _ hl),FZ tq,λ p hp=>?_⟩;have s2:Same (upd H1 b (.lst (ps.map V.ref))) (upd (upd H1 b (.lst (ps.map V.ref))) p (.lst (qs.map V.ref++ps.map V.ref))):=λ c o q=>by rw [upd_ne (ai q hp)];exact q
 have s3:=(s.trans s1).trans s2;exact⟨s0.trans s3,⟨vx,s3 _ _ e⟩,qs++ps,by rw [ac,Bm],(tq.same s3).append (tw.same (s1.trans s2))⟩
theorem sZ {i:Nat}:∀x σ H (A B:St->Hp->Prop),(∀σ' H',A σ' H'->B σ' H')->qZ K n (dR (bz i) (dR (bz j) qB)) x σ H A->qZ K n (dR (bz i) (dR (bz j) qB)) x σ H B:=by
 rintro x σ H A B m ⟨a,xs,e1,e2,e3,v,r,e4,v2,r2,e5,e6,z⟩;exact⟨a,xs,e1,e2,e3,v,r,e4,v2,r2,e5,e6,m _ _ z⟩
theorem ndW:(["_law_word_here","_law_fits"]:List Str).Nodup:=Z8
theorem jY (h:n≤40):n≤sizeLine:=Ba h Z9
theorem uv {D:Ends}(ci:ExI K C)(h0:σ[0]?=some (some (.ref a)))(l:List (Str×HZ))(bs:List Bool)(pr:Paired (λ(x:Str×HZ) b=>kitOne K (.ref C) (.ref x.2)=some b) l bs)(hE:InH H a C)(hn:l.length≤3)
  (k:∀b H',SomeL H H' a C b ((l.map (·.1)).zip bs)->D.nx (σ.set 1 (some (.ref b))) H'):vd (uV (jH K l)) (bz 1) D σ H:=by
 refine mx ci h0 l bs H _ pr hE λ H1 ps s1 tw=>⟨?_,λ b hb=>k b _ (.first hE s1 tw hb)⟩
 have e:=FZ tw;rw [A9,e,G8,A9];exact jY Z5
theorem dC {D:Ends}(ci:ExI K C)(S:SomeL H0 H a C b xs)(h0:σ[0]?=some (some (.ref a)))(h1:σ[1]?=some (some (.ref b)))(hx:xs.length≤20)(l:List (Str×HZ))(bs:List Bool)(pr:Paired (λ(x:Str×HZ) b=>kitOne K (.ref C) (.ref x.2)=some b) l bs)(hn:l.length≤3)
  (k:∀b' H',SomeL H0 H' a C b' (xs++(l.map (·.1)).zip bs)->D.nx (σ.set 1 (some (.ref b'))) H'):vd (tOp yG (dW 1) (uV (jH K l))) (bz 1) D σ H:=by
 refine⟨_,h1,mx ci h0 l bs H _ pr S.e λ H1 ps s1 tw=>?_⟩;have e:=FZ tw;rw [G8,A9] at e;refine⟨by rw [A9];exact jY Z5,λ b1 hb1=>?_⟩;obtain⟨qs,hl,hq,kk⟩:=S.more s1 tw hb1;exact⟨b,b1,_,_,rfl,rfl,hl,ac,by rw [A9,A9];exact jY Z5,λ p hp=>k p _ (kk p hp)⟩
theorem qC (xs:List (Str×Bool))(i:Nat)(x:Str×Bool)(h:xs[i]?=some x):((xs.take (i+1)).filter (·.2)).map (λ x=>V.str x.1)=((xs.take i).filter (·.2)).map (λ x=>V.str x.1)++(if x.2=true then [V.str x.1] else []):=by
 rw [CQ,h];simp only [Option.toList_some,BK,Bm];by_cases hb:x.2=true
 ·simp [hb]
 ·simp [hb]
theorem pi (F:Fn K mg "_law_word" ij ["_law_e"] f fd)(T:K24.Txt K mg)(Z:Ers K mg cP cR cO cs):FnOk P w K mg base CX0 5 f fd ["_law_e"] (jQ cR cO):=by
 obtain⟨c0,c1,c2,c3,c4,c5,c6,c7,c8,c9,c10,c11,c12,c13,c14,c15,c16,c17,rfl⟩:=Z.len;refine F.F.ok scWord λ Iq A outer st H vs Q E hr h=>?_
 intro _;obtain⟨a,C,z,rfl,hE,hz,k⟩:=h;refine⟨_,(ad (ar (i:=1) scWord.nd (aE (aa (bh T.isi (Z.m 0 _ _ rfl rfl)) (aa (bh T.isi (Z.m 1 _ _ rfl rfl)) (aa (bh T.isi (Z.m 2 _ _ rfl rfl)) ae)))))
  (ad (ar (i:=1) scWord.nd (am aR (pv 1) (aE (aa (bh T.isi (Z.m 3 _ _ rfl rfl)) (aa (bh T.isi (Z.m 4 _ _ rfl rfl)) ae)))))
  (ad (ar (i:=1) scWord.nd (am aR (pv 1) (aE (aa (bh T.isi (Z.m 5 _ _ rfl rfl)) (aa (bh T.isi (Z.m 6 _ _ rfl rfl)) (aa (bh T.isi (Z.m 7 _ _ rfl rfl)) ae))))))
  (ad (ar (i:=1) scWord.nd (am aR (pv 1) (aE (aa (bh T.isi (Z.m 8 _ _ rfl rfl)) (aa (bh T.isi (Z.m 9 _ _ rfl rfl)) ae)))))
  (ad (ar (i:=1) scWord.nd (am aR (pv 1) (aE (aa (bh T.isi (Z.m 10 _ _ rfl rfl)) (aa (bh T.isi (Z.m 11 _ _ rfl rfl)) ae)))))
  (ad (ar (i:=1) scWord.nd (am aR (pv 1) (aE (aa (bh T.isi (Z.m 12 _ _ rfl rfl)) (aa (bh T.isi (Z.m 13 _ _ rfl rfl)) ae)))))
  (ad (ar (i:=1) scWord.nd (am aR (pv 1) (aE (aa (bh T.isi (Z.m 14 _ _ rfl rfl)) (aa (bh T.isi (Z.m 15 _ _ rfl rfl)) (aa (bh T.isi (Z.m 16 _ _ rfl rfl)) ae))))))
  (ad (ar (i:=1) scWord.nd (am aR (pv 1) (aE (aa (bh T.isi (Z.m 17 _ _ rfl rfl)) ae))))
  (ad (sr (i:=2) (N:=["_law_word_here","_law_fits"]) (g:=qZ K 2 (dR (bz 0) (dR (bz 1) qB))) (tt:=tB (dW 1)) (te:=dW 0) scWord.nd rfl (Or.inl rfl) rfl rfl Z8 Z8 Z8 (bi (pv 1))
    (λ fp s H=>ke rfl (cE (aJ (i:=0) ndW) (cE (aJ (i:=1) ndW) gJ))) (λ fp s H=>bq (pv 1)) (λ fp s H=>pv 0) Z7)
  (ag (ax (tD (bq (az i8 Z7 T.isi Cu (aa (pv 0) (aa (cJ (v:=.ty "ValueError") Z7 Z.verr PyProof.Rows.Boot.«ValueError» rfl) ae))))
    (bw i6 Z7 Z.tuple PyProof.Rows.boot_tuple (aa (pv 2) ae)) (bL (aa cf ae)))))))))))))),?_⟩
 obtain⟨ci,i0,kk,hv,hzz⟩:ExI K C/\∃i0:Nat,(∀(i:Nat) (c:HZ),[c0,c1,c2,c3,c4,c5,c6,c7,c8,c9,c10,c11,c12,c13,c14,c15,c16,c17][i]?=some c->kitOne K (.ref C) (.ref c)=some (decide (i=i0)))/\
   kitOne K (.ref C) (.type "ValueError")=some true/\((i0=0/\z=Str.ofString "row")\/(i0=15/\z=Str.ofString "over")):=by
  rcases hz with⟨rfl,rfl⟩|⟨rfl,rfl⟩
  ·exact⟨Z.iR,0,Z.kR,Z.vR,.inl ⟨rfl,rfl⟩⟩
  ·exact⟨Z.iO,15,Z.kO,Z.vO,.inr ⟨rfl,rfl⟩⟩
 refine seq_g λ R g=>uv ci rfl [("row",c0),("bits",c1),("nobits",c2)] [decide (0=i0),decide (1=i0),decide (2=i0)] (.cons (kk 0 _ rfl) (.cons (kk 1 _ rfl) (.cons (kk 2 _ rfl) .nil))) hE Z6 λ b0 H0 S0=>g _ _ ?_
 clear g;refine seq_g λ R g=>dC ci S0 rfl rfl Z6 [("shares",c3),("lengths",c4)] [decide (3=i0),decide (4=i0)] (.cons (kk 3 _ rfl) (.cons (kk 4 _ rfl) .nil)) Z6 λ b1 H1 S1=>g _ _ ?_
 clear g;refine seq_g λ R g=>dC ci S1 rfl rfl Z6 [("code",c5),("table",c6),("cut",c7)] [decide (5=i0),decide (6=i0),decide (7=i0)] (.cons (kk 5 _ rfl) (.cons (kk 6 _ rfl) (.cons (kk 7 _ rfl) .nil))) Z6 λ b2 H2 S2=>g _ _ ?_
 clear g;refine seq_g λ R g=>dC ci S2 rfl rfl Z6 [("pieces",c8),("body",c9)] [decide (8=i0),decide (9=i0)] (.cons (kk 8 _ rfl) (.cons (kk 9 _ rfl) .nil)) Z6 λ b3 H3 S3=>g _ _ ?_
 clear g;refine seq_g λ R g=>dC ci S3 rfl rfl Z6 [("head",c10),("check",c11)] [decide (10=i0),decide (11=i0)] (.cons (kk 10 _ rfl) (.cons (kk 11 _ rfl) .nil)) Z6 λ b4 H4 S4=>g _ _ ?_
 clear g;refine seq_g λ R g=>dC ci S4 rfl rfl Z6 [("mark",c12),("tail",c13)] [decide (12=i0),decide (13=i0)] (.cons (kk 12 _ rfl) (.cons (kk 13 _ rfl) .nil)) Z6 λ b5 H5 S5=>g _ _ ?_
 clear g;refine seq_g λ R g=>dC ci S5 rfl rfl Z6 [("behind",c14),("over",c15),("range",c16)] [decide (14=i0),decide (15=i0),decide (16=i0)] (.cons (kk 14 _ rfl) (.cons (kk 15 _ rfl) (.cons (kk 16 _ rfl) .nil))) Z6 λ b6 H6 S6=>g _ _ ?_
 clear g;refine seq_g λ R g=>dC ci S6 rfl rfl Z6 [("letters",c17)] [decide (17=i0)] (.cons (kk 17 _ rfl) .nil) Z6 λ b7 H7 S7=>g _ _ ?_
 clear g;obtain⟨s8,⟨vx,e8⟩,ps,hl8,tw8⟩:=S7;generalize hxs:(_++List.zip _ _:List (Str×Bool))=xs at tw8;have hfin:((xs.filter (·.2)).map λ x=>V.str x.1)=[V.str z]:=by
  rw [<-hxs];rcases hzz with⟨rfl,rfl⟩|⟨rfl,rfl⟩<;>rfl
 have hlen:xs.length=18:=by rw [<-hxs];rfl
 clear hxs;have hps:ps.length=xs.length:=FZ tw8;refine seq_g λ _ g=>⟨_,rfl,b7,rfl,⟨_,SqL.of hl8⟩,λ l2 hl2=>fo (K:=K) (a:=b7) (xs:=ps.map V.ref) (λ i ys H'=>ys=((xs.take i).filter (·.2)).map (λ x=>V.str x.1)/\H' l2=some (.lst ys)/\Same H7 H')
  ⟨Z6,ac,λ c o e=>by rw [upd_ne (ai e hl2)];exact e⟩ (λ i ys H' _ p=>SqL.of (p.2.2 _ _ hl8)) ?_ ?_ sZ ?_ ?_⟩
 ·rintro i x ys σ H' hx ⟨e1,e2,s9⟩ hσ;obtain⟨p,hp,rfl⟩:∃p,ps[i]?=some p/\x=V.ref p:=by
   rw [B4] at hx;cases e:ps[i]? with
   |none=>rw [e] at hx;cases hx
   |some q=>rw [e] at hx;exact⟨q,rfl,(BU hx).symm⟩
  obtain⟨y,hy,htup⟩:=tw8.get hp;obtain⟨u,v,rfl⟩:∃u v,σ=[u,v]:=by
   match σ,hσ with
   | [u,v],_=>exact⟨u,v,rfl⟩
  refine⟨p,_,rfl,SqT.of (s9 _ _ htup),rfl,_,_,rfl,_,_,rfl,rfl,_,rfl,_,rfl,?_⟩;have fs:=qC xs i y hy;cases hb:y.2 with
  |true=>
   dsimp only;rw [BM rfl];rw [hb,BM rfl,<-e1] at fs;refine⟨_,rfl,e2,?_,rfl,fs.symm,ac,λ c o e=>?_⟩
   ·have:=(Bo.mp hy).1;rw [e1,A9];have l1:=Fk (λ x:Str×Bool=>x.2) (xs.take i);rw [Bv] at l1;have h18:i<18:=Bn this hlen;exact B0 (Ba l1 (Da _ _)) (Fl h18 Z9)
   ·have hne:c≠l2:=ai e hl2;rw [upd_ne hne];exact s9 _ _ e
  |false=>
   dsimp only;rw [Bu BL];rw [hb,Bu BL,Ct,<-e1] at fs;exact⟨rfl,fs.symm,e2,s9⟩
 ·rintro ys H' ⟨e1,e2,s9⟩;refine g _ _ ?_;clear g;rw [A9,hps,Cc,hfin] at e1;subst e1;refine⟨_,rfl,a,C,vx,.type "ValueError",true,rfl,⟨0,.inr ⟨_,rfl⟩⟩,s9 _ _ e8,ci,hv,_,rfl,gi ?_⟩;refine⟨_,rfl,l2,[.str z],rfl,.inl ⟨SqL.of e2,λ t ht=>?_⟩⟩;exact k t _ ((s8.trans s9).trans λ c o e=>by rw [upd_ne (ai e ht)];exact e) ac
 ·rintro σ H A B m ⟨x,e,c,e2,z⟩;exact⟨x,e,c,e2,m _ _ z⟩
 ·rintro σ H A B m ⟨x,e,z⟩;exact⟨x,e,m _ _ z⟩
end
abbrev tF:Im:=top 115
theorem oE {k y:Str}(hx:List.lookup x ([(".0",.local),(k,.local),(z,.globalImplicit),(y,.cell)]:List (Str×NameKind))=some .cell\/List.lookup x ([(".0",.local),(k,.local),(z,.globalImplicit),(y,.cell)]:List (Str×NameKind))=some .free):x=y:=by
 rcases hx with hx|hx
 ·have m':=Dd hx;simpa using m'
 ·have m':=Dd hx;simp at m'
theorem zX:(["_law_j","_law_number"]:List Str).Nodup:=Z8
theorem mC {te:TE}{σ0:St}{R:HZ->Hp->Prop}(hk:k≤1000)(h0:σ0=[none,some (vN n)])(hte:∀(j:Nat) (H':Hp) (Q:VK),j≤1000->(∀b,b<256->Q (vN b) H')->te [some (vN j),some (vN n)] H' Q)(mt:∀σ H (A B:VK),(∀v H',A v H'->B v H')->te σ H A->te σ H B)
  (h:∀(l:HZ) (S:List Nat) (H':Hp),H l=none->Same H H'->H' l=some (.lst (S.map vN))->S.length=k->(∀b∈S,b<256)->R l H'):∀l,H l=none->∃W:Nat->Nat->List V->St->Hp->Prop,(∃m,W 0 m [] σ0 (upd H l (.lst [])))/\∀i m ys σ' H',W i m ys σ' H'->
   ((Itr 0 k).stop i H'/\R l H')\/((Itr 0 k).go i H'/\∀x H2,(Itr 0 k).yld i H' x H2->bz 0 x σ' H2 λ σ3 H3=>te σ3 H3 λ y H4=>
    H4 l=some (.lst ys)/\ys.length<sizeLine/\∃m',m'<m/\W (i+1) m' (ys++[y]) σ3 (upd H4 l (.lst (ys++[y])))):=λ l nl=>by
 subst h0;refine qY (g:=bz 0) (te:=te) (lo:=0) (l:=l) (k:=k) (λ p ys σ H2=>∃(v0:Option V) (S:List Nat),σ=[v0,some (vN n)]/\ys=S.map vN/\S.length=p/\(∀b∈S,b<256)/\H2 l=some (.lst ys)/\Same H H2)
  ⟨none,[],rfl,rfl,rfl,(λ _ h=>nomatch h),ac,aj nl⟩ ?_ ?_ (λ x σ H A B h z=>h _ _ z) mt
 ·rintro p ys σ H2 hp ⟨v0,S,rfl,rfl,hl,hb,h2,sm⟩;have e:(0:Int)+((p:Nat):Int)=((p:Nat):Int):=Int.zero_add ↑_;rw [e];refine hte p H2 _ (Ba (B7 hp) hk) λ b hb'=>⟨h2,bF (by rw [A9];lia),_,S++[b],rfl,by rw [Bm];rfl,by rw [Bb,hl];rfl,λ x hx=>?_,ac,λ d o e=>by rw [upd_ne (ai e nl)];exact sm _ _ e⟩
  rcases Br.mp hx with z|z
  ·exact hb _ z
  ·rw [Bx.mp z];exact hb'
 ·rintro ys σ H2 ⟨v0,S,rfl,rfl,hl,hb,h2,sm⟩;exact h l S H2 nl sm h2 hl hb
section
def xX:Sp:=λ vs H Q _=>∃(c:Int) (s:Nat),vs=[.int c,vN s]/\s≤300/\∀(l:HZ) (T:List Nat) (H':Hp),Same H H'->H l=none->H' l=some (.lst (T.map vN))->T.length=s->(∀b∈T,b<256)->Q (.ref l) H'
theorem scText:FnScope ["_law_cell","_law_size","_law_text_here","_law_turn","_law_number","_law_way","_law_long","_law_begin"] ["_law_cell","_law_size"] (ak tF):=scK Z8
theorem wL {fm:HZ}{fdm:Ih}(F:Fn K mg "_law_text" tF ["_law_cell","_law_size"] f fd)(Mi:Fn K mg "_law_mixed" jI ["_law_cell","_law_k"] fm fdm)(X:K24.Txt K mg):FnOk P w K mg base CX0 31 f fd ["_law_cell","_law_size"] xX:=by
 have GM:=mD (P:=P) (w:=w) (base:=base) Mi;refine F.F.ok scText λ Iq A outer st H vs Q E hr h=>?_
 intro _;obtain⟨c,s,rfl,hs,k⟩:=h;have hr1:Room 1 _:=hr.mono Z9;have hu:=hr.units;refine⟨_,ad (ar (i:=2) scText.nd (aE ae))
  (ad (ar (i:=3) scText.nd af)
  (ad (cX BW (aA jw (az ay Z7 X.len BV (aa (pv 2) ae)) (pv 1) (aC _)) (ad (ar (i:=4) scText.nd (aq GM hr1 Z7 Mi.m Mi.F.kp Mi.b .nil aw (aa (pv 0) (aa (pv 3) ae))))
  (ad (ar (i:=3) scText.nd (am aK (pv 3) af))
  (ad (ar (i:=5) scText.nd (am a7 (pv 4) af))
  (ad (ar (i:=6) scText.nd (am aK af (am a7 (am a9 (pv 4) af) af)))
  (ag (aL (aA bP (pv 5) af (aC _)) (ag (ar (i:=2) scText.nd (am aR (pv 2) (am jP (aE (aa (am a7 (am a9 (pv 4) af) af) ae)) (pv 6))))) (ag (aL (aA bP (pv 5) af (aC _)) (ag (ar (i:=2) scText.nd (am aR (pv 2) (k6 (N:=["_law_j","_law_number"]) (js:=[none,some 4]) (cl:=[("_law_number",st.heap.objs.size+1)]) (g:=bz 0) rfl ⟨rfl,Z8,Z8,Z7,λ x c h=>(by obtain⟨rfl,rfl⟩:=iL h;rfl),λ x hx=>(by obtain rfl:=oE hx;exact⟨_,rfl⟩),rfl,λ i x j h1 h2=>?c1⟩ (cS Z7 X.range (aa (pv 6) ae)) (λ fp s H=>aJ (i:=0) zX) (λ fp s H=>am a7 (am a9 (aq GM hr1 Z7 Mi.m Mi.F.kp Mi.b .nil aw (aa (pv 1) (aa (pv 0) ae))) af) af))))) (ag (aL (aA bP (pv 5) af (aC _)) (ag (ar (i:=2) scText.nd (am aR (pv 2) (k6 (N:=["_law_j","_law_number"]) (js:=[none,some 4]) (cl:=[("_law_number",st.heap.objs.size+1)]) (g:=bz 0) rfl ⟨rfl,Z8,Z8,Z7,λ x c h=>(by obtain⟨rfl,rfl⟩:=iL h;rfl),λ x hx=>(by obtain rfl:=oE hx;exact⟨_,rfl⟩),rfl,λ i x j h1 h2=>?c2⟩ (cS Z7 X.range (aa (pv 6) ae)) (λ fp s H=>aJ (i:=0) zX) (λ fp s H=>am aK (am a7 (am a9 (pv 1) af) af) (am a7 (am a9 (aq GM hr1 Z7 Mi.m Mi.F.kp Mi.b .nil aw (aa (pv 1) (aa (pv 0) ae))) af) af)))))) (ag (aL (PW.pt (nJ (aA bP (pv 5) af (aC _)) (j6 (aA (dD hu) (pv 2) (aE ae) (aC _))))) (ad (ar (i:=7) scText.nd (am a7 (am a9 (pv 4) af) (az ay Z7 X.len BV (aa (pv 2) ae))))
  (ag (ar (i:=2) scText.nd (am aR (pv 2) (bu bJ (pv 2) (a6 (pv 7)) (a6 (am aK (pv 7) (pv 6)))))))) (ag (aF (dI Cj CD CS bv (pv 2) (aa (am a7 (am a9 (pv 4) af) af) ae)))))))))))))))))
  (ag (ax (bu bJ (pv 2) d7 (a6 (pv 1))))))),?_⟩
 case c1=>obtain⟨rfl,rfl⟩:=uw h1 h2;exact⟨rfl,rfl,rfl,λ c h=>h⟩
 case c2=>obtain⟨rfl,rfl⟩:=uw h1 h2;exact⟨rfl,rfl,rfl,λ c h=>h⟩
 refine seq_g λ R1 g1=>⟨Z9,λ l0 n0=>g1 _ _ ?_⟩
 clear g1;refine seq_g λ R1 g1=>g1 _ _ ?_
 clear g1;refine seq_g λ _ g1=>⟨λ m σ H2=>∃(v4 v5 v6 v7:Option V) (l:HZ) (A:List Nat) (t:Nat),m=s-t/\σ=[some (.int c),some (vN s),some (.ref l),some (vN t),v4,v5,v6,v7]/\t≤A.length/\A.length≤s+20/\(∀b∈A,b<256)/\H2 l=some (.lst (A.map vN))/\H l=none/\Same H H2,
  ⟨s,none,none,none,none,l0,[],0,rfl,rfl,BX _,BX _,(λ _ h=>nomatch h),ac,n0,aj n0⟩,?_⟩
 rintro m σ H2 ⟨v4,v5,v6,v7,l,A',t,rfl,rfl,ht,hA,hb,hl,nl,sm⟩;refine⟨_,rfl,l,_,rfl,.inl (SqL.of hl),_,rfl,_,_,rfl,rfl,_,rfl,?_⟩
 try dsimp only
 rw [A9];refine bd (λ h1=>?_) (λ h1=>?_)
 rotate_left
 ·have hge:s≤A'.length:=by
   have:=Ff (Bool.not_eq_true _▸h1);lia
  refine g1 _ _ ⟨_,rfl,_,rfl,_,rfl,l,_,rfl,SqL.of hl,λ l2 n2=>?_⟩
  try dsimp only
  rw [iS,<-E1];exact k l2 (A'.take s) _ (sm.trans (aj n2)) (none_of sm n2) ac (by rw [Bv];exact CA hge) λ b hb'=>hb b (Cq hb')
 clear g1;have Ir:A'.length<s:=by have:=Bp h1;exact EC.mp this
 refine⟨_,λ σ' H' z=>z,?_⟩;refine seq_g λ _ g1=>⟨_,rfl,_,rfl,c,((t:Nat):Int),rfl,Z5,Z5,g1 _ _ ?_⟩
 clear g1;refine seq_g λ _ g1=>⟨_,rfl,_,_,rfl,rfl,g1 _ _ ?_⟩
 clear g1;generalize mixN c ((t:Nat):Int)=n;refine seq_g λ _ g1=>⟨_,rfl,_,_,rfl,rfl,(by show(0:Int)<5;decide),g1 _ _ ?_⟩
 clear g1;refine seq_g λ _ g1=>⟨_,rfl,_,_,rfl,rfl,⟨Z9,Z9⟩,_,_,rfl,rfl,(by show(0:Int)<20;decide),_,_,rfl,rfl,g1 _ _ ?_⟩
 clear g1;obtain⟨L,hL1,hL20,eL⟩:∃L:Nat,1≤L/\L≤20/\(1:Int)+((n:Nat):Int)/5%20=((L:Nat):Int):=⟨1+n/5%20,B1 1 (_/5%20),Z5,Z5⟩;have e256:((n:Nat):Int)/100%256=((n/100%256:Nat):Int):=Z5;have hn256:n/100%256<256:=DK _ Z9
 try dsimp only
 rw [eL];have J:∀(v7:Option V) (l2:HZ) (S:List Nat) (H3:Hp),1≤S.length->S.length≤20->(∀b∈S,b<256)->H3 l2=some (.lst ((A'++S).map vN))->H l2=none->Same H H3->∃m',m'<s-t/\∃(v4 v5 v6 v7':Option V) (l':HZ) (A2:List Nat) (t':Nat),m'=s-t'/\[some (.int c),some (vN s),some (.ref l2),some (.int (((t:Nat):Int)+1)),some (vN n),some (.int (((n:Nat):Int)%5)),some (.int ((L:Nat):Int)),v7]=[some (.int c),some (vN s),some (.ref l'),some (vN t'),v4,v5,v6,v7']/\t'≤A2.length/\A2.length≤s+20/\(∀b∈A2,b<256)/\H3 l'=some (.lst (A2.map vN))/\H l'=none/\Same H H3:=
  λ v7 l2 S H3 h1 h2 h3 h4 h5 h6=>⟨s-(t+1),Cy _ _ (B0 ht Ir),_,_,_,v7,l2,A'++S,t+1,rfl,rfl,by rw [Bb];exact E9 ht h1,by rw [Bb];lia,λ b hb'=>(Br.mp hb').elim (hb b) (h3 b),h4,h5,h6⟩
 have one:∀b∈ [n/100%256],b<256:=λ b hb'=>by rw [Bx.mp hb'];exact hn256
 have fin:∀{v7:Option V} {lj:HZ} {S:List Nat} {H3:Hp},Same H2 H3->H3 lj=some (.lst (S.map vN))->1≤S.length->S.length≤20->(∀b∈S,b<256)->yG (.ref l) (.ref lj) H3 λ v H4=>∃m',m'<s-t/\∃(v4 v5 v6 v7':Option V) (l':HZ) (A2:List Nat) (t':Nat),m'=s-t'/\[some (.int c),some (vN s),some v,some (.int (((t:Nat):Int)+1)),some (vN n),some (.int (((n:Nat):Int)%5)),some (.int ((L:Nat):Int)),v7]=[some (.int c),some (vN s),some (.ref l'),some (vN t'),v4,v5,v6,v7']/\t'≤A2.length/\A2.length≤s+20/\(∀b∈A2,b<256)/\H4 l'=some (.lst (A2.map vN))/\H l'=none/\Same H H4:=
  λ {v7 lj S H3} s3 h3 h1 h2 hS=>⟨l,lj,_,_,rfl,rfl,s3 _ _ hl,h3,bj (by rw [A9,A9];lia),λ l5 n5=>by
   rw [<-Bm];exact J v7 l5 S _ h1 h2 hS ac (none_of (sm.trans s3) n5) ((sm.trans s3).trans (aj n5))⟩
 refine⟨_,rfl,rfl,_,rfl,bd (λ _=>?_) (λ _=>?_)⟩
 ·refine⟨_,rfl,_,rfl,_,_,rfl,rfl,⟨Z9,Z9⟩,_,_,rfl,rfl,(by show(0:Int)<256;decide),(by show 1≤sizeLine;decide),λ l3 n3=>?_⟩
  try dsimp only
  rw [e256];have s3:=aj (o:=.lst [vN (n/100%256)]) n3;refine⟨_,rfl,l3,_,_,rfl,rfl,ac,Ec (2^63) _,Z5,bj (by show 1*_≤_;lia),λ l4 n4=>?_⟩
  try dsimp only
  rw [BO,tV];have s4:=aj (o:=.lst ((List.replicate L (n/100%256)).map vN)) n4;refine fin (s3.trans s4) ac (by rw [C6];exact hL1) (by rw [C6];exact hL20) λ b hb'=>?_
  rw [List.eq_of_mem_replicate hb'];exact hn256
 refine⟨_,rfl,rfl,_,rfl,bd (λ _=>?_) (λ _=>?_)⟩
 ·refine⟨_,rfl,_,rfl,_,rfl,Z5,Int.ofNat_lt.2 (B0 hL20 Z9),?_⟩
  try dsimp only
  rw [BO];refine mC (n:=n) Z5 rfl (λ j H4 Q4 hj h4=>?_) ?_ (λ lj S H4 nj s4 h4 hl4 hb4=>fin s4 h4 (Gs hL1 hl4.symm) (De hl4 hL20) hb4)
  ·refine⟨_,rfl,_,rfl,_,_,rfl,BZ _,Z5,_,_,rfl,rfl,⟨Z9,Z9⟩,_,_,rfl,rfl,(by show(0:Int)<256;decide),?_⟩
   try dsimp only
   rw [show((mixN ((n:Nat):Int) ((j:Nat):Int):Nat):Int)/7%256=((mixN ((n:Nat):Int) ((j:Nat):Int)/7%256:Nat):Int) from DR (FO rfl rfl)];exact h4 _ (DK _ Z9)
  ·rintro σ H A B h ⟨v,e1,v2,e2,c',k',e5,e6,e7,i,j,f1,f2,f3,i2,j2,f4,f5,f6,z⟩;exact⟨v,e1,v2,e2,c',k',e5,e6,e7,i,j,f1,f2,f3,i2,j2,f4,f5,f6,h _ _ z⟩
 refine⟨_,rfl,rfl,_,rfl,bd (λ _=>?_) (λ _=>?_)⟩
 ·refine⟨_,rfl,_,rfl,_,rfl,Ec (2^62) _,Int.ofNat_lt.2 (B0 hL20 Z9),?_⟩
  try dsimp only
  rw [BO];refine mC (n:=n) (Ba hL20 Z9) rfl (λ j H4 Q4 hj h4=>?_) ?_ (λ lj S H4 nj s4 h4 hl4 hb4=>fin s4 h4 (Gs hL1 hl4.symm) (De hl4 hL20) hb4)
  ·refine⟨_,rfl,_,_,rfl,rfl,⟨Z9,Z9⟩,_,_,rfl,rfl,(by show(0:Int)<250;decide),_,rfl,_,rfl,_,_,rfl,BZ _,HR rfl rfl hj,_,_,rfl,rfl,⟨Z9,Z9⟩,_,_,rfl,rfl,(by show(0:Int)<3;decide),_,_,rfl,rfl,?_⟩
   try dsimp only
   rw [show((n:Nat):Int)/100%250+((mixN ((n:Nat):Int) ((j:Nat):Int):Nat):Int)/7%3=((n/100%250+mixN ((n:Nat):Int) ((j:Nat):Int)/7%3:Nat):Int) by lia];exact h4 _ Z5
  ·rintro σ H A B h ⟨v,e1,i,j,f1,f2,f3,i2,j2,f4,f5,f6,v3,e3,v2,e2,c',k',e5,e6,e7,i3,j3,g1,g2,g3,i4,j4,g4,g5,g6,i5,j5,g7,g8,z⟩;exact⟨v,e1,i,j,f1,f2,f3,i2,j2,f4,f5,f6,v3,e3,v2,e2,c',k',e5,e6,e7,i3,j3,g1,g2,g3,i4,j4,g4,g5,g6,i5,j5,g7,g8,h _ _ z⟩
 have app:∀{v7:Option V} {H3:Hp},Same H2 H3->pJ (.ref l) [vN (n/100%256)] H3 λ v H4=>∃m',m'<s-t/\∃(v4 v5 v6 v7':Option V) (l':HZ) (A2:List Nat) (t':Nat),m'=s-t'/\[some (.int c),some (vN s),some (.ref l),some (.int (((t:Nat):Int)+1)),some (vN n),some (.int (((n:Nat):Int)%5)),some (.int ((L:Nat):Int)),v7]=[some (.int c),some (vN s),some (.ref l'),some (vN t'),v4,v5,v6,v7']/\t'≤A2.length/\A2.length≤s+20/\(∀b∈A2,b<256)/\H4 l'=some (.lst (A2.map vN))/\H l'=none/\Same H H4:=λ {v7 H3} s3=>⟨l,_,_,rfl,rfl,s3 _ _ hl,bF (by rw [A9];lia),J v7 l [n/100%256] _ (Bh _) (by show 1≤20;decide) one (by rw [ac,Bm];rfl) nl λ e o z=>by rw [upd_ne (ai z nl)];exact s3 _ _ (sm _ _ z)⟩
 refine⟨_,rfl,rfl,_,rfl,bd (λ _=>?_) (λ _=>?_)⟩
 rotate_left
 ·refine bV ⟨_,rfl,.inl ⟨rfl,_,SqL.of hl⟩,_,rfl,_,_,rfl,rfl,⟨Z9,Z9⟩,_,_,rfl,rfl,(by show(0:Int)<256;decide),?_⟩
  try dsimp only
  rw [e256];exact app (Same.refl _)
 ·refine⟨_,rfl,Z9,λ le ne=>⟨l,le,A'.map λ b=>((b:Nat):Int),[],rfl,rfl,?_,SqL.of ac,_,rfl,bd (λ h=>?_) (λ h=>?_)⟩⟩
  ·rw [<-bA];exact SqL.of (aj ne _ _ hl)
  ·have hA0:0<A'.length:=by
    cases A' with
    |nil=>simp at h
    |cons _ _=>exact Nat.succ_pos _
   have s3:=aj (o:=.lst []) ne;have hl3:=s3 _ _ hl;generalize upd H2 le (.lst [])=H3 at*;refine seq_g λ _ g1=>⟨_,rfl,_,_,rfl,rfl,⟨Z9,Z9⟩,_,rfl,l,_,rfl,.inl (SqL.of hl3),_,_,rfl,rfl,(by show(0:Int)<(((A'.map vN).length:Nat):Int);rw [A9];exact G6.mpr hA0),g1 _ _ ?_⟩
   clear g1;have hbe:n/100%A'.length<A'.length:=DK _ hA0;have ebe:((n:Nat):Int)/100%(((A'.map vN).length:Nat):Int)=((n/100%A'.length:Nat):Int):=by rw [A9,Int.natCast_emod,Int.natCast_ediv];rfl
   try dsimp only
   rw [ebe];generalize n/100%A'.length=be at*;refine⟨_,rfl,_,rfl,_,rfl,_,rfl,_,rfl,_,rfl,_,_,rfl,rfl,_,rfl,l,_,rfl,SqL.of hl3,λ lc nc=>?_⟩
   try dsimp only
   rw [show((be:Nat):Int)+((L:Nat):Int)=((be+L:Nat):Int) from FN _ _,eV _ Z5,show be+L-be=L from DQ _ _,<-EE,<-E1];exact fin (s3.trans (aj nc)) ac (by rw [Bv,By];exact Nat.le_min.2 ⟨hL1,EN hbe⟩) (by rw [Bv];exact Ba (Da _ _) hL20) λ b hb'=>hb b (Cs (Cq hb'))
  ·refine⟨_,rfl,.inl ⟨rfl,_,SqL.of (aj ne _ _ hl)⟩,_,rfl,_,_,rfl,rfl,⟨Z9,Z9⟩,_,_,rfl,rfl,(by show(0:Int)<256;decide),?_⟩
   try dsimp only
   rw [e256];exact app (aj ne)
end
abbrev mH:Im:=top 124
theorem yU (K:Frag):kitOne K (.type "list") (.type "tuple")=some false:=by
 show(if(Value.type "list"==Value.type "tuple")=true then some true else if kitMeta "tuple"=true then(fastBuiltinMro "list").map (·.contains (.type "tuple")) else none)=some false;decide+kernel
theorem vE {b:Nat}{x y:Int}(hx:0≤x)(hy:y=0\/y=1)(hb:b≤n):∃e:Nat,b≤e/\e≤n/\(if((b:Nat):Int)+x*y<((n:Nat):Int) then((b:Nat):Int)+x*y else((n:Nat):Int))=((e:Nat):Int):=by
 have h0:0≤x*y:=by rcases hy with rfl|rfl<;>lia
 generalize x*y=z at*
 split
 ·exact⟨(((b:Nat):Int)+z).toNat,Z5,Z5,Z5⟩
 ·exact⟨n,hb,Bh _,rfl⟩
section
variable {B D G' CW C0 C1 C2 C3 c CK CHd CO C cO cR cP Tb:HZ}{cs:List HZ}
theorem nn {ys:List V}(h:H l=some (.lst (y::ys)))(hy:Rf.WhV K H y 0 255 false):Rf.NoRow K H (.ref l):=
 .inr ⟨l,_,0,y,rfl,h,λ i hi=>absurd hi (G1 _),rfl,hy⟩
theorem jk (h:H l=some (.lst [.int 3,y]))(hy:Rf.WhV K H y 0 255 false):Rf.NoRow K H (.ref l):=
 .inr ⟨l,_,1,y,rfl,h,λ i hi=>⟨3,Z9,(show i=0 from Nat.lt_one_iff.mp hi)▸rfl⟩,rfl,hy⟩
theorem PrAt.away {co ck:HZ}{A:List Nat}{bg:Bool}{xs:List V}{o:HO}(h:PrAt C CO CK H p co ck A bg)(hl:H l=some (.lst xs))(hw:∀dx wt bg fn,H p=some (.ins C dx (fP co wt bg fn))->wt≠l)(hg:∀dx b m ck g,H co=some (.ins CO dx (fO b m ck g))->g≠l):PrAt C CO CK (upd H l o) p co ck A bg:=by
 obtain⟨⟨dx,wt,g,h1,h2,h3⟩,h4⟩:=h;obtain⟨_,hco⟩:=h3.ob;obtain⟨_,hck⟩:=h3.ch;refine⟨⟨dx,wt,g,by rw [upd_ne (ne_of h1 hl (by intro z;cases z))];exact h1,by rw [upd_ne (hw _ _ _ _ h1)];exact h2,h3.keep λ e o z hz=>?_⟩,h4⟩;rw [upd_ne (by
  rcases hz with rfl|rfl|rfl
  ·exact ne_of hco hl (by intro z;cases z)
  ·exact ne_of hck hl (by intro z;cases z)
  ·exact hg _ _ _ _ _ hco)]
 exact z
def wa (Tb C CO CK:HZ):Sp:=λ vs H Q _=>∃(p a co ck:HZ) (T:List Nat) (b m:Nat) (bg:Bool),vs=[.ref p,.ref a,vN b,vN m]/\H a=some (.lst (T.map vN))/\(∀x∈T,x<256)/\T.length≤300/\b≤T.length/\PrAt C CO CK H p co ck (T.take b) bg/\TbB Tb H/\
 ∀(t l:HZ) (e:Nat) (Rs:List (List Nat)) (H':Hp),b≤e->e≤T.length->H l=none->nb (T.take b)+Rs.length=nb (T.take e)->(∀j R,Rs[j]?=some R->Bl (T.take e) (nb (T.take b)+j) R)->H' l=some (.lst ((mk bg++Rs.flatten).map vN))->H' t=some (.tup [vN e,.ref l])->PrAt C CO CK H' p co ck (T.take e) true->
  (∀e o,e≠Tb->H e=some o->e≠p->e≠co->e≠ck->H' e=some o)->TbB Tb H'->New C CO H H' p co->Q (.ref t) H'
theorem scPiece:FnScope ["_law_presser","_law_text_here","_law_begin","_law_more","_law_odd","_law_end","_law_handed","_law_found"] ["_law_presser","_law_text_here","_law_begin","_law_more"] (ak mH):=scK Z8
theorem rZ (F:Fn K mg "_law_piece" mH ["_law_presser","_law_text_here","_law_begin","_law_more"] f fd)(Z:Prz K mg B D G' CW C0 C1 C2 C3 c CK CHd CO C cO)(X:K24.Txt K mg)(Er:Ers K mg cP cR cO cs)(Wd:Fn K mg "_law_word" ij ["_law_e"] fw fdw)(Fd:Fn K mg "_law_fed" uI ["_law_presser","_law_thing"] ff fdf)
  (hC:CodeHd base c Tb) (hBm:BmAt mg base) (hK:K.lookup Tb=none):FnOk P w K mg base CX0 44 f fd ["_law_presser","_law_text_here","_law_begin","_law_more"] (wa Tb C CO CK):=by
 have GF:=rX (P:=P) (w:=w) (base:=base) Fd Z Wd (pi Wd X Er) Er.mP Er.xP Er.eR Er.eO Er.mR hC hBm hK;refine F.F.ok scPiece λ Iq A outer st H vs Q E hr h=>?_
 intro _;obtain⟨p,a,co,ck,T,b,m,bg,rfl,ha,hTb,hl,hbl,hP,hT,k⟩:=h;have hr43:Room 43 _:=hr.mono Z9;have hu:=hr.units;have hu0:=hr.units0;have hn:=hr.hd Z9;refine⟨_,ad (aL (aA bP (am a7 (pv 3) af) af (aC _)) (ad (ar (i:=4) scPiece.nd (aM aW (aE (aa eK (aa (bL (aa af ae)) (aa (aE (aa af ae)) (aa cf (aa (aE (aa af (aa bU ae))) (aa (aE (aa af (aa af ae))) ae))))))) (am a7 (am a9 (pv 3) af) af) (λ _ _=>rfl)))
  (ag (aL (aA (jJ hu0) (aq GF hr43 Z7 Fd.m Fd.F.kp Fd.b .nil aw (aa (pv 0) (aa (pv 4) ae))) (bL (aa cf ae)) (aC _)) (ag (ax eK)) aD))) aD)
  (ad (ar (i:=5) scPiece.nd (az (dZ hn) Z7 X.min Fj (aa (az ay Z7 X.len BV (aa (pv 1) ae)) (aa (am aK (pv 2) (am bZ (am a7 (am a9 (pv 3) af) (am aK af (az ay Z7 X.len BV (aa (pv 1) ae)))) (bw gh Z7 X.int EA (aa (fF dH (am a7 (am a9 (pv 3) af) af) af (aC _)) ae)))) ae))))
  (ad (ar (i:=6) scPiece.nd (bu bJ (pv 1) (a6 (pv 2)) (a6 (pv 5))))
  (ad (ar (i:=7) scPiece.nd (aq GF hr43 Z7 Fd.m Fd.F.kp Fd.b .nil aw (aa (pv 0) (aa (pv 6) ae))))
  (ad (aL (PW.pt (fE (bq (az cx Z7 X.isi Cu (aa (pv 7) (aa (cJ (v:=.ty "tuple") Z7 Er.tuple PyProof.Rows.boot_tuple rfl) ae)))) (fE (bM (bq (az cx Z7 X.isi Cu (aa (aM aW (pv 7) af (λ _ _=>rfl)) (aa (cJ (v:=.ty "list") Z7 X.list C7 rfl) ae))))) (dP (aA (dD hu) (pv 6) (bu bJ (pv 1) (a6 (pv 2)) (a6 (pv 5))) (aC _)))))) (ag (ax eK)) aD)
  (ad (aF (dI Cj CD CS bv (pv 6) (aa af ae)))
  (ag (ax (bL (aa (pv 5) (aa (aM aW (pv 7) af (λ _ _=>rfl)) ae)))))))))),?_⟩
 refine seq_g λ R1 g1=>?_
 have J:∀(v4:Option V) (H1:Hp),Same H H1->R1 [some (.ref p),some (.ref a),some (vN b),some (vN m),v4,none,none,none] H1:=by
  intro v4 H1 s1;refine g1 _ _ ?_;clear g1;have ha1:=s1 _ _ ha;have hP1:=hP.same s1;have hT1:=hT.same s1;refine seq_g λ R2 g2=>?_
  have hlen:(((T.map vN).length:Nat):Int)=((T.length:Nat):Int):=by rw [A9]
  refine⟨_,rfl,a,_,rfl,.inl (SqL.of ha1),_,rfl,_,rfl,_,_,rfl,rfl,⟨Z9,Z9⟩,_,rfl,a,_,rfl,.inl (SqL.of ha1),_,_,rfl,rfl,_,_,rfl,rfl,(by show(0:Int)<1+(((T.map vN).length:Nat):Int);lia),_,rfl,_,_,rfl,rfl,⟨Z9,Z9⟩,_,_,rfl,rfl,(by show(0:Int)<4;decide),?_⟩;have hy:∀k:Bool,(if k=true then(1:Int) else 0)=0\/(if k=true then(1:Int) else 0)=1:=λ k=>by cases k;exact .inl rfl;exact .inr rfl
  have h01:∀k:Bool,-(2^64)<(if k=true then(1:Int) else 0)/\(if k=true then(1:Int) else 0)<2^64:=λ k=>by cases k<;>decide
  refine⟨_,_,rfl,rfl,.inr ⟨_,rfl,_,_,rfl,rfl,.inr (h01 _),_,_,rfl,rfl,_,_,rfl,g2 _ _ ?_⟩⟩;clear g2;obtain⟨e,he1,he2,ee⟩:=vE (b:=b) (n:=(T.map vN).length) (x:=((m:Nat):Int)/24%(1+(((T.map vN).length:Nat):Int))) (Int.emod_nonneg _ Z5) (hy (decide ((0:Int)<((m:Nat):Int)/7%4))) (by rw [A9];exact hbl);rw [A9] at he2
  try dsimp only
  rw [ee];refine seq_g λ _ g2=>⟨_,rfl,_,rfl,_,rfl,_,rfl,_,rfl,a,_,rfl,SqL.of ha1,λ lh nh=>g2 _ _ ?_⟩
  clear g2;have eS:cutV (T.map vN) (some ((b:Nat):Int)) (some ((e:Nat):Int))=((T.drop b).take (e-b)).map vN:=by rw [eV _ he1,<-EE,<-E1]
  have eA:T.take b++(T.drop b).take (e-b)=T.take e:=by rw [<-F1,show b+(e-b)=e from Cf he1]
  have hSb:∀x∈(T.drop b).take (e-b),x<256:=λ x hx=>hTb x (Cs (Cq hx))
  try dsimp only
  rw [eS];have s2:=aj (o:=.lst (((T.drop b).take (e-b)).map vN)) nh;have hh2:(upd H1 lh (.lst (((T.drop b).take (e-b)).map vN))) lh=some (.lst (((T.drop b).take (e-b)).map vN)):=ac;have nlh:H lh=none:=none_of s1 nh;generalize upd H1 lh (.lst (((T.drop b).take (e-b)).map vN))=H2 at*;have ha2:=s2 _ _ ha1;have s02:=s1.trans s2;refine seq_g λ _ g2=>⟨_,rfl,_,rfl,p,.ref lh,rfl,.inr ⟨co,ck,T.take b,bg,hP1.same s2,.inr ⟨(T.drop b).take (e-b),⟨lh,rfl,hh2,hSb⟩,by rw [eA,Bv];lia,hT1.same s2,λ lo l Rs H3 nl hn3 hB3 hl3 hlo3 hP3 fr3 hT3 hN3=>g2 _ _ ?_⟩⟩⟩
  clear g2;rw [eA] at hn3 hB3 hP3;have nl0:H l=none:=none_of s02 nl;obtain⟨⟨dx,wt,g,hp,_,hCo⟩,_⟩:=id hP1;obtain⟨_,hco⟩:=hCo.ob;obtain⟨_,hck⟩:=hCo.ch;have hg1:=hCo.gr;obtain⟨⟨_,_,_,_,_,hCoH⟩,_⟩:=id hP;obtain⟨_,hcoH⟩:=hCoH.ob;replace hp:=s2 _ _ hp;replace hco:=s2 _ _ hco;replace hck:=s2 _ _ hck;have away:∀{e:HZ} {xs:List V},H2 e=some (.lst xs)->H3 e=some (.lst xs):=λ z=>fr3 _ _ ((hT1.same s2).ne z (by intro ps z;cases z)) z (ne_of z hp (by intro z;cases z)) (ne_of z hco (by intro z;cases z)) (ne_of z hck (by intro z;cases z))
  have ha3:=away ha2;have hh3:=away hh2;refine seq_g λ _ g2=>⟨_,rfl,_,_,_,_,rfl,.lst hlo3,yU K,_,rfl,bV ?_⟩
  refine⟨_,rfl,lo,_,_,_,rfl,rfl,SqL.of hlo3,aB (j:=0) rfl,_,_,_,_,rfl,.lst hl3,jE K,_,rfl,bV ?_⟩;refine⟨_,rfl,_,rfl,_,rfl,_,rfl,_,rfl,_,rfl,a,_,rfl,SqL.of ha3,λ ls ns=>?_⟩
  try dsimp only
  rw [eS];have s4:=aj (o:=.lst (((T.drop b).take (e-b)).map vN)) ns;have h44:(upd H3 ls (.lst (((T.drop b).take (e-b)).map vN))) ls=some (.lst (((T.drop b).take (e-b)).map vN)):=ac;generalize upd H3 ls (.lst (((T.drop b).take (e-b)).map vN))=H4 at*;refine⟨lh,ls,_,_,rfl,rfl,by rw [<-bA];exact SqL.of (s4 _ _ hh3),by rw [<-bA];exact SqL.of h44,_,rfl,dG Z6 (g2 _ _ ?_)⟩;clear g2;have hh4:=s4 _ _ hh3;obtain⟨⟨_,_,_,hp3,_,hC3⟩,_⟩:=id hP3;obtain⟨_,hco3⟩:=hC3.ob;have hP5:∀{o:HO},PrAt C CO CK (upd H4 lh o) p co ck (T.take e) true:=(hP3.same s4).away hh4 (λ dx wt bg fn z y=>by rw [y] at z;rw [hN3.1 _ _ _ _ (back s4 hp3 z)] at hh2;cases hh2) λ dx b' m' ck' g' z y=>by
   rcases hN3.2 _ _ _ _ _ (back s4 hco3 z) with q|⟨dx',b2,m2,q⟩
   ·rw [y,hh2] at q;cases q
   ·rw [hco] at q;simp [fO] at q;rw [q.2.2.2.2,y,nh] at hg1;cases hg1
  have fr5:∀(y:HO) e o,e≠Tb->H e=some o->e≠p->e≠co->e≠ck->(upd H4 lh y) e=some o:=λ y e o n z n1 n2 n3=>by rw [upd_ne (ai z nlh)];exact s4 _ _ (fr3 _ _ n (s02 _ _ z) n1 n2 n3)
  refine seq_g λ _ g2=>⟨_,rfl,.inl ⟨rfl,_,SqL.of hh4⟩,lh,_,_,rfl,rfl,hh4,bF (by rw [A9,Bv];exact Ba (Da _ _) (Ba (Ek _ _) (Ba he2 (Ba hl Z9)))),g2 _ _ ?_⟩
  clear g2;have hl4:H4 l=some _:=s4 _ _ hl3;have nlh2:l≠lh:=λ z=>by rw [z,hh2] at nl;cases nl
  have nlo:lo≠lh:=λ z=>by
   rw [z,hh3] at hlo3;injection hlo3 with q
   injection q with q
   cases y:(T.drop b).take (e-b) with
   |nil=>rw [y] at q;cases q
   |cons _ _=>rw [y] at q;cases q
  refine⟨_,rfl,_,rfl,lo,[V.ref l],_,_,rfl,rfl,SqL.of (by rw [upd_ne nlo];exact s4 _ _ hlo3),aB (j:=0) rfl,(by show 2≤sizeLine;decide),λ t5 n5=>?_⟩
  ·have s5:=aj (o:=.tup [vN e,.ref l]) n5;have b5:∀{y:HZ} {o:HO} {D dx:HZ} {fs:List (Str×V)},H3 y=some (.ins D dx fs)->(upd (upd H4 lh (.lst (((T.drop b).take (e-b)).map vN++[.int 7]))) t5 (.tup [vN e,.ref l])) y=some o->H3 y=some o:=λ h h'=>by
    have h4:=s4 _ _ h;rw [s5 _ _ (show(upd H4 lh _) _=some _ by rw [upd_ne (ne_of h4 hh4 (by intro z;cases z))];exact h4)] at h';rw [h,h']
   refine k t5 l e Rs _ he1 he2 nl0 hn3 hB3 (s5 _ _ (by rw [upd_ne nlh2];exact hl4)) ac (hP5.same s5) (λ e o n z n1 n2 n3=>s5 _ _ (fr5 _ e o n z n1 n2 n3)) ((tb_keep (hT3.same s4) λ e o z _ hn=>by rw [upd_ne (ne_of z hh4 (hn _))];exact z).same s5) ⟨λ dx wt bg fn z=>none_of s02 (hN3.1 dx wt bg fn (b5 hp3 z)),λ dx b' m' ck' g' z=>?_⟩;rcases hN3.2 _ _ _ _ _ (b5 hco3 z) with q|⟨dx',b2,m2,q⟩
   ·exact .inl (none_of s02 q)
   ·exact .inr ⟨_,_,_,back s02 hcoH q⟩
 clear g1;refine⟨_,rfl,_,_,rfl,rfl,(by show(0:Int)<4;decide),rfl,_,rfl,bd (λ _=>?_) (λ _=>J none H (Same.refl H))⟩;refine seq_g λ _ g2=>⟨(by show 1≤sizeLine;decide),λ l1 n1=>⟨(by show 1≤sizeLine;decide),λ l2 n2=>⟨(by show 2≤sizeLine;decide),λ l3 n3=>⟨(by show 2≤sizeLine;decide),λ l4 n4=>⟨(by show 6≤sizeLine;decide),λ l5 n5=>?_⟩⟩⟩⟩⟩
 have h1:=ac (H:=H) (a:=l1) (o:=.tup [V.int 1]);have s1:=aj (o:=.tup [V.int 1]) n1;generalize upd H l1 (.tup [V.int 1])=H1 at*;have h2:=ac (H:=H1) (a:=l2) (o:=.lst [V.int 256]);have s2:=aj (o:=.lst [V.int 256]) n2;generalize upd H1 l2 (.lst [V.int 256])=H2 at*;have h3:=ac (H:=H2) (a:=l3) (o:=.lst [V.int 3,V.bl true]);have s3:=aj (o:=.lst [V.int 3,V.bl true]) n3;generalize upd H2 l3 (.lst [V.int 3,V.bl true])=H3 at*;have h4:=ac (H:=H3) (a:=l4) (o:=.lst [V.int 3,V.int 256]);have s4:=aj (o:=.lst [V.int 3,V.int 256]) n4;generalize upd H3 l4 (.lst [V.int 3,V.int 256])=H4 at*;have h5:=ac (H:=H4) (a:=l5) (o:=.lst [.non,.ref l1,.ref l2,.str (Str.ofString "1"),.ref l3,.ref l4]);have s5:=aj (o:=.lst [.non,.ref l1,.ref l2,.str (Str.ofString "1"),.ref l3,.ref l4]) n5;generalize upd H4 l5 (.lst [.non,.ref l1,.ref l2,.str (Str.ofString "1"),.ref l3,.ref l4])=H5 at*;have no:∀j,j<6->∃x,[V.non,.ref l1,.ref l2,.str (Str.ofString "1"),.ref l3,.ref l4][j]?=some x/\Rf.NoRow K H5 x:=λ j hj=>match j,hj with
  |0,_=>⟨_,rfl,.inl ⟨_,.non,Rf.kit_nl K rfl⟩⟩
  |1,_=>⟨_,rfl,.inl ⟨_,.tup (s5 _ _ (s4 _ _ (s3 _ _ (s2 _ _ h1)))),Rf.kit_nl K rfl⟩⟩
  |2,_=>⟨_,rfl,nn (s5 _ _ (s4 _ _ (s3 _ _ h2))) (.inl ⟨256,rfl,rfl⟩)⟩
  |3,_=>⟨_,rfl,.inl ⟨_,.str _,Rf.kit_nl K rfl⟩⟩
  |4,_=>⟨_,rfl,jk (s5 _ _ (s4 _ _ h3)) (.inr ⟨.bl true,rfl⟩)⟩
  |5,_=>⟨_,rfl,jk (s5 _ _ h4) (.inl ⟨256,rfl,rfl⟩)⟩
 have sA:=s1.trans (s2.trans (s3.trans (s4.trans s5)));obtain⟨x,hx,hN⟩:=no (m/4%6) (DK _ Z9);refine⟨_,rfl,_,_,rfl,rfl,⟨Z9,Z9⟩,_,_,rfl,rfl,(by show(0:Int)<6;decide),l5,_,_,x,rfl,rfl,SqL.of h5,?_,g2 _ _ ?_⟩
 ·rw [show((m:Nat):Int)/4%6=((m/4%6:Nat):Int) from DR (FO rfl rfl)];exact aB hx
 clear g2;refine⟨_,rfl,_,rfl,p,x,rfl,.inr ⟨co,ck,T.take b,bg,hP.same sA,.inl ⟨hN,λ t6 H6 s6 h6=>⟨(by show 1≤sizeLine;decide),λ t7 n7=>?_⟩⟩⟩⟩;have s7:=aj (o:=.tup [.str (Str.ofString "row")]) n7;exact⟨t6,t7,rfl,rfl,.inl ⟨_,_,SqT.of (s7 _ _ h6),SqT.of ac,_,rfl,dG Z6 (J (some x) _ (sA.trans (s6.trans s7)))⟩⟩
end
end K24.Ck
set_option maxHeartbeats 4000000
namespace K24.Ck
open PySem L2 QQ W17 W16 BP
variable {bg:Bool}{ck co cq kq l p q:HZ}{Bs Rs:List (List Nat)}{A:List Nat}{H H':Hp}{b:Nat}
theorem oM {T:List Nat}(h:b≤T.length):nb (T.take b)=b/64:=by
 unfold nb;rw [Bv,CA h]
theorem mr {F:List Nat}(hb:∀x∈F,x<256):∀(Bs:List (List Nat)) (i:Nat),64*(i+Bs.length)<F.length+64->(∀j R,Bs[j]?=some R->Bl F (i+j) R)->Bs.flatten.length≤69*Bs.length
 | [],_,_,_=>BX _
 |R::Rs,i,h,hR=>by
  rw [Bq] at h;have h1:=mr hb Rs (i+1) Z5 λ j R' e=>by
   have:=hR (j+1) R' (by simpa using e);rw [show i+1+j=i+(j+1) by lia];exact this
  have h0:Bl F i R:=hR 0 R rfl;have h2:=(h0.facts (pV Z5 hb)).2;rw [CG,Bb,Bq];lia
noncomputable def tl (bg:Bool) (Bs:List (List Nat)) (b:Nat):List Nat:=if bg=true then [184,66,1]++(Bs.take (b/64)).flatten else []
theorem Ab:(([184,66,1]::Bs).take (1+b/64)).flatten=tl true Bs b:=by
 rw [Fh];rfl
theorem o0 {T:List Nat}{e:Nat}(h0:bg=false->b=0)(hbe:b≤e)(he:e≤T.length)(hl:Bs.length=(T.length+63)/64)(hB:∀i R,Bs[i]?=some R->Bl T i R)(h1:nb (T.take b)+Rs.length=nb (T.take e))(h2:∀j R,Rs[j]?=some R->Bl (T.take e) (nb (T.take b)+j) R):
  tl bg Bs b++(mk bg++Rs.flatten)=tl true Bs e:=by
 rw [oM (by exact Ba hbe he)] at h1 h2;rw [oM he] at h1;have eR:Rs=(Bs.drop (b/64)).take Rs.length:=by
  refine gj (k:=b/64) (T:=T) ?_ (λ i R e'=>?_) λ i R e'=>?_
  ·rw [Bv,By];lia
  ·have hi:i<Rs.length:=(Bo.mp e').1;have:=(h2 i R e').pre (T:=T.drop e) (by rw [Bv];lia);rw [B8] at this;exact this
  ·rw [EB] at e'
   split at e'
   ·rw [ED] at e';exact hB _ _ e'
   ·cases e'
 have eT:(Bs.take (b/64)).flatten++Rs.flatten=(Bs.take (e/64)).flatten:=by
  rw [show e/64=b/64+Rs.length by lia,F1,DO,<-eR]
 cases bg with
 |true=>
  show([184,66,1]++(Bs.take (b/64)).flatten)++([]++Rs.flatten)=_;rw [CJ,Be,eT];rfl
 |false=>
  cases h0 rfl;show []++([184,66,1]++Rs.flatten)=[184,66,1]++_;rw [<-eT];rfl
theorem xQ {T Rl:List Nat}(h0:bg=false->b=0)(hb:b≤T.length)(hl:Bs.length=(T.length+63)/64)(hB:∀i R,Bs[i]?=some R->Bl T i R)(h1:nb (T.take b)+Rs.length=nb T)(h2:∀j R,Rs[j]?=some R->Bl T (nb (T.take b)+j) R)(hL:LB T Rl):
  mk bg++Rs.flatten++(mk true++Rl++tailR T.length (chk 16 45 T))=(([184,66,1]::Bs).flatten++tailR T.length (chk 16 45 T)).drop (tl bg Bs b).length:=by
 have hs:=o0 (e:=T.length) h0 hb (Bh _) hl hB (by rw [Cc];exact h1) (by rw [Cc];exact h2);have hw:=WH.eq (T:=T) ⟨Bs.take (nb T),Rl,by rw [Bv];unfold nb;lia,λ j R e=>hB j R (by rw [EB] at e;split at e;exact e;cases e),hL,rfl⟩ hl hB;rw [<-hw];have e: [184,66,1]++(Bs.take (nb T)).flatten=tl bg Bs b++(mk bg++Rs.flatten):=hs.symm;rw [e,show mk true=[] from rfl,CJ];simp only [Be];rw [HX]
variable {C CO CK Tb:HZ}
def NoL (C CO:HZ)(H:Hp)(p co l:HZ):Prop:=(∀dx wt bg fn,H p=some (.ins C dx (fP co wt bg fn))->wt≠l)/\∀dx b m ck g,H co=some (.ins CO dx (fO b m ck g))->g≠l
theorem New.noL {o:HO}(n:New C CO H H' p co)(hl:H l=some o)(h:NoL C CO H p co l):NoL C CO H' p co l:=
 ⟨λ dx wt bg fn e z=>(by have:=n.1 _ _ _ _ e;rw [z,hl] at this;cases this),λ dx b m ck g e=>by
  rcases n.2 _ _ _ _ _ e with q|⟨_,_,_,q⟩
  ·intro z;rw [z,hl] at q;cases q
  ·exact h.2 _ _ _ _ _ q⟩
theorem NoL.mono (n:NoL C CO H p co l)(h:∀e o,e=p\/e=co->H' e=some o->H e=some o):NoL C CO H' p co l:=
 ⟨λ dx wt bg fn z=>n.1 dx wt bg fn (h _ _ (.inl rfl) z),λ dx b m ck g z=>n.2 dx b m ck g (h _ _ (.inr rfl) z)⟩
theorem NoL.of (h:PrAt C CO CK H p co ck A bg)(n:H l=none):NoL C CO H p co l:=by
 obtain⟨⟨dx,wt,g,h1,h2,h3⟩,_⟩:=h;obtain⟨_,hco⟩:=h3.ob;refine⟨λ dx' wt' bg' fn' z y=>?_,λ dx' b' m' ck' g' z y=>?_⟩
 ·rw [h1] at z;simp [fP] at z;rw [z.2.1,y,n] at h2;cases h2
 ·rw [hco] at z;simp [fO] at z;have:=h3.gr;rw [z.2.2.2.2,y,n] at this;cases this
theorem PrAt.back (h:PrAt C CO CK H p co ck A bg)(s:Same H H'):∀e o,e=p\/e=co->H' e=some o->H e=some o:=by
 obtain⟨⟨dx,wt,g,h1,h2,h3⟩,_⟩:=h;obtain⟨_,hco⟩:=h3.ob;intro e o he z;rcases he with rfl|rfl
 ·exact K24.Ck.back s h1 z
 ·exact K24.Ck.back s hco z
theorem PrAt.ins (h:PrAt C CO CK H p co ck A bg):∀y∈ [p,co,ck],∃D dx fs,H y=some (.ins D dx fs):=by
 obtain⟨⟨dx,wt,g,h1,h2,h3⟩,h4⟩:=h;obtain⟨_,hco⟩:=h3.ob;obtain⟨_,hck⟩:=h3.ch;intro y hy;simp only [BA,E6,or_false] at hy;rcases hy with rfl|rfl|rfl
 ·exact⟨_,_,_,h1⟩
 ·exact⟨_,_,_,hco⟩
 ·exact⟨_,_,_,hck⟩
theorem iQ {A:List HZ}(h:∀y∈A,∃D dx fs,H y=some (.ins D dx fs))(n1:H q=none)(n2:H cq=none)(n3:H kq=none):∀y∈ [q,cq,kq],y∉A:=λ y hy hz=>by
 obtain⟨_,_,_,e⟩:=h y hz;simp only [BA,E6,or_false] at hy;rcases hy with rfl|rfl|rfl
 ·rw [n1] at e;cases e
 ·rw [n2] at e;cases e
 ·rw [n3] at e;cases e
section
variable {H H':Hp}{p co ck:HZ}(hT:TbB Tb H)(hI:∀ y ∈ [p, co, ck], ∃ D dx fs, H y = some (.ins D dx fs))(fr:∀ e o, e ≠ Tb -> H e = some o -> e ≠ p -> e ≠ co -> e ≠ ck -> H' e = some o)
include hT hI fr
theorem om:∀(e:HZ) (o:HO),H e=some o->(∀ps,o≠ .tbl ps)->(∀C dx fs,o≠ .ins C dx fs)->H' e=some o:=λ e o z h1 h2=>by
 have ne:∀y∈ [p,co,ck],e≠y:=λ y hy q=>by
  obtain⟨_,_,_,h⟩:=hI y hy;rw [<-q,z] at h;injection h with h
  exact h2 _ _ _ h
 exact fr _ _ (hT.ne z h1) z (ne p Z6) (ne co Z6) (ne ck Z6)
theorem cG:∀(e:HZ) (xs:List V),H e=some (.lst xs)->H' e=some (.lst xs):=λ e xs z=>om hT hI fr e _ z (by intro ps y;cases y) (by intro _ _ _ y;cases y)
theorem PrAt.frm (h:PrAt C CO CK H q cq kq A bg)(ap:∀y∈ [p,co,ck],y∉ [q,cq,kq]):PrAt C CO CK H' q cq kq A bg:=by
 obtain⟨⟨dx,wt,g,h1,h2,h3⟩,h4⟩:=h;obtain⟨_,hco⟩:=h3.ob;obtain⟨_,hck⟩:=h3.ch;have own:∀{e:HZ} {D dx:HZ} {fs:List (Str×V)},e∈ [q,cq,kq]->H e=some (.ins D dx fs)->H' e=some (.ins D dx fs):=λ {e D dx fs} m z=>fr _ _ (hT.ne z (by intro ps y;cases y)) z (λ y=>ap p Z6 (y▸m)) (λ y=>ap co Z6 (y▸m)) (λ y=>ap ck Z6 (y▸m))
 have lst:=cG hT hI fr;exact⟨⟨dx,wt,g,own Z6 h1,lst _ _ h2,⟨_,own Z6 hco⟩,⟨_,own Z6 hck⟩,lst _ _ h3.gr,h3.byt⟩,h4⟩
end
end K24.Ck
set_option maxHeartbeats 4000000
namespace K24.Ck
open PySem L2 QQ W17 W16 BP
seal PE PA PS PSs PT PW PG PI
variable {rs ts:List HZ}{Tb a l lp lw:HZ}{Bs:List (List Nat)}{K:Frag}{H H':Hp}
abbrev jF:Im:=top 126
structure All (K:Frag)(mg:Str->Option Ib)(B D G CW C0 C1 C2 C3 c CK CHd CO C cO cP cR:HZ)(cs:List HZ):Prop where
 Z:Prz K mg B D G CW C0 C1 C2 C3 c CK CHd CO C cO
 E:Ers K mg cP cR cO cs
 pressed:∃f fd,Fn K mg "pressed" iF ["text"] f fd
 cell:∃f fd,Fn K mg "_law_cell_at" ko ["_law_script","_law_k"] f fd
 mixed:∃f fd,Fn K mg "_law_mixed" jI ["_law_cell","_law_k"] f fd
 word:∃f fd,Fn K mg "_law_word" ij ["_law_e"] f fd
 text:∃f fd,Fn K mg "_law_text" tF ["_law_cell","_law_size"] f fd
 check:∃f fd,Fn K mg "_law_check" kI ["_law_row","_law_wide"] f fd
 sealed:∃f fd,Fn K mg "_law_sealed" gL ["_law_row"] f fd
 blocks:∃f fd,Fn K mg "_law_blocks" gQ ["_law_text_here"] f fd
 tail:∃f fd,Fn K mg "_law_tail" nz ["_law_text_here"] f fd
 fed:∃f fd,Fn K mg "_law_fed" uI ["_law_presser","_law_thing"] f fd
 finished:∃f fd,Fn K mg "_law_finished" d4 ["_law_presser"] f fd
 sofar:∃f fd,Fn K mg "_law_so_far" nO ["_law_parts","_law_size"] f fd
 piece:∃f fd,Fn K mg "_law_piece" mH ["_law_presser","_law_text_here","_law_begin","_law_more"] f fd
 ended:∃f fd,Fn K mg "_law_ended" kA ["_law_presser","_law_last"] f fd
theorem vg {X:Cx}(hK:X.K=K)(hu:X.A.units+64<cLine):OpR X (compareOp .NotEq) (Av K):=by
 subst hK;exact dD hu
def Held (H:Hp)(l:HZ)(ts:List HZ):Prop:=H l=some (.lst (ts.map V.ref))/\∀t∈ts,∃(a b:HZ) (L:List Nat),a≠l/\b≠l/\H t=some (.tup [.ref a,.ref b])/\H a=some (.lst (L.map vN))/\H b=some (.lst (L.map vN))
theorem Held.step {t b:HZ}{L:List Nat}(h:Held H l ts)(k:∀e o,H e=some o->(∀ps,o≠ .tbl ps)->(∀C dx fs,o≠ .ins C dx fs)->e≠l->H' e=some o)(hl:H' l=some (.lst ((ts++[t]).map V.ref)))(na:a≠l)(nb:b≠l)(ht:H' t=some (.tup [.ref a,.ref b]))(ha:H' a=some (.lst (L.map vN)))(hb:H' b=some (.lst (L.map vN))):Held H' l (ts++[t]):=by
 refine⟨hl,λ x hx=>?_⟩;rcases Br.mp hx with hx|hx
 ·obtain⟨a',b',L',n1,n2,h1,h2,h3⟩:=h.2 x hx;exact⟨a',b',L',n1,n2,k _ _ h1 (by intro ps z;cases z) (by intro _ _ _ z;cases z) (ne_of h1 h.1 (by intro z;cases z)),k _ _ h2 (by intro ps z;cases z) (by intro _ _ _ z;cases z) n1,k _ _ h3 (by intro ps z;cases z) (by intro _ _ _ z;cases z) n2⟩
 ·rw [Bx.mp hx];exact⟨a,b,L,na,nb,ht,ha,hb⟩
theorem Held.same (h:Held H l ts)(s:Same H H'):Held H' l ts:=⟨s _ _ h.1,λ t ht=>by
 obtain⟨a,b,L,n1,n2,h1,h2,h3⟩:=h.2 t ht;exact⟨a,b,L,n1,n2,s _ _ h1,s _ _ h2,s _ _ h3⟩⟩
theorem wv {xs:List V}(h:SqL K H a xs)(s:∀o,H a=some o->H' a=some o):SqL K H' a xs:=by
 rcases h with(e|⟨o,e⟩)|h
 ·exact .inl (.inl (s _ e))
 ·exact .inl (.inr ⟨o,s _ e⟩)
 ·exact .inr h
theorem Ap:(["_law_one"]:List Str).Nodup:=Z8
structure Sit (Tb:HZ)(H:Hp)(lt lp lw:HZ)(T:List Nat)(rs:List HZ)(Bs:List (List Nat)):Prop where
 t:H lt=some (.lst (T.map vN))
 p:H lp=some (.lst (rs.map V.ref))
 r:Rws H rs ([184,66,1]::Bs)
 w:H lw=some (.lst ((([184,66,1]::Bs).flatten++tailR T.length (chk 16 45 T)).map vN))
 tb:TbB Tb H
theorem Sit.keep {lt:HZ}{T:List Nat}(h:Sit Tb H lt lp lw T rs Bs)(k:∀(e:HZ) (xs:List V),H e=some (.lst xs)->H' e=some (.lst xs))(t:TbB Tb H'):Sit Tb H' lt lp lw T rs Bs:=⟨k _ _ h.t,k _ _ h.p,h.r.keep k,k _ _ h.w,t⟩
theorem Sit.same {lt:HZ}{T:List Nat}(h:Sit Tb H lt lp lw T rs Bs)(s:Same H H'):Sit Tb H' lt lp lw T rs Bs:=h.keep (λ e xs z=>s _ _ z) (h.tb.same s)
section
variable {P:Ie}{w:Ig}{K:Frag}{mg:Str -> Option Ib}{base:Ij}{B D G' CW C0 C1 C2 C3 c CK CHd CO C cO cR cP Tb:HZ}{cs:List HZ}
def pK (K:Frag)(Tb:HZ):Sp:=λ vs H Q _=>∃(a:HZ) (ns:List Int),vs=[.ref a]/\SqL K H a (ns.map V.int)/\H Tb=some (.tbl #[])/\a≠Tb/\∀H',Q (.bl true) H'
theorem scLaw:FnScope ["_law_script","_law_cell","_law_text_here","_law_parts","_law_whole","_law_presser","_law_other","_law_told","_law_held","_law_begin","_law_k","_law_found"] ["_law_script"] (ak jF):=scK Z8
theorem xZ {f:HZ}{fd:Ih}(F:Fun K "law" "law" jF f fd)(Y:All K mg B D G' CW C0 C1 C2 C3 c CK CHd CO C cO cP cR cs)(hC:CodeHd base c Tb)(hBm:BmAt mg base)(hK:K.lookup Tb=none):FnOk P w K mg base CX0 45 f fd ["_law_script"] (pK K Tb):=by
 have Z:=Y.Z;have Er:=Y.E;have T0:=Z.T;have X:=Z.Cr.Y.Z.X.R.X;obtain⟨_,_,FI,bI,MI⟩:=Z.init;obtain⟨_,_,Fe⟩:=Z.feed;obtain⟨_,_,Fn'⟩:=Z.finish;obtain⟨_,_,Pb⟩:=Z.putblock;obtain⟨_,FP⟩:=Pb.F;obtain⟨_,_,Pr⟩:=Y.pressed;obtain⟨_,_,Ce⟩:=Y.cell;obtain⟨_,_,Mi⟩:=Y.mixed;obtain⟨_,_,Wd⟩:=Y.word;obtain⟨_,_,Tx⟩:=Y.text;obtain⟨_,_,Ch⟩:=Y.check;obtain⟨_,_,Se⟩:=Y.sealed;obtain⟨_,_,Bk⟩:=Y.blocks;obtain⟨_,_,Ta⟩:=Y.tail;obtain⟨_,_,Fd⟩:=Y.fed;obtain⟨_,_,Fi⟩:=Y.finished;obtain⟨_,_,So⟩:=Y.sofar;obtain⟨_,_,Pi⟩:=Y.piece;obtain⟨_,_,En⟩:=Y.ended;have GI:=k9 (P:=P) (w:=w) (base:=base) FI Z;have G2:=j9 (P:=P) (w:=w) (base:=base) Fn'.F Z hC hBm hK;have GX:=oh (P:=P) (w:=w) (base:=base) Pr Z Er.mR Er.eR.x hC hBm hK;have GC:=uX (P:=P) (w:=w) (base:=base) Ce X;have GM:=mD (P:=P) (w:=w) (base:=base) Mi;have GT:=wL (P:=P) (w:=w) (base:=base) Tx Mi X;have GL:=uy (P:=P) (w:=w) (base:=base) Ta Ch Se X;have GS:=tN (P:=P) (w:=w) (base:=base) So;refine F.ok scLaw λ Iq A outer st H vs Q E hr h=>?_
 intro _;obtain⟨a,ns,rfl,hS,hT0,haT,k⟩:=h;have hr1:Room 1 _:=hr.mono Z9;have hr3:Room 3 _:=hr.mono Z9;have hr7:Room 7 _:=hr.mono Z9;have hr31:Room 31 _:=hr.mono Z9;have hr40:Room 40 _:=hr.mono Z9;have hr41:Room 41 _:=hr.mono Z9;have hr42:Room 42 _:=hr.mono Z9;have hr43:Room 43 _:=hr.mono Z9;have hu:=hr.units;refine⟨_,ad (ar (i:=1) scLaw.nd (aq GM hr1 Z7 Mi.m Mi.F.kp Mi.b .nil aw (aa (aq GC hr1 Z7 Ce.m Ce.F.kp Ce.b .nil aw (aa (pv 0) (aa af ae))) (aa af ae))))
  (ad (ar (i:=2) scLaw.nd (aq GT hr31 Z7 Tx.m Tx.F.kp Tx.b .nil aw (aa (aq GC hr1 Z7 Ce.m Ce.F.kp Ce.b .nil aw (aa (pv 0) (aa af ae))) (aa (aM aW (aE (aa (am a7 (am a9 (pv 1) af) af) (aa (am a7 (am a9 (pv 1) af) af) ae))) (bw gh Z7 X.int EA (aa (fF bP (am a7 (pv 1) af) af (aC _)) ae)) (λ _ _=>rfl)) ae))))
  (ad (aL (aA bP (am a7 (pv 1) af) af (aC _)) (ad (ar (i:=2) scLaw.nd (aq GT hr31 Z7 Tx.m Tx.F.kp Tx.b .nil aw (aa (aq GC hr1 Z7 Ce.m Ce.F.kp Ce.b .nil aw (aa (pv 0) (aa af ae))) (aa af ae))))
  (ag (ar (i:=2) scLaw.nd (am aR (pv 2) (bu bJ (pv 2) (a6 af) (a6 (am aK af (am a7 (am a9 (pv 1) af) af)))))))) aD)
  (ad (ar (i:=3) scLaw.nd (aq (mI Bk Z hC hBm hK) hr41 Z7 Bk.m Bk.F.kp Bk.b .nil aw (aa (pv 2) ae)))
  (ad (ar (i:=4) scLaw.nd (am aR (aq GS hr1 Z7 So.m So.F.kp So.b .nil aw (aa (pv 3) (aa (am bZ af (az ay Z7 X.len BV (aa (pv 3) ae))) ae))) (aq GL hr3 Z7 Ta.m Ta.F.kp Ta.b .nil aw (aa (pv 2) ae))))
  (ad (ar (i:=5) scLaw.nd (cA MI GI hr7 Z7 T0.m bI .nil aw))
  (ad (ar (i:=6) scLaw.nd (cA MI GI hr7 Z7 T0.m bI .nil aw))
  (ad (aL (PW.pt (fE (aA (dD hu) (aV (pv 6) T0.cl Fe.m (gM Fe.F Z Er.mR Er.eR.x hC hBm hK) hr42 Fe.b .nil ig (aa (aE (aa af (aa af ae))) ae)) (aE (aa af (aa af (aa af ae)))) (aC _)) (dP (aA (dD hu) (a8 (cA MI GI hr7 Z7 T0.m bI .nil aw) T0.cl Fn'.m G2 hr42 Fn'.b .nil ig) (am aR (aE (aa af (aa af (aa af ae)))) (aq GL hr3 Z7 Ta.m Ta.F.kp Ta.b .nil aw (aa (aE ae) ae))) (aC _))))) (ag (ax bU)) aD)
  (ad (ar (i:=7) scLaw.nd (aE ae))
  (ad (ar (i:=8) scLaw.nd (aE ae))
  (ad (ar (i:=9) scLaw.nd af)
  (ad (bf BW rfl (cS Z7 X.range (aa (am a7 (am a9 (pv 1) af) af) ae)) (aJ (i:=10) scLaw.nd) (ad (ar (i:=11) scLaw.nd (aq (rZ Pi Z X Er Wd Fd hC hBm hK) hr Z7 Pi.m Pi.F.kp Pi.b .nil aw (aa (pv 5) (aa (pv 2) (aa (pv 9) (aa (aq GM hr1 Z7 Mi.m Mi.F.kp Mi.b .nil aw (aa (pv 1) (aa (am aK (pv 10) af) ae))) ae))))))
  (ad (aL (aA rF (pv 11) eK (aC _)) (ag (ax bU)) aD)
  (ad (ar (i:=9) scLaw.nd (aM aZ (pv 11) af (λ _ _=>rfl)))
  (ad (ar (i:=7) scLaw.nd (am aR (pv 7) (aM aZ (pv 11) af (λ _ _=>rfl))))
  (ad (aF (dI Cj CD CS bv (pv 8) (aa (bL (aa (aM aZ (pv 11) af (λ _ _=>rfl)) (aa (bw bC Z7 X.list C7 (aa (aM aZ (pv 11) af (λ _ _=>rfl)) ae)) ae))) ae)))
  (ag (aL (aA (dD hu) (pv 7) (aq GS hr1 Z7 So.m So.F.kp So.b .nil aw (aa (pv 3) (aa (pv 9) ae))) (aC _)) (ag (ax bU)) aD))))))))
  (ad (aL (PW.pt (fE (bM (bq (aq (qF En Z Wd (pi Wd X Er) Fi Fd Er.mP Er.xP Er.eR Er.eO Er.mR hC hBm hK) hr Z7 En.m En.F.kp En.b .nil aw (aa (pv 5) (aa (bL (aa (bu bJ (pv 2) (a6 (pv 9)) d7) (aa (bu bJ (pv 4) (a6 (az ay Z7 X.len BV (aa (pv 7) ae))) d7) ae))) ae))))) (dP (aA (dD hu) (eQ (N:=["_law_one"]) (g:=bz 0) rfl rfl Z8 Z8 Z8 (bi (pv 8)) (λ fp s H=>aJ (i:=0) Ap) (λ fp s H=>aA (vg (K:=K) rfl hu) (aM (pA (K:=K) rfl) (pv 0) af (λ _ _=>rfl)) (aM (pA (K:=K) rfl) (pv 0) af (λ _ _=>rfl)) (aC _)) (λ fp s H=>pv 0)) (aE ae) (aC _))))) (ag (ax bU)) aD)
  (ad (aL (aA (dD hu) (a8 (pv 6) T0.cl Fn'.m G2 hr42 Fn'.b .nil ig) (am aR (aq (dN FP Z.Bk hC hBm hK) hr40 Z7 Pb.m Pb.kp Pb.b .nil aw (aa (aE (aa af (aa af ae))) (aa (aE ae) ae))) (aq GL hr3 Z7 Ta.m Ta.F.kp Ta.b .nil aw (aa (aE (aa af (aa af ae))) ae))) (aC _)) (ag (ax bU)) aD)
  (ad (aF (x3 Cj PySem.F.slot_list_clear PySem.F.type_list_clear rO (aq GX hr43 Z7 Pr.m Pr.F.kp Pr.b .nil aw (aa (pv 2) ae))))
  (ag (ax (fF (yZ hu) (aq GX hr43 Z7 Pr.m Pr.F.kp Pr.b .nil aw (aa (pv 2) ae)) (pv 4) (aC _)))))))))))))))))),?_⟩
 have tb0:TbB Tb H:=⟨_,hT0,.inl rfl⟩;refine seq_g λ _ g1=>⟨_,rfl,a,ns,0,rfl,hS,_,_,rfl,Z9,Z9,g1 _ _ ?_⟩
 clear g1;generalize mixN (ns.getD 0 0) 0=n;refine seq_g λ _ g1=>⟨_,rfl,a,ns,1,rfl,hS,_,rfl,_,_,rfl,rfl,⟨Z9,Z9⟩,_,_,rfl,rfl,(by show(0:Int)<91;decide),_,rfl,_,_,rfl,rfl,⟨Z9,Z9⟩,_,_,rfl,rfl,(by show(0:Int)<301;decide),(by show 2≤sizeLine;decide),λ l1 n1=>?_⟩
 refine⟨_,rfl,_,_,rfl,rfl,(by show(0:Int)<8;decide),rfl,.inr ⟨_,rfl,?_⟩⟩;have s1:=aj (o:=.lst [V.int (((n:Nat):Int)/8%91),V.int (((n:Nat):Int)/8%301)]) n1;obtain⟨sz,j,hsz,ej,hj⟩:∃sz j:Nat,sz≤300/\(if decide (V.int (((n:Nat):Int)%8)=V.int 1)=true then(1:Int) else 0)=((j:Nat):Int)/\[V.int (((n:Nat):Int)/8%91),V.int (((n:Nat):Int)/8%301)][j]?=some (vN sz):=by
  cases decide (V.int (((n:Nat):Int)%8)=V.int 1)
  ·exact⟨n/8%91,0,Ba (CM (DK _ Z9)) Z9,rfl,congrArg (λ z:Int=>some (V.int z)) (DR (FO rfl rfl))⟩
  ·exact⟨n/8%301,1,Z5,rfl,congrArg (λ z:Int=>some (V.int z)) Z5⟩
 refine⟨l1,_,_,vN sz,rfl,rfl,SqL.of ac,?_,_,sz,rfl,hsz,λ lt T H1 s2 nlt Ir hTl hTb=>g1 _ _ ?_⟩
 ·try dsimp only
  rw [ej];exact aB hj
 clear g1;have sA:=s1.trans s2;refine seq_g λ R1 g1=>?_
 have J:∀(lt:HZ) (T:List Nat) (H1:Hp),Same H H1->H1 lt=some (.lst (T.map vN))->T.length≤300->(∀b∈T,b<256)->R1 [some (.ref a),some (vN n),some (.ref lt),none,none,none,none,none,none,none,none,none] H1:=by
  intro lt T H1 s1 Ir hTl hTb;refine g1 _ _ ?_;clear g1;have tb1:=tb0.same s1;clear s1;refine seq_g λ _ g2=>⟨_,rfl,lt,T,rfl,Ir,hTb,Ba hTl Z9,tb1,λ lp rs Bs H2 nlp hlp hR hBl hB sT tb2=>g2 _ _ ?_⟩
  clear g2;replace Ir:=sT _ _ (tb1.ne Ir (by intro ps z;cases z)) Ir;clear sT tb1 nlp H1;have hrs:rs.length=Bs.length+1:=FZ hR;have hfl:=mr hTb Bs 0 Z5 λ j R e=>by rw [C5];exact hB j R e
  have hPl:([184,66,1]::Bs).flatten.length≤400:=by rw [CG,Bb];show 3+_≤400;lia
  have ht11:(tailR T.length (chk 16 45 T)).length=11:=rfl;refine seq_g λ _ g2=>⟨_,rfl,_,rfl,lp,_,rfl,.inl (SqL.of hlp),_,_,rfl,rfl,.inl ⟨Z9,Z9⟩,?_⟩
  try dsimp only
  rw [show(64:Int)*(((rs.map V.ref).length:Nat):Int)=((64*(Bs.length+1):Nat):Int) by rw [A9,hrs];exact DR (Nat.ToInt.mul_congr rfl rfl)];refine⟨lp,rs,_,_,rfl,hlp,hR,Ba hPl Z9,λ ls H3 nls s3 hls=>?_⟩;rw [BQ (by rw [Bq];lia)] at hls;refine⟨_,rfl,lt,T,rfl,s3 _ _ Ir,hTb,Ba hTl Z9,λ ltl H4 nl4 s4 hl4=>?_⟩;refine⟨ls,ltl,_,_,rfl,rfl,s4 _ _ hls,hl4,bj (by rw [A9,A9];lia),λ lw nw=>g2 _ _ ?_⟩;clear g2;rw [<-Bm];have s5:=aj (o:=.lst ((([184,66,1]::Bs).flatten++tailR T.length (chk 16 45 T)).map vN)) nw;have hw5:(upd H4 lw (.lst ((([184,66,1]::Bs).flatten++tailR T.length (chk 16 45 T)).map vN))) lw=some (.lst ((([184,66,1]::Bs).flatten++tailR T.length (chk 16 45 T)).map vN)):=ac;have s25:=s3.trans (s4.trans s5);generalize upd H4 lw (.lst ((([184,66,1]::Bs).flatten++tailR T.length (chk 16 45 T)).map vN))=H5 at*;have sit:Sit Tb H5 lt lp lw T rs Bs:=⟨s25 _ _ Ir,s25 _ _ hlp,hR.keep λ e xs z=>s25 _ _ z,hw5,tb2.same s25⟩;clear s25 s5 s4 s3 nw nl4 nls hls hl4 hw5 Ir hlp hR;refine seq_g λ R2 g2=>?_
  intro p dp np ndp nep;have s0:=bR (C:=C) np ndp;refine⟨p,dp,rfl,ac,λ co ck H6 nco nck hP kp=>⟨rfl,g2 _ _ ?_⟩⟩;clear g2;replace sit:=sit.same (H':=H6) λ e o z=>kp _ _ (s0 _ _ z) (ai z np)
  clear kp s0 nco nck np ndp nep;refine seq_g λ R2 g2=>?_
  intro q dq nq ndq neq;have s0:=bR (C:=C) nq ndq;refine⟨q,dq,rfl,ac,λ cq kq H7 ncq nkq hQ kp=>⟨rfl,g2 _ _ ?_⟩⟩;clear g2;have s7:Same H6 H7:=λ e o z=>kp _ _ (s0 _ _ z) (ai z nq)
  have ap:∀y∈ [q,cq,kq],y∉ [p,co,ck]:=iQ hP.ins nq (none_of s0 ncq) (none_of s0 nkq);replace sit:=sit.same s7;replace hP:=hP.same s7;clear kp s0 ncq nkq nq ndq neq s7;refine seq_g λ R2 g2=>?_
  obtain⟨⟨dx7,wt7,gg7,hq7,_,_⟩,_⟩:=id hQ;refine⟨_,rfl,q,dx7,_,rfl,hq7,bW _ _ _ _,(by show 2≤sizeLine;decide),λ lx nx=>?_⟩;have s8:=aj (o:=.lst [V.int 1,V.int 2]) nx;have hx8:(upd H7 lx (.lst [V.int 1,V.int 2])) lx=some (.lst ([1,2].map vN)):=ac;generalize upd H7 lx (.lst [V.int 1,V.int 2])=H8 at*;replace sit:=sit.same s8;replace hP:=hP.same s8;replace hQ:=hQ.same s8;refine⟨q,.ref lx,rfl,.inr ⟨cq,kq,[],false,hQ,.inr ⟨[1,2],⟨lx,rfl,hx8,Z9⟩,Z9,sit.tb,λ lo Rs H9 nlo h1 _ h3 hQ9 fr9 tb9 _=>?_⟩⟩⟩;replace hP:=hP.frm sit.tb hQ.ins fr9 ap;replace sit:=sit.keep (cG sit.tb hQ.ins fr9) tb9;clear fr9 tb9 hx8 nx s8 hQ;have hRs:Rs=[]:=by
   cases Rs with
   |nil=>rfl
   |cons _ _=>exact absurd h1 (by rw [Bq,show nb ([]:List Nat)=0 from rfl,show nb ([]++[1,2])=0 from rfl];lia)
  subst hRs;replace h3:H9 lo=some (.lst ([(184:Int),66,1].map V.int)):=h3;refine⟨(by show 3≤sizeLine;decide),λ l10 n10=>?_⟩;have s10:=aj (o:=.lst [V.int 184,V.int 66,V.int 1]) n10;refine⟨lo,l10,_,[184,66,1],rfl,rfl,SqL.of (s10 _ _ h3),SqL.of ac,_,rfl,dG rfl ?_⟩;generalize upd H9 l10 (.lst [V.int 184,V.int 66,V.int 1])=H10 at*;replace sit:=sit.same s10;replace hP:=hP.same s10;replace hQ9:PrAt C CO CK H9 q cq kq [1,2] true:=hQ9;replace hQ9:=hQ9.same s10;clear s10 h3 nlo n10 h1;intro r dr nr ndr ner;have s0:=bR (C:=C) nr ndr;refine⟨r,dr,rfl,ac,λ cr kr H11 ncr nkr hV kp=>⟨rfl,?_⟩⟩;have s11:Same H10 H11:=λ e o z=>kp _ _ (s0 _ _ z) (ai z nr)
  have ap1:∀y∈ [r,cr,kr],y∉ [p,co,ck]:=iQ hP.ins nr (none_of s0 ncr) (none_of s0 nkr);have ap2:∀y∈ [r,cr,kr],y∉ [q,cq,kq]:=iQ hQ9.ins nr (none_of s0 ncr) (none_of s0 nkr);replace sit:=sit.same s11;replace hP:=hP.same s11;replace hQ9:=hQ9.same s11;clear kp s0 ncr nkr nr ndr ner s11;obtain⟨⟨dx11,wt11,gg11,hr11,_,_⟩,_⟩:=id hV;refine⟨r,dx11,_,rfl,hr11,bW _ _ _ _,r,rfl,.inr ⟨cr,kr,[],false,hV,Z9,sit.tb,λ l12 dx12 wt12 Rr H12 nl12 hLB h12 _ fr12 tb12=>?_⟩⟩;replace hP:=hP.frm sit.tb hV.ins fr12 ap1;replace hQ9:=hQ9.frm sit.tb hV.ins fr12 ap2;replace sit:=sit.keep (cG sit.tb hV.ins fr12) tb12;have hRr:Rr=[]:=by
   rcases hLB with⟨_,z⟩|⟨z,_⟩
   ·exact z
   ·exact absurd rfl z
  subst hRr;clear fr12 tb12 hV ap1 ap2 hLB nl12;refine⟨(by show 3≤sizeLine;decide),λ l13 n13=>⟨(by show 0≤sizeLine;decide),λ l14 n14=>?_⟩⟩;have s13:=aj (o:=.lst [V.int 184,V.int 66,V.int 1]) n13;have h13:(upd H12 l13 (.lst [V.int 184,V.int 66,V.int 1])) l13=some (.lst ([184,66,1].map vN)):=ac;generalize upd H12 l13 (.lst [V.int 184,V.int 66,V.int 1])=H13 at*;have s14:=aj (o:=.lst []) n14;refine⟨l14,[],rfl,ac,(λ _ z=>nomatch z),Z9,λ l15 H15 nl15 s15 h15=>?_⟩;have s25:=s14.trans s15;have e15:(tailR ([]:List Nat).length (chk 16 45 [])).length=11:=rfl;generalize tailR ([]:List Nat).length (chk 16 45 [])=tE at*;refine⟨l13,l15,_,_,rfl,rfl,s25 _ _ h13,h15,bj (by rw [A9,A9,e15];decide),λ l16 n16=>?_⟩;rw [<-Bm];have s16:=aj (o:=.lst (([184,66,1]++tE).map vN)) n16;have sB:=s13.trans (s25.trans s16);refine⟨l12,l16,_,_,rfl,rfl,by rw [<-bA];exact SqL.of (sB _ _ h12),by rw [<-bA];exact SqL.of ac,_,rfl,dG rfl (g2 _ _ ?_)⟩;clear g2;generalize upd H15 l16 (.lst (([184,66,1]++tE).map vN))=H16 at*;replace sit:=sit.same sB;replace hP:=hP.same sB;replace hQ9:=hQ9.same sB;clear sB s16 s25 s15 s14 s13 h13 h12 h15 n16 nl15 n14 n13;refine seq_g λ R2 g2=>⟨Z9,λ ld nd=>g2 _ _ ?_⟩
  clear g2;have s17:=aj (o:=.lst []) nd;have hd0:(upd H16 ld (.lst [])) ld=some (.lst []):=ac;generalize upd H16 ld (.lst [])=H0 at*;replace sit:=sit.same s17;replace hP:=hP.same s17;replace hQ9:=hQ9.same s17;clear s17 nd;refine seq_g λ R2 g2=>⟨Z9,λ lh nh=>g2 _ _ ?_⟩
  clear g2;have s18:=aj (o:=.lst []) nh;have hh:(upd H0 lh (.lst [])) lh=some (.lst []):=ac;generalize upd H0 lh (.lst [])=H18 at*;refine seq_g λ R2 g2=>g2 _ _ ?_
  clear g2;refine seq_g λ _ g2=>⟨_,rfl,_,_,rfl,rfl,⟨Z9,Z9⟩,_,_,rfl,rfl,(by show(0:Int)<6;decide),?_⟩
  obtain⟨mm,hmm,em⟩:∃mm:Nat,mm≤6/\((n:Nat):Int)/2408%6=((mm:Nat):Int):=⟨n/2408%6,Ba (CM (DK _ Z9)) Z9,Z5⟩
  try dsimp only
  rw [em];refine⟨((mm:Nat):Int),rfl,Ec (2^62) _,Z5,b9 (D:=⟨_,_,λ _ _=>False,λ _ _=>False⟩) (lo:=0) (n:=((mm:Nat):Int).toNat) (λ i σ H1=>∃(b:Nat) (bg:Bool) (ld:HZ) (v10 v11:Option V) (ts:List HZ),σ=[some (.ref a),some (vN n),some (.ref lt),some (.ref lp),some (.ref lw),some (.ref p),some (.ref q),some (.ref ld),some (.ref lh),some (vN b),v10,v11]/\b≤T.length/\(bg=false->b=0)/\ld≠lh/\H1 ld=some (.lst ((tl bg Bs b).map vN))/\PrAt C CO CK H1 p co ck (T.take b) bg/\NoL C CO H1 p co lh/\Held H1 lh ts/\ts.length=i/\TbB Tb H1/\∀e o,e≠Tb->H0 e=some o->e≠p->e≠co->e≠ck->H1 e=some o)
   ⟨0,false,ld,none,none,[],rfl,BX _,λ _=>rfl,ai hd0 nh,s18 _ _ hd0,by rw [EH];exact hP.same s18,(NoL.of hP nh).mono (hP.back s18),⟨hh,(λ _ z=>nomatch z)⟩,rfl,sit.tb.same s18,λ e o _ z _ _ _=>s18 _ _ z⟩ ?_ ?_⟩
  ·clear g2 hd0 hh s18;rintro i σ H1 hi ⟨b,bg,ld,v10,v11,ts,rfl,hb,h0,nld,hd,hP1,hN1,hH1,hts,tb1,fr1⟩;have hi6:i<6:=by simp at hi;lia
   have sit1:=sit.keep (cG sit.tb hP.ins fr1) tb1;refine seq_g λ _ g3=>⟨_,rfl,_,rfl,_,rfl,_,rfl,_,rfl,_,_,rfl,rfl,_,_,rfl,Z5,Z5,p,lt,co,ck,T,b,_,bg,rfl,sit1.t,hTb,hTl,hb,hP1,tb1,λ t l e Rs H2 he1 he2 nl hn hB2 hl2 ht2 hP2 fr2 tb2 hN2=>g3 _ _ ?_⟩
   clear g3;have hl1:=hH1.1;have hN2':=hN2.noL hl1 hN1;have any2:=om tb1 hP1.ins fr2;have lst2:=cG tb1 hP1.ins fr2;have nlh:l≠lh:=(ai hl1 nl).symm;refine seq_g λ R3 g3=>⟨_,rfl,rfl,_,rfl,bd (λ z=>nomatch (Bp z)) λ _=>g3 _ _ ?_⟩
   clear g3;refine seq_g λ R3 g3=>⟨_,rfl,t,_,_,_,rfl,rfl,SqT.of ht2,aB (j:=0) rfl,g3 _ _ ?_⟩
   clear g3;have htl:∀(bg:Bool) (b:Nat),(tl bg Bs b).length≤400:=λ bg b=>by
    cases bg
    ·exact BX _
    ·have:=jh Bs (b/64);show([184,66,1]++(Bs.take (b/64)).flatten).length≤400;rw [CG,Bb] at hPl;rw [Bb];exact Ba (Ep this _) hPl
   have hst:=o0 h0 he1 he2 hBl hB hn hB2;refine seq_g λ _ g3=>⟨_,rfl,_,rfl,t,_,_,_,rfl,rfl,SqT.of ht2,aB (j:=1) rfl,ld,l,_,_,rfl,rfl,lst2 _ _ hd,hl2,bj (by have h1:=congrArg List.length hst;have h2:=htl true e;rw [Bb] at h1;rw [A9,A9];lia),λ ld3 nd3=>g3 _ _ ?_⟩
   clear g3;rw [<-Bm,hst];have s3:=aj (o:=.lst ((tl true Bs e).map vN)) nd3;have hd3:(upd H2 ld3 (.lst ((tl true Bs e).map vN))) ld3=some (.lst ((tl true Bs e).map vN)):=ac;have hh2:=lst2 _ _ hl1;have nld3:ld3≠lh:=(ai hh2 nd3).symm;generalize upd H2 ld3 (.lst ((tl true Bs e).map vN))=H3 at*;have ht3:=s3 _ _ ht2;have hl3:=s3 _ _ hl2;refine seq_g λ _ g3=>⟨_,rfl,.inl ⟨rfl,_,SqL.of (s3 _ _ hh2)⟩,_,rfl,t,_,_,_,rfl,rfl,SqT.of ht3,aB (j:=1) rfl,_,rfl,t,_,_,_,rfl,rfl,SqT.of ht3,aB (j:=1) rfl,l,_,rfl,.inl (SqL.of hl3),λ m nm=>?_⟩
   generalize mk bg++Rs.flatten=Lf at*;have s4:=aj (o:=.lst (Lf.map vN)) nm;have hm4:(upd H3 m (.lst (Lf.map vN))) m=some (.lst (Lf.map vN)):=ac;have nmh:m≠lh:=(ai (s3 _ _ hh2) nm).symm;generalize upd H3 m (.lst (Lf.map vN))=H4 at*;refine⟨(by show 2≤sizeLine;decide),λ t5 n5=>?_⟩;have s5:=aj (o:=.tup [.ref l,.ref m]) n5;have ht5:(upd H4 t5 (.tup [.ref l,.ref m])) t5=some (.tup [.ref l,.ref m]):=ac;generalize upd H4 t5 (.tup [.ref l,.ref m])=H5 at*;have s25:=s3.trans (s4.trans s5);have hh5:=s25 _ _ hh2;refine⟨lh,_,_,rfl,rfl,hh5,bF (by rw [A9];lia),g3 _ _ ?_⟩;clear g3;have hP6:PrAt C CO CK (upd H5 lh (.lst (ts.map V.ref++[.ref t5]))) p co ck (T.take e) true:=(hP2.same s25).away hh5 (hN2'.mono (hP2.back s25)).1 (hN2'.mono (hP2.back s25)).2;have hN6:NoL C CO (upd H5 lh (.lst (ts.map V.ref++[.ref t5]))) p co lh:=(hN2'.mono (hP2.back s25)).mono λ e o he z=>by
    obtain⟨_,_,_,h⟩:=(hP2.same s25).ins e (by rcases he with rfl|rfl<;>simp);rw [upd_ne (ne_of h hh5 (by intro z;cases z))] at z;exact z
   have tb6:TbB Tb (upd H5 lh (.lst (ts.map V.ref++[.ref t5]))):=tb_keep (tb2.same s25) λ e o z _ hn=>by rw [upd_ne (ne_of z hh5 (hn _))];exact z
   have fr6:∀e o,e≠Tb->H0 e=some o->e≠p->e≠co->e≠ck->(upd H5 lh (.lst (ts.map V.ref++[.ref t5]))) e=some o:=λ e o n z n1 n2 n3=>by rw [upd_ne (ai z nh)];exact s25 _ _ (fr2 _ _ n (fr1 _ _ n z n1 n2 n3) n1 n2 n3)
   have hH6:Held (upd H5 lh (.lst (ts.map V.ref++[.ref t5]))) lh (ts++[t5]):=hH1.step (L:=Lf) (λ e o z h1 h2 n=>by rw [upd_ne n];exact s25 _ _ (any2 _ _ z h1 h2)) (by rw [ac,Bm];rfl) nlh nmh (by rw [upd_ne (ne_of ht5 hh5 (by intro z;cases z))];exact ht5) (by rw [upd_ne nlh];exact s5 _ _ (s4 _ _ hl3)) (by rw [upd_ne nmh];exact s5 _ _ hm4);have hd6:(upd H5 lh (.lst (ts.map V.ref++[.ref t5]))) ld3=some (.lst ((tl true Bs e).map vN)):=by rw [upd_ne nld3];exact s5 _ _ (s4 _ _ hd3)
   generalize upd H5 lh (.lst (ts.map V.ref++[.ref t5]))=H6 at*;have sit6:=sit.keep (cG sit.tb hP.ins fr6) tb6;refine⟨_,rfl,_,rfl,_,rfl,lp,rs,_,e,rfl,sit6.p,sit6.r,Ba hPl Z9,λ ls H7 nls s7 hls=>?_⟩;rw [Ab] at hls;refine⟨ld3,ls,_,_,rfl,rfl,by rw [<-bA];exact SqL.of (s7 _ _ hd6),by rw [<-bA];exact SqL.of hls,_,rfl,dG rfl ?_⟩;exact⟨e,true,ld3,_,_,ts++[t5],rfl,he2,(λ z=>nomatch z),nld3,s7 _ _ hd6,hP6.same s7,hN6.mono (hP6.back s7),hH6.same s7,by rw [Bb,hts];rfl,tb6.same s7,λ e o n z n1 n2 n3=>s7 _ _ (fr6 _ _ n z n1 n2 n3)⟩
  ·rintro σ H1 ⟨b,bg,ld,v10,v11,ts,rfl,hb,h0,nld,hd,hP1,hN1,hH1,hts,tb1,fr1⟩;replace hQ9:=hQ9.frm sit.tb hP.ins fr1 (λ y hy hz=>ap y hz hy);replace sit:=sit.keep (cG sit.tb hP.ins fr1) tb1;refine g2 _ _ ?_;clear g2 fr1 hP hd0 hh s18 nh;refine seq_g λ _ g3=>⟨_,rfl,_,rfl,_,rfl,_,rfl,lt,_,rfl,SqL.of sit.t,λ l2 n2=>?_⟩
   try dsimp only
   rw [iE,<-EE];have s2:=aj (o:=.lst ((T.drop b).map vN)) n2;have h22:(upd H1 l2 (.lst ((T.drop b).map vN))) l2=some (.lst ((T.drop b).map vN)):=ac;generalize upd H1 l2 (.lst ((T.drop b).map vN))=H2 at*;refine⟨_,rfl,_,rfl,ld,_,rfl,.inl (SqL.of (s2 _ _ hd)),_,rfl,lw,_,rfl,SqL.of (s2 _ _ sit.w),λ l3 n3=>?_⟩
   try dsimp only
   rw [A9,iE,<-EE];have s3:=aj (o:=.lst (((([184,66,1]::Bs).flatten++tailR T.length (chk 16 45 T)).drop (tl bg Bs b).length).map vN)) n3;have h33:(upd H2 l3 (.lst (((([184,66,1]::Bs).flatten++tailR T.length (chk 16 45 T)).drop (tl bg Bs b).length).map vN))) l3=some (.lst (((([184,66,1]::Bs).flatten++tailR T.length (chk 16 45 T)).drop (tl bg Bs b).length).map vN)):=ac;generalize upd H2 l3 (.lst (((([184,66,1]::Bs).flatten++tailR T.length (chk 16 45 T)).drop (tl bg Bs b).length).map vN))=H3 at*;refine⟨(by show 2≤sizeLine;decide),λ t4 n4=>?_⟩;have s4:=aj (o:=.tup [.ref l2,.ref l3]) n4;have h44:(upd H3 t4 (.tup [.ref l2,.ref l3])) t4=some (.tup [.ref l2,.ref l3]):=ac;generalize upd H3 t4 (.tup [.ref l2,.ref l3])=H4 at*;have s14:=s2.trans (s3.trans s4);replace hQ9:=hQ9.same s14;replace sit:=sit.same s14;replace hP1:=hP1.same s14;replace hH1:=hH1.same s14;have eT:T.take b++T.drop b=T:=B8 b T;refine⟨p,t4,l2,l3,co,ck,T.take b,T.drop b,_,bg,rfl,h44,s4 _ _ (s3 _ _ h22),s4 _ _ h33,λ x hx=>hTb x (Cs hx),hP1,by rw [eT];exact Ba hTl Z9,sit.tb,?_,λ H5 fr5 tb5=>?_⟩
   ·rw [eT];exact λ Rs R h1 h2 hLB=>⟨xQ h0 hb hBl hB h1 h2 hLB,by rw [By,Bb];lia⟩
   replace hQ9:=hQ9.frm sit.tb hP1.ins fr5 (λ y hy hz=>ap y hz hy);replace hH1:Held H5 lh ts:=⟨cG sit.tb hP1.ins fr5 _ _ hH1.1,λ t ht=>by
    obtain⟨a',b',L,m1,m2,m3,m4,m5⟩:=hH1.2 t ht;exact⟨a',b',L,m1,m2,om sit.tb hP1.ins fr5 _ _ m3 (by intro ps z;cases z) (by intro _ _ _ z;cases z),cG sit.tb hP1.ins fr5 _ _ m4,cG sit.tb hP1.ins fr5 _ _ m5⟩⟩
   replace sit:=sit.keep (cG sit.tb hP1.ins fr5) tb5;clear fr5 tb5 hP1 s14 s4 s3 s2 h44 h33 h22 n4 n3 n2 hd hN1 tb1;refine⟨_,rfl,bV ?_⟩;refine⟨_,rfl,lh,rfl,⟨_,SqL.of hH1.1⟩,λ lc nc=>?_⟩;refine fo (K:=K) (a:=lh) (l:=lc) (xs:=ts.map V.ref) (n:=1) (g:=bz 0) (te:=dW 0) (λ i ys H'=>ys=[]/\H' lc=some (.lst [])/\Same H5 H') ⟨rfl,ac,aj nc⟩ (λ i ys H' _ p=>SqL.of (p.2.2 _ _ hH1.1)) ?_ ?_ (λ x σ H A B h z=>h _ _ z) ?_ ?_
   ·rintro i x ys σ H' hx ⟨rfl,hlc,sm⟩ hσ;obtain⟨u0,rfl⟩:∃u0,σ=[u0]:=match σ,hσ with| [u0],_=>⟨u0,rfl⟩
    rw [B4] at hx;obtain⟨t,ht,rfl⟩:=Option.map_eq_some_iff.mp hx;obtain⟨a',b',L,_,_,m3,m4,m5⟩:=hH1.2 t (Cm ht);exact⟨_,rfl,t,_,_,_,rfl,rfl,SqT.of (sm _ _ m3),aB (j:=0) rfl,_,rfl,t,_,_,_,rfl,rfl,SqT.of (sm _ _ m3),aB (j:=1) rfl,a',b',L.map λ b=>((b:Nat):Int),L.map λ b=>((b:Nat):Int),rfl,rfl,by rw [<-bA];exact SqL.of (sm _ _ m4),by rw [<-bA];exact SqL.of (sm _ _ m5),_,rfl,dG rfl ⟨rfl,rfl,hlc,sm⟩⟩
   rotate_left
   ·rintro σ H A B h ⟨v,e1,p1,xs1,i1,x1,f1,f2,f3,f4,v2,e2,p2,xs2,i2,x2,f5,f6,f7,f8,p3,q3,ns3,ms3,r1,r2,r3,r4,c3,r5,z⟩;exact⟨v,e1,p1,xs1,i1,x1,f1,f2,f3,f4,v2,e2,p2,xs2,i2,x2,f5,f6,f7,f8,p3,q3,ns3,ms3,r1,r2,r3,r4,c3,r5,h _ _ z⟩
   ·rintro σ H A B h ⟨x,e,z⟩;exact⟨x,e,h _ _ z⟩
   rintro ys H6 ⟨rfl,hlc,s6⟩;refine⟨(by show 0≤sizeLine;decide),λ l7 n7=>?_⟩;have s7:=aj (o:=.lst []) n7;refine⟨lc,l7,[],[],rfl,rfl,SqL.of (s7 _ _ hlc),SqL.of ac,_,rfl,dG rfl (g3 _ _ ?_)⟩;clear g3;generalize upd H6 l7 (.lst [])=H7 at*;replace hQ9:=hQ9.same (s6.trans s7);replace sit:=sit.same (s6.trans s7);clear s6 s7 n7 hlc hH1 nc;refine seq_g λ R3 g3=>?_
   obtain⟨⟨dx7,wt7,gg7,hq7,_,_⟩,_⟩:=id hQ9;refine⟨_,rfl,q,dx7,_,rfl,hq7,bW _ _ _ _,q,rfl,.inr ⟨cq,kq,[1,2],true,hQ9,Z9,sit.tb,λ l8 dx8 wt8 R H8 nl8 hLB h8 _ fr8 tb8=>?_⟩⟩;replace sit:=sit.keep (cG sit.tb hQ9.ins fr8) tb8;have pb8:PB [] [1,2] R:=by
    rcases hLB with⟨z,_⟩|⟨_,z⟩
    ·exact absurd z Z9
    ·exact z
   clear hQ9 fr8 tb8 hLB;refine⟨(by show 2≤sizeLine;decide),λ l9 n9=>?_⟩;have s9:=aj (o:=.lst [V.int 1,V.int 2]) n9;have h9:(upd H8 l9 (.lst [V.int 1,V.int 2])) l9=some (.lst ([1,2].map vN)):=ac;generalize upd H8 l9 (.lst [V.int 1,V.int 2])=H9 at*;refine⟨(by show 0≤sizeLine;decide),λ l10 n10=>?_⟩;have s10:=aj (o:=.lst []) n10;have h10:(upd H9 l10 (.lst [])) l10=some (.lst []):=ac;generalize upd H9 l10 (.lst [])=H10 at*;replace sit:=sit.same (s9.trans s10);have tw:TW [1,2] []:=⟨Z9,Z9,Z9,(λ _ z=>nomatch z),Z9⟩;refine⟨l9,.ref l10,[1,2],[],rfl,s10 _ _ h9,.inr ⟨l10,rfl,h10⟩,tw,sit.tb,λ l11 R' H11 nl11 pb h11 sT11 tb11=>?_⟩;obtain rfl:=pb8.uniq pb;have lst11:∀(e:HZ) (xs:List V),H10 e=some (.lst xs)->H11 e=some (.lst xs):=λ e xs z=>sT11 _ _ (sit.tb.ne z (by intro ps y;cases y)) z
   have h8':=lst11 _ _ (s10 _ _ (s9 _ _ h8));replace sit:=sit.keep lst11 tb11;refine⟨(by show 2≤sizeLine;decide),λ l12 n12=>?_⟩;have s12:=aj (o:=.lst [V.int 1,V.int 2]) n12;refine⟨l12,[1,2],rfl,ac,Z9,Z9,λ l13 H13 nl13 s13 h13=>?_⟩;have s23:=s12.trans s13;have e11:(tailR [1,2].length (chk 16 45 [1,2])).length=11:=rfl;generalize tailR [1,2].length (chk 16 45 [1,2])=tE at*;refine⟨l11,l13,_,_,rfl,rfl,s23 _ _ h11,h13,bj (by have:=(pb.facts tw).2;rw [A9,A9,e11];lia),λ l14 n14=>?_⟩;rw [<-Bm];have s14:=aj (o:=.lst ((R++tE).map vN)) n14;refine⟨l8,l14,_,_,rfl,rfl,by rw [<-bA];exact SqL.of (s14 _ _ (s23 _ _ h8')),by rw [<-bA];exact SqL.of ac,_,rfl,dG rfl (g3 _ _ ?_)⟩;clear g3;generalize upd H13 l14 (.lst ((R++tE).map vN))=H14 at*;replace sit:=sit.same (s23.trans s14);clear s14 s23 s13 s12 h13 h11 h8' n14 nl13 n12 lst11 sT11 tb11 pb pb8 h10 h9 s10 s9;refine seq_g λ _ g3=>⟨_,rfl,lt,T,rfl,sit.t,hTb,Ba hTl Z9,sit.tb,λ l15 Y1 H15 nl15 _ h15 fr15 tb15=>⟨.inl ⟨rfl,_,SqL.of h15⟩,l15,_,rfl,rfl,h15,g3 _ _ ?_⟩⟩
   clear g3;replace sit:=sit.keep (H':=upd H15 l15 (.lst [])) (λ e xs z=>by rw [upd_ne (ai z nl15)];exact fr15 _ _ (sit.tb.ne z (by intro ps y;cases y)) z) (tb_keep tb15 λ e o z _ hn=>by rw [upd_ne (ne_of z h15 (hn _))];exact z);refine⟨_,rfl,lt,T,rfl,sit.t,hTb,Ba hTl Z9,sit.tb,λ l16 Y2 H16 nl16 hW h16 fr16 tb16=>?_⟩;have eW:=hW.eq hBl hB;subst eW;refine⟨_,rfl,l16,lw,_,_,rfl,rfl,by rw [<-bA];exact SqL.of h16,by rw [<-bA];exact SqL.of (fr16 _ _ (sit.tb.ne sit.w (by intro ps y;cases y)) sit.w),?_⟩;rw [Bj rfl];exact k _
 clear g1;refine⟨_,rfl,_,_,rfl,rfl,(by show(0:Int)<16;decide),rfl,_,rfl,bd (λ _=>?_) (λ _=>J lt T H1 sA Ir (Ba (Bz hTl) hsz) hTb)⟩;refine seq_g λ _ g2=>⟨_,rfl,a,ns,1,rfl,wv hS λ o e=>sA _ _ e,_,256,rfl,Z9,λ l3 T3 H3 s3 nl3 hl3 hT3 hTb3=>g2 _ _ ?_⟩
 clear g2;refine⟨_,rfl,_,rfl,_,rfl,_,rfl,_,_,rfl,rfl,⟨Z9,Z9⟩,_,_,rfl,rfl,(by show(0:Int)<44;decide),_,_,rfl,rfl,_,rfl,l3,_,rfl,SqL.of hl3,λ l4 n4=>?_⟩
 try dsimp only
 rw [show(193:Int)+((n:Nat):Int)/16%44=((193+n/16%44:Nat):Int) by lia,show(192:Int)=((192:Nat):Int) from rfl,eV _ Z5,<-EE,<-E1];have s4:=aj (o:=.lst (((T3.drop 192).take (193+n/16%44-192)).map vN)) n4;have hlen:(T3++(T3.drop 192).take (193+n/16%44-192)).length≤300:=by rw [Bb,Bv,By];lia
 refine⟨l3,l4,_,_,rfl,rfl,s4 _ _ hl3,ac,bj (by rw [Bb] at hlen;rw [A9,A9];exact Ba hlen Z9),λ l5 n5=>?_⟩;rw [<-Bm];exact J l5 _ _ (sA.trans (s3.trans (s4.trans (aj n5)))) ac hlen λ b hb=>(Br.mp hb).elim (hTb3 b) λ h=>hTb3 b (Cs (Cq h))
end
end K24.Ck
set_option maxHeartbeats 8000000
namespace K24.Ck
open PySem L2 QQ
variable {t t1 t2 t3:Tok}{cd ct dV dc oc pm:Ib}{fd:Ih}{Tb c d f:HZ}{p q qu x:Str}{sl:Array (Option Ib)}{n:Nat}{st:Im}{an od:Option HZ}{us:List Ib}{P:List Ib->Prop}
section
variable {K:Frag}{mg:Str -> Option Ib}{h:Ij}
theorem FunD.i {kV:Ib}(l:K.lookup f=some ⟨oc,od,.func (fnOf x qu (aT st) (aP st) (ak st) dV kV dc pm an cd ct),sl⟩)(c:codeIn K cd qu=true)(k:keepIn K (.ref f)=true):FunD K x qu st dV f (fnOf x qu (aT st) (aP st) (ak st) dV kV dc pm an cd ct):=⟨⟨oc,od,kV,dc,pm,an,cd,ct,sl,rfl,l,c⟩,k⟩
theorem FunC.i {cd:HZ}{kV:Ib}(l:K.lookup f=some ⟨oc,od,.func (fnOf x qu (aT st) (aP st) (ak st) dV kV dc pm an (.ref cd) ct),sl⟩)(c:codeIn K (.ref cd) qu=true)(k:keepIn K (.ref f)=true):FunC K x qu st dV cd f (fnOf x qu (aT st) (aP st) (ak st) dV kV dc pm an (.ref cd) ct):=⟨⟨oc,od,kV,dc,pm,an,ct,sl,rfl,l,c⟩,k⟩
theorem nI {n:Int}(X:K.In h)(G:h.Ns mainGlobals mg)(a:nsIn K mainGlobals x=some (some (.int n t))):∃t,mg x=some (.int n t):=⟨t,EZ X G a⟩
theorem tabI {p q:Int}{t4:Tok}{ep:Nat}(X:K.In h)(G:h.Ns mainGlobals mg)(a:nsIn K mainGlobals x=some (some (.ref d)))(l:K.lookup d=some ⟨.type "dict",none,.dict #[⟨8,.int 8 t1,.int p t2⟩,⟨16,.int 16 t3,.int q t4⟩] ep,#[]⟩)(s:(d==sysModules)=false):∃d,mg x=some (.ref d)/\TabK K d p q:=⟨d,EZ X G a,s,t1,t2,t3,t4,ep,l⟩
theorem markI (X:K.In h)(G:h.Ns mainGlobals mg)(a:nsIn K mainGlobals x=some (some (.ref d)))(l:K.lookup d=some ⟨.type "tuple",od,.seq #[.int 184 t1,.int 66 t2,.int 1 t3] n,sl⟩):∃d,mg x=some (.ref d)/\∀H,SqT K H d [vN 184,vN 66,vN 1]:=⟨d,EZ X G a,λ _=>.inr ⟨_,_,_,l,rfl,rfl,(by show 3≤sizeLine;decide),.cons ⟨_,rfl⟩ (.cons ⟨_,rfl⟩ (.cons ⟨_,rfl⟩ .nil))⟩⟩
section
variable {x qu:Str}{st:Im}{ps:List Str}{f C:HZ}{oc dV:Ib}{od an:Option HZ}{sl:Array (Option Ib)}{kV dc pm cd ct:Ib}(l:K.lookup f = some ⟨oc, od, .func (fnOf x qu (aT st) (aP st) (ak st) dV kV dc pm an cd ct), sl⟩)(cI:codeIn K cd qu = true)(k:keepIn K (.ref f) = true)
include l cI k
theorem inI (e:dV=.none)(b:Binds K (fnOf x qu (aT st) (aP st) (ak st) dV kV dc pm an cd ct) ps [])(m:makesIn K C=true)(a:findIn K (.ref C) "__init__"=some (some (.ref f)))(i:isFn K (.ref f)=true)(q:keepIn K (.ref C)=true):∃f fd,Fun K x qu st f fd/\Binds K fd ps []/\Mk K C f:=by
 subst e;exact⟨_,_,fun_mk l cI k,b,⟨m,a,i,q⟩⟩
theorem ciI (b:Binds K (fnOf x qu (aT st) (aP st) (ak st) dV kV dc pm an cd ct) ps [])(m:makesIn K C=true)(a:findIn K (.ref C) "__init__"=some (some (.ref f)))(i:isFn K (.ref f)=true)(q:keepIn K (.ref C)=true):∃f fd dV,FunD K x qu st dV f fd/\Binds K fd ps []/\Mk K C f:=⟨_,_,_,FunD.i l cI k,b,⟨m,a,i,q⟩⟩
theorem cdI {n:Int}(d:Binds K (fnOf x qu (aT st) (aP st) (ak st) dV kV dc pm an cd ct) ps [.int n t])(m:makesIn K C=true)(a:findIn K (.ref C) "__init__"=some (some (.ref f)))(i:isFn K (.ref f)=true)(q:keepIn K (.ref C)=true):∃f fd t,(∃dV,FunD K x qu st dV f fd)/\Binds K fd ps [.int n t]/\Mk K C f:=⟨_,_,_,⟨_,FunD.i l cI k⟩,d,⟨m,a,i,q⟩⟩
end
section
variable {x:Str}{st:Im}{ps:List Str}{f:HZ}{oc dV:Ib}{od an:Option HZ}{sl:Array (Option Ib)}{kV dc pm cd ct:Ib}(X:K.In h)(G:h.Ns mainGlobals mg)(a:nsIn K mainGlobals x = some (some (.ref f)))(l:K.lookup f = some ⟨oc, od, .func (fnOf x x (aT st) (aP st) (ak st) dV kV dc pm an cd ct), sl⟩)(cI:codeIn K cd x = true)(k:keepIn K (.ref f) = true)(b:Binds K (fnOf x x (aT st) (aP st) (ak st) dV kV dc pm an cd ct) ps [])
include X G a l cI k b
theorem fdI (d:Binds K (fnOf x x (aT st) (aP st) (ak st) dV kV dc pm an cd ct) ps [.none]):∃f fd,FnD K mg x st ps f fd:=⟨_,_,⟨_,FunD.i l cI k⟩,EZ X G a,b,d⟩
theorem flI (d:Binds K (fnOf x x (aT st) (aP st) (ak st) dV kV dc pm an cd ct) ps [.int 6 t]):∃f fd,S.FnL K mg x st ps f fd:=⟨_,_,⟨_,FunD.i l cI k⟩,EZ X G a,b,_,d⟩
theorem fkI (d:Binds K (fnOf x x (aT st) (aP st) (ak st) dV kV dc pm an cd ct) ps [.int 16 t]):∃f fd,FnK K mg x st ps f fd:=⟨_,_,⟨_,FunD.i l cI k⟩,EZ X G a,b,_,d⟩
end
theorem fcI {ps:List Str}{cd:HZ}{kV:Ib}(X:K.In h)(G:h.Ns mainGlobals mg)(a:nsIn K mainGlobals x=some (some (.ref f)))(l:K.lookup f=some ⟨oc,od,.func (fnOf x x (aT st) (aP st) (ak st) dV kV dc pm an (.ref cd) ct),sl⟩)(c:codeIn K (.ref cd) x=true)(k:keepIn K (.ref f)=true)(b:Binds K (fnOf x x (aT st) (aP st) (ak st) dV kV dc pm an (.ref cd) ct) ps [])(d:Binds K (fnOf x x (aT st) (aP st) (ak st) dV kV dc pm an (.ref cd) ct) ps [.none]):∃f fd dV,FunC K x x st dV cd f fd/\mg x=some (.ref f)/\Binds K fd ps []/\Binds K fd ps [.none]:=⟨_,_,_,FunC.i l c k,EZ X G a,b,d⟩
theorem m0 (h:P []):∀us:List Ib,us.length=0->P us:=λ us hl=>by
 cases us with
 |nil=>exact h
 |cons a us=>cases hl
theorem mS (h:∀a (us:List Ib),us.length=n->P (a::us)):∀us:List Ib,us.length=n+1->P us:=λ us hl=>by
 cases us with
 |nil=>cases hl
 |cons a us=>exact h a us (Nat.succ.inj hl)
theorem e1 (h:us.length=1):∃a,us=[a]:=mS (P:=λ us=>∃a,us=[a]) (λ a=>m0 ⟨a,rfl⟩) us h
theorem e2 (h:us.length=2):∃a b,us=[a,b]:=mS (P:=λ us=>∃a b,us=[a,b]) (λ a=>mS λ b=>m0 ⟨a,b,rfl⟩) us h
theorem b2 (h:∀(s:Ic) (a b:Ib),K.In s.heap->BindsTo s fd ⟨[a,b],[]⟩ [(p,a),(q,b)]):Binds K fd [p,q] []:=λ s us hX hl=>by
 obtain⟨a,b,rfl⟩:=e2 (show us.length=2 by simpa using hl);exact h s a b hX
theorem b1 {v:Ib}(h:∀(s:Ic) (a:Ib),K.In s.heap->BindsTo s fd ⟨[a],[]⟩ [(p,a),(q,v)]):Binds K fd [p,q] [v]:=λ s us hX hl=>by
 obtain⟨a,rfl⟩:=e1 (show us.length=1 by simpa using hl);exact h s a hX
theorem qv {α β:Type}{F:α->β->Prop}{xs:List α}{ys:List β}(h:Paired F xs ys):∀(i:Nat) (x:α) (y:β),xs[i]?=some x->ys[i]?=some y->F x y:=by
 induction h with
 |nil=>intro i x y h1;cases h1
 |cons r _ ih=>
  intro i x y h1 h2;cases i with
  |zero=>cases h1;cases h2;exact r
  |succ i=>exact ih i x y h1 h2
theorem zY {f:HZ->Option Bool}{cs:List HZ}{k:Nat}(h:cs.map f=(List.range n).map λ j=>some (decide (j=k))):∀(i:Nat) (c:HZ),cs[i]?=some c->f c=some (decide (i=k)):=λ i c e=>by
 have z:=congrArg (λ l:List (Option Bool)=>l[i]?) h;simp only [B4,e,G7] at z;have hi:i<n:=by
  rcases Dm i n with q|q
  ·exact q
  ·rw [BS (by rw [Ej];exact q)] at z;cases z
 rw [EY hi] at z;exact BU z
theorem ers {p r e1 e2 e3 e4 e5 e6 e7 e8 e9 e10 e11 e12 e13 e14 o e16 e17:HZ}(q0:mg "BadRow"=some (.ref r))(q1:mg "BadBits"=some (.ref e1))(q2:mg "NoBits"=some (.ref e2))(q3:mg "BadShares"=some (.ref e3))(q4:mg "BadLengths"=some (.ref e4))(q5:mg "BadCode"=some (.ref e5))(q6:mg "BadTable"=some (.ref e6))(q7:mg "Cut"=some (.ref e7))(q8:mg "BadPieces"=some (.ref e8))(q9:mg "BadBody"=some (.ref e9))(q10:mg "BadHead"=some (.ref e10))(q11:mg "BadCheck"=some (.ref e11))(q12:mg "BadMark"=some (.ref e12))(q13:mg "BadTail"=some (.ref e13))(q14:mg "Behind"=some (.ref e14))(q15:mg "Over"=some (.ref o))(q16:mg "NoRange"=some (.ref e16))(q17:mg "BadLetters"=some (.ref e17))(m:mg "PressError"=some (.ref p))(x:ExC K p)(a:Exc1 K mg p r)(b:Exc1 K mg p o)(c:ExI K r)(d:ExI K o)(u:mg "tuple"=none)(v:mg "ValueError"=none)(f:kitOne K (.ref r) (.type "ValueError")=some true)(g:kitOne K (.ref o) (.type "ValueError")=some true)
  (i:([r,e1,e2,e3,e4,e5,e6,e7,e8,e9,e10,e11,e12,e13,e14,o,e16,e17].map λ c=>kitOne K (.ref r) (.ref c))=(List.range 18).map λ j=>some (decide (j=0))) (j:([r,e1,e2,e3,e4,e5,e6,e7,e8,e9,e10,e11,e12,e13,e14,o,e16,e17].map λ c=>kitOne K (.ref o) (.ref c))=(List.range 18).map λ j=>some (decide (j=15))):Ers K mg p r o [r,e1,e2,e3,e4,e5,e6,e7,e8,e9,e10,e11,e12,e13,e14,o,e16,e17]:=by
 have pm:Paired (λ(x:Str) (c:HZ)=>mg x=some (.ref c)) names [r,e1,e2,e3,e4,e5,e6,e7,e8,e9,e10,e11,e12,e13,e14,o,e16,e17]:=(.cons q0 (.cons q1 (.cons q2 (.cons q3 (.cons q4 (.cons q5 (.cons q6 (.cons q7 (.cons q8 (.cons q9 (.cons q10 (.cons q11 (.cons q12 (.cons q13 (.cons q14 (.cons q15 (.cons q16 (.cons q17 .nil))))))))))))))))));exact⟨u,v,m,x,q0,a,b,c,d,f,g,⟨_,_,_,_,_,_,_,_,_,_,_,_,_,_,_,_,_,_,rfl⟩,λ i x c h1 h2=>qv pm i x c h1 h2,zY i,zY j⟩
end
theorem hd {l:PySem.W.OpenLaw}{w:Ig}{K:Frag}{h:Ij}{mg:Str->Option Ib}{fa B C0 C1 C2 C3 CK CHd CO C cO cP cR:HZ}{cs:List HZ}{kV:Ib}(hKT:K.lookup Tb=none)(X:K.In h)(G:h.Ns mainGlobals mg)(hfa:mg "law"=some (.ref fa))
  (a:nsIn K mainGlobals "law"=some (some (.ref f))) (lk:K.lookup f=some ⟨oc,od,.func (fnOf "law" "law" (aT jF) (aP jF) (ak jF) .none kV dc pm an cd ct),sl⟩) (cc:codeIn K cd "law"=true) (kk:keepIn K (.ref f)=true) (R0':K24.Txt K mg) (R1':K24.Txt K mg->K24.Rows K mg) (R2':K24.Rows K mg->K24.Wins K mg) (R3':K24.Wins K mg->K24.Wys K mg) (R4':K24.CB K mg B) (R5':K24.Rows K mg->K24.CB K mg B->K24.Bts K mg B) (R6':K24.Txt K mg->K24.Shs K mg) (R7':K24.Txt K mg->K24.C.Lns K mg) (R8':K24.Txt K mg->K24.C.Lns K mg->K24.C.Mks K mg 0) (R9':K24.C.Mks K mg 0->K24.Cds K mg 0 0) (R10':K24.Wys K mg->K24.Bts K mg B->K24.Shs K mg->K24.Cds K mg 0 0->K24.Shw K mg B 0 0) (R11':K24.WC K mg C0 0) (R12':K24.WC K mg C0 0->K24.Raw K mg C0 0) (R13':K24.WC K mg C1 0) (R14':K24.WC K mg C1 0->K24.Run K mg C1 0) (R15':K24.WC K mg C2 0) (R16':K24.WC K mg C2 0->K24.Cpy K mg C2 0) (R17':K24.WC K mg C3 0) (R18':K24.WC K mg C3 0->K24.Shr K mg C3 0) (R19':K24.Shw K mg B 0 0->K24.Raw K mg C0 0->K24.Run K mg C1 0->K24.Cpy K mg C2 0->K24.Shr K mg C3 0->K24.Wal K mg B 0 0 0 C0 C1 C2 C3) (R20':K24.Rows K mg->K24.Ck.Txt K mg) (R21':K24.Ck.CC K mg CK) (R22':K24.Ck.Txt K mg->K24.Ck.CC K mg CK->K24.Ck.Chk K mg CK) (R23':K24.Ck.Chk K mg CK->K24.Ck.Cks K mg CK) (R24':K24.Ck.CH K mg CHd) (R25':K24.Wal K mg B 0 0 0 C0 C1 C2 C3->K24.Ck.Cks K mg CK->K24.Ck.CH K mg CHd->K24.Ck.Bks K mg B 0 0 0 C0 C1 C2 C3 c CK CHd) (R26':K24.Ck.Cks K mg CK->K24.Ck.Crs K mg CK CO) (R27':K24.Ck.CP K mg C cO) (R28':K24.Ck.Bks K mg B 0 0 0 C0 C1 C2 C3 c CK CHd->K24.Ck.Crs K mg CK CO->K24.Ck.CP K mg C cO->K24.Ck.Prz K mg B 0 0 0 C0 C1 C2 C3 c CK CHd CO C cO) (R29':K24.Ck.Prz K mg B 0 0 0 C0 C1 C2 C3 c CK CHd CO C cO->K24.Ck.All K mg B 0 0 0 C0 C1 C2 C3 c CK CHd CO C cO cP cR cs):
  ∃fd:Ih,(∀(s:Ic) (v:Ib),BindsTo s fd ⟨[v],[]⟩ [("_law_script",v)])/\∀base:Ij,K.In base->base.Ns mainGlobals mg->CodeHd base c Tb->BmAt mg base->FnOk l.prog w K mg base CX0 45 fa fd ["_law_script"] (pK K Tb):=by
 have e:=hfa.symm.trans (EZ X G a);cases e;have R0:=R0';have R1:=R1' R0;have R2:=R2' R1;have R3:=R3' R2;have R4:=R4';have R5:=R5' R1 R4;have R6:=R6' R0;have R7:=R7' R0;have R8:=R8' R0 R7;have R9:=R9' R8;have R10:=R10' R3 R5 R6 R9;have R11:=R11';have R12:=R12' R11;have R13:=R13';have R14:=R14' R13;have R15:=R15';have R16:=R16' R15;have R17:=R17';have R18:=R18' R17;have R19:=R19' R10 R12 R14 R16 R18;have R20:=R20' R1;have R21:=R21';have R22:=R22' R20 R21;have R23:=R23' R22;have R24:=R24';have R25:=R25' R19 R23 R24;have R26:=R26' R23;have R27:=R27';have R28:=R28' R25 R26 R27;have R29:=R29' R28;exact⟨fnOf "law" "law" (aT jF) (aP jF) (ak jF) .none kV dc pm an cd ct,λ s v=>.of_eq rfl,λ base _ _ hC hB=>xZ (fun_mk (st:=jF) lk cc kk) R29 hC hB hKT⟩
theorem walk {l:PySem.W.OpenLaw}{q:Ie}{loose:List Str}{XP:(Str->Option Ib)->Ij->Prop}{YP:Ig->Ij->Prop}{d:DefRec}{K:Params->Frag}(hn:l.most=some 63)(hdf:d.params.defaults=[])
  (hY:∀(w:Ig) (h:Ij),YP w h->(K w.params).In h/\h.get? Tb=some (PySem.W.tabObj #[])) (hKT:∀w:Ig,(K w.params).lookup Tb=none)
  (F:∀(w:Ig) (mg:Str->Option Ib) (fa:HZ) (h:Ij),(K w.params).In h->h.Ns mainGlobals mg->mg d.name=some (.ref fa)->
   ∃fd:Ih,(∀(s:Ic) (u:Ib),BindsTo s fd ⟨[u],[]⟩ [("_law_script",u)])/\∀base:Ij,(K w.params).In base->base.Ns mainGlobals mg->CodeHd base c Tb->BmAt mg base->FnOk l.prog w (K w.params) mg base CX0 45 fa fd ["_law_script"] (pK (K w.params) Tb))
  (hC:∀w:Ig,PySem.W.codeHdIn (K w.params) c Tb=true):
  PySem.W.WalkO q loose XP YP l.row.toRowW d [] (λ f vs=>PySem.call f vs):=
 L2.walk_ofT (n:=63) (k:=45) (x:="_law_script") (sp:=λ w=>pK (K w.params) Tb) hn (by decide) hdf ⟨λ _=>rfl,by decide,by decide,rfl⟩ hY hC hKT F λ _ H a ns hl hS hT na=>⟨a,ns,rfl,hS,hT,na,λ _=>rfl⟩
end K24.Ck
open PySem PySem.W PyProof.Rows
structure PySem.W.Fast:Prop where(tw8937583502354864570 tw3097480713037861255 tw6839270783829612070 tw5912634791567515142 tw13773735100113688424 tw11434163843972479035 tw9513314671466217618 tw4801646090073358075 tw1683739494829819477 tw17281892416734782759 tw5576198745947556330 tw8425790705946549785 tw5460269621703732465 tw4108501792571068966 tw6180839849421263254 tw15102536810614649256 tw7898545025121700672 tw989830234405167135 tw11114517236645304187 tw13062295480257473310 tw16117085710307665409 tw8611929195009200552 tw18000109489302499564 tw17753067125668747135 tw1676771514306776110 tw1486113716359483327 tw16999472436248200952 tw18128002417672692640 tw7589285952433826416 tw11401403561894719572 tw13065770918720315851 tw17035989021509119124 tw13113822474830327664 tw1395708267254784055 tw2349187343702283228 tw6587258398982920194 tw13028432180750351960 tw12460381329498201458 tw2422022817623281708 tw12643072624381254288 tw10598280588581671102 tw10419457028276433147 tw13354689504323153907 tw4450501207240541815 tw10151656294270944699 tw14271994163940030508 tw3113820989026923376 tw3050178774041007503 tw2748828683435370869 tw6704324983309199397 tw5037228808244268178 tw18422789904804230970 tw4870105920407527258 tw14519294680460534299 tw9242095476352132863 tw2570648808144898466 tw10567986688487012314 tw18114109359039367101 tw10562955490392659774 tw14310284313870492134 tw11302797132260249423 tw6070620212987752087 tw16811811609396298187 tw10439190667263741386 tw11564962174650474178 tw16651269327310285298 tw1066589664390273091 tw16010406517974545746 tw17435986967236334037 tw8598501723385106967 tw12761845780795136117 tw15391759601575536178 tw13281793395075315130 tw6165392058134284144 tw11444224141043029855 tw12174943821540901387 tw15397115192682146081 tw2544449272577888087 tw4298685746245804018 tw12368169728359794482 tw12627021598750534551 tw7349090326276288369 tw12073906513759078668 tw15176787634625101552 tw1154120431017253483 tw3156878645321378063 tw8981424226802384674 tw8599022600310215435 tw12772686909897697408 tw7424757216424221863 tw14230005500410709409 tw11286915700157027413 tw13711959371116489818 tw12466979177620128690 tw3741002900331707350 tw6795536830168062177 tw11016078246375633772 tw11087265755482778287 tw2419842610923379118 tw5486935386035927371 tw16407773886874852541 tw7862929510974125575 tw51709070824427651 tw14795409572663696227 tw8333636700157738369 tw5776236280229241923 tw16423178328552648996 tw1396471408535645608 tw10528748985886491605 tw1003617223571794817 tw18286862634413245747 tw10593926271321062653 tw17212561958238386603 tw7859810651994495506 tw14529118981454244685 tw12298305817496934534 tw18443000079853521529 tw3356529591251444302 tw16607280005819113006 tw1362310545062016055 tw2730746476589783522 tw4881088250218258549 tw14899306009705562905 tw5301268958202129286 tw18238717458343763968 tw5409570483511120858 tw17470117359187241215 tw13743371353726891372 tw18359159429520663316 tw18135050129117994130 tw1598258154910406629 tw10993746620394012145 tw3116799258136613427 tw816799425794810053 tw2653485897316694289 tw6315027412790833043 tw6852041414774942248 tw387916333859287698 tw15480099774340581812 tw10826110164142607967 tw8055836040723229281 tw2722790009895692281 tw4005355641506696295 tw6608606844604623388 tw1827212529950213741 tw11991530747816062784 tw3889468696028483552 tw5066923106990432071 tw11668046173935662212 tw17038422185907783340 tw12541904026256720018 tw5673387087063964772 tw10906149495256262334 tw16637281590733221344 tw15627083405770036822 tw13686376136653147219 tw15671834424279482697 tw7879956297547378655 tw5113361648539268225 tw304836032500480062 tw18084554467352277214 tw17230296909313555797 tw5549460130235059990 tw2525267984603585419 tw257192697328019142 tw15730554732130783587 tw1586711205107898023 tw6223713419597194573 tw15735963839842052137 tw11882005554881253195 tw16699245319811053980 tw10660997395213286178 tw1352918766308000277 tw7442410940871132220 tw15614074159129770616 tw17039246865939027372 tw2803289205196261802 tw9057104745603747750 tw11701878791612879398 tw5388427284045035436 tw4147060024723529357 tw11717485692253157098 tw3931355687523923750 tw17895165288079806026 tw15505063195477502065 tw333100015474868449 tw992952570947253479 tw9147757159948540288 tw12710933348426233867 tw18056174305256550839 tw10431811244224113573 tw7717349834528463706 tw1112851549045615740 tw3157701278067904169 tw13570128553430154047 tw3659504556932049614 tw9283178480233366390 tw5066649663999218541 tw10942290672357868010 tw17937595757885100127 tw3953055171050986841 tw13100880916941631535 tw3047280298509565319 tw13402722155018886762 tw16267412757827215897 tw16188362445051634603 tw238651928072659501 tw13400636096345244316 tw11182453179305007043 tw7723897148175596303 tw5502071277252329745 tw5942119918026505619 tw10043194428910703010 tw1006533511376882192 tw1637632320544301251 tw2468980776024285793 tw7006056888946497957 tw188294575489557118 tw4106669698166345811 tw16151767343630017601 tw6260300090117150564 tw11043006460147245759 tw3726613739481856458 tw11205138093991879664 tw979403519011793579 tw4820057950905145317 tw7690394868679385965 tw2850516087835218459 tw3848745606246341743 tw11471159517032176289 tw10986809207803123163 tw8289342020763798263 tw7525359532087298976 tw7197826617006511439 tw9675281809741311689 tw8475624755630477059 tw14479153229945704260 tw1547803143621184692 tw11329284529725570496 tw1794792060470744951 tw3351204098718103508 tw10536422052154520336 tw54405163924282898 tw10424544248042259166 tw7149500680912132887 tw1980929860846623619 tw14337196105811620531 tw3564768809500983222 tw5043486750250522105 tw17291179869913517083 tw13008468350760763236 tw8679217834486361490 tw8152713172049328395 tw12098707708290813642 tw11930713492091654207 tw9304470897819372406 tw15367175714241059486 tw15145757002281492080 tw10345645938033590262 tw4617254698905728565 tw14645005322649990495 tw14272778635981389532 tw5296581434630908652 tw9824406951604060982 tw5796161918546944313 tw16242496646450491314 tw4668296307990451775 tw11827992574023949621 tw13802586005452382120 tw13664486187395532977 tw4834733626253350858 tw1775799148271179461 tw12572334490798533173 tw6751509232274479408 tw1894490364850245695 tw12243808516580496232 tw3783546019132456569 tw2317319242875377708 tw17311722103499624576 tw14424422740673345041 tw13327917962596037599 tw1792498763251098290 tw13881777761050859570 tw1839138945616129846 tw10715456163802671389 tw8627163534365856152 tw11576251690313658178 tw11644034438525960766 tw17297916038103439526 tw671525833568385565 tw7369735959740470715 tw2982286658778729207 tw3818926592629068040 tw1739196819920473464 tw3191521927433945135 tw575522987875354878 tw11471447804433992131 tw13584843070333830983 tw15777219617959519899 tw3576535173946364242 tw710953816345917430 tw13853736538624313734 tw2757177731614207122 tw17712415598862039361 tw2080899153421394737 tw7957399761258256198 tw17423724581466984808 tw2920346211650677088 tw15290000551931481775 tw5067749043191211093 tw17639294592208008338 tw11574347224922507426 tw3181645214894280022 tw5628138658015569368 tw18086525963670267611 tw15907756205288513992 tw6870714854174160278 tw15625887135620859860 tw7230154918411915717 tw7640826618134226955 tw3720635277871930879 tw2626684793270657196 tw1430038011982506075 tw8393883832671534003 tw4783370034506254634 tw8710993387624386856 tw3845191010019336754 tw7666254486571199976 tw10857344148121968622 tw12499920401597838672 tw13694979291549869137 tw5505456141035178360 tw12301746925575539169 tw1277215380773833597 tw1885737510849187821 tw15618822690590148646 tw11767767252877095009 tw5111521161173762067 tw5513892702339825888 tw5549512743732332074 tw9004706847318300307 tw8913476519547539392 tw8685564618622535310 tw770899616336529232 tw7334723183691585088 tw5405904454543589438 tw4805655707044463032 tw2859205381466220466 tw2143980873790353989 tw18365976797738734519 tw18210355910912281754 tw1762798324357625625 tw16585839376345579519 tw15618294187212961408 tw13479488425486142152 tw12544257575112783023 tw10886464290551652498 tw10323368938391540806 tw1684603977331587861 tw14263144708052297898 tw13581353562395907841 tw4693317685788349062 tw2046223149598413808 tw8197486752955673732 tw7291755600987682098 tw3614856937740404173 tw15417680364778467922 tw10989332030352102543 tw13606002210307522837 tw588720761975949827 tw7082808649819204563 tw14451821914305636908 tw10060967945479452496 tw10034835742843733968 tw7313696938247221371 tw17674772770145141215 tw1741421716783944009 tw1835223075454789772 tw6299403848880369382 tw554883100276782544 tw15590277587421709143 tw16959368582448421545 tw9519156542390909069 tw7648784620837931569 tw4466778632475781030 tw10161962692797649095 tw7888408404532076653 tw3848961550782479335 tw2358247315103584063 tw3657894577387048028 tw15661377616822636118 tw8483150365665109063 tw18195595439227112518 tw4481059355374096254 tw9501357572841514081 tw4415696563423881790 tw12875615631887845468 tw3133968045839660520 tw14681296820321566226 tw12174971122151937207 tw12729064786641620126 tw12502485456087838222 tw8936621611086416389 tw4027482176086031469 tw10728793352115709980 tw13063389780884396417 tw3884224938353167172 tw8570047802557369257 tw14526827648629390419 tw16525271429639341067 tw8232393521111654856 tw7516665649091731612 tw5507805029624017286 tw9958434600813663227 tw9207848328859980274 tw9011467574845487641 tw8477968616924841521 tw9160589230789523730 tw2525664310998092110 tw9759327409563262002 tw17840261695818010169 tw9895230253437473865 tw14318796945490102826 tw5413006850382294027 tw610993085271394468 tw1811567055946243072 tw14161360194286030701 tw3821623671999484926 tw16638988021174905116 tw7278858262481957096 tw11296620643064488314 tw4529006400806667580 tw437468569209355463 tw11785797310667937446 tw12830278702147554388 tw15091693329261082761 tw14042574727749947947 tw4888872323796182656 tw452560842170248518 tw3762437628505648742 tw280174500584373705 tw15704940752442028969 tw5858493660938272732 tw5113029676516003124 tw2428036451267896444 tw886673433653709694 tw6105933700354300802 tw2018921092299635831 tw16190634509360604096 tw11620060011761377379 tw6393781067265754741 tw15066063375086574846 tw3081172772484211273 tw5004663097461843723 tw13647324640937912370 tw9925824428179860785 tw224013430553408407 tw15395246344693209069 tw11109382278194909465 tw8216143044429841320 tw3273541529036219092 tw17101515871450099305 tw9543887967349757864 tw1952513428491942123 tw17626471161290192897 tw2694221284188763355 tw4417602318129387986 tw12542121023715965352 tw531072617852367155 tw7202974363837704361 tw6996229647906784096 tw6776728713555098811 tw3576228729485620924 tw3533629411895729350 tw17777633707826260380 tw9092049357448372199 tw8090430467421908852 tw2627341558741869415 tw16468463648208881343 tw11619699609597504015 tw7837732667084187475 tw3087330774491350135 tw2230907134455153131 tw9430009696085002317 tw8754265055880071259 tw5319149430487615990 tw4656591852559092761 tw3185638064671434058 tw17781154038216151592 tw16817665659207116593 tw1572226559592857415 tw11497697007727076740 tw11131023161365561119 tw10387795641627061945 tw1741001338714091173 tw13506893875616826834 tw13436930080550079384 tw3551768424114290889 tw7919992187549809015 tw2526254969570248762 tw16191316116809423531 tw5469426609351704009 tw3676098875026002487 tw1959338671207616216 tw16006462631243385202 tw16753360723550324780 tw16209475531673902364 tw15887930048100435180 tw15485053195514888990 tw14976418859851557046 tw13232542618775543448 tw13845671094394863247 tw13930421574765697827 tw12759303674871969821 tw11304071834005967027 tw11738155986208480516 tw706069390934086843 tw15783429501583587299 tw12166357077340814113 tw2387398778269635896 tw1595394309809141865 tw6029970231283745663 tw5725091416477041257 tw4347950443842521193 tw14221803637386888574 tw7072044982859773797 tw4744383547704258633 tw3453099678255700756 tw6320003730320498344 tw1427185278635295014 tw960031925599370576 tw6692375881266208592 tw10689760939858045518 tw9839827678537919165 tw6154009868764097313 tw2387729179365962379 tw17715379886140879769 tw13035751536735684531 tw331581970765705284 tw11561326682899650488 tw12948978253675315403 tw946647982734724100 tw8143130972970656809 tw7888350105938160594 tw16585533844366853030 tw12762909728382487087 tw7455702985824690084 tw15492668913305306180 tw5964988045914839526 tw3487542447191376391 tw17289635020574035 tw5766708072042775721 tw4548631631471546808 tw16541487050859019121 tw13651957940127607195 tw9780951857190491662 tw14827901364376747784 tw10357516187418273583 tw8121966835459089931 tw5842832874030298775 tw4744646140705750820 tw8190605606968039113 tw4900023835739168894 tw3018181834062839101 tw18153950731081035874 tw16695633202548875152 tw3719849657330535989 tw15888022180860674989 tw11819352744282890867 tw5931626500202319900 tw9628613668481048571 tw9125991464121664059 tw6311370205533003424 tw11828088749704251012 tw4722739608288462459 tw16269204188279689731 tw4918832602595474182 tw16474283344591019183 tw16235460365273246698 tw12139711936676442596 tw3917237052680688100 tw10151218540873548225 tw10922467904970822048 tw14668916208754295775 tw13969462548590442507 tw620860735803887782 tw5040106738957456682 tw17347362028700230262 tw17721781319124630426 tw5601571413775497210 tw3800139266364157395 tw16599046369404654613 tw3201025211562388049 tw6995328387788257645 tw16484218647890218209 tw14913950552978095530 tw8452918249941963996 tw4768331890462610103 tw3017038031034156645 tw7827856807305896075 tw11826380056066241987 tw17853993642545616443 tw10277396095513668293 tw6319954086322419206 tw4600392872085055100 tw7662296367085304022 tw7114461281475424624 tw16222222422555271576 tw9553064880711135953 tw4232103068274578839 tw1696723044916115724 tw8808628880331053472 tw10591357630499705891 tw9777724387796478328 tw16219248994260186799 tw17735525606750434554 tw16053845884906542830 tw7323153659790335782 tw6123013550780977513 tw14119458478939204879 tw17600727999075704434 tw8454787359111347891 tw16725199996484136679 tw1051817622792451357 tw5161098350646860449 tw4008930431593045030 tw3536407318743240036 tw3142514564524085808 tw1355949725632498533 tw13296954472717091400 tw11422896125284260313 tw1548040154699780614 tw18392926534023615550 tw5505283082017500161 tw10604860996244780399 tw8458304461177072739 tw3299575206193224760 tw14831387855086880526 tw2124274500777941083 tw16291906776682419446 tw6945380975554835559 tw17165178115388087514 tw9528252190666025469 tw9313717337684550322 tw8926684459863534171 tw8331868111171442232 tw7390160429980002105 tw7087485981704078203 tw6810096271777245651 tw5842219301405364651 tw5742854658734481197 tw3999461420496742095 tw2960108910915144168 tw2291464666996926068 tw1969946037376397575 tw182175905566922083 tw17471508689964789551 tw16601543807143214712 tw16499030051572928095 tw15589890605166952963 tw14979377282627432397 tw14974063217309059791 tw14220116103847628126 tw12289500849166498361 tw12094926182045070179 tw11857697012990446335 tw10104990786631881362 tw14563489396999663193 tw13721411791074173245 tw7744880399598337181 tw6634266278129996198 tw6627863143298076826 tw2592592774309977418 tw16347670404158868373 tw14043250431981255306 tw10367759467319254783 tw10052978878376760325 tw991003939931955163 tw18132999707851525027 tw15612079523917729943 tw14919868959320765365 tw17311485022725391992 tw9703936567898899003 tw7994454126655802993 tw2779719830189660354 tw12409476965250104499 tw16548146802404615611 tw12852357889494497416 tw1261530955357825332 tw17384013287605076485 tw1267004193010464038 tw9886475841139069005 tw6543568722146309619 tw16651845564067114735 tw3791073993679458812 tw10269752813002574222 tw9550218840228803098 tw9149586584965756749 tw7585255912104959949 tw7228879221616383894 tw6305902550628934088 tw6282861076439671280 tw6264166320014572554 tw3709884783090961690 tw3175301690116587397 tw17459250686383365814 tw17252856364920116862 tw17133821489940779727 tw1602603583992217284 tw14785002361936885786 tw14586931459303210909 tw14354754500280833853 tw13934430212232713465 tw13098629083998467022 tw12667854881632890907 tw11948739223265624264 tw8363259884211500478 tw13684130780093658727 tw8853546667545191867 tw8524752414251583787 tw844689464012829432 tw8404430564886269406 tw8391134330421883372 tw8131295734487231576 tw7771624562581098728 tw7211572243586991489 tw6173880922989425972 tw581264666137500863 tw5458200102176626695 tw5140166973401684144 tw4755574004406201343 tw4413975538954382283 tw17855490425450556161 tw17417953253488573412 tw16618935592387148734 tw15935791603095859545 tw15779332225253386490 tw15617899009438300441 tw15004308018013479217 tw14977805462624235026 tw14654398815703473063 tw13306233716219972801 tw1224707166825638089 tw11995550612818751842 tw1119648714652935352 tw109939599626193979 tw10981890145258567494 tw1000218390359201926 tw9258715006608240565 tw7598780181913302345 tw6509666623064770565 tw12493330089010741160 tw8663765815303564194 tw8247879920745049700 tw6892578347775635092 tw658743903873274 tw5270568393431124239 tw4928396701876312987 tw4348872432741420790 tw3514024530687130779 tw2297385629154680316 tw1743926288313765894 tw16556674661123299494 tw15724841415041488299 tw15372753245490617522 tw1481238426669901235 tw14511286264688089861 tw14195591477009224572 tw13969424578565287640 tw13478877111771573548 tw13438497702833544230 tw1309788921848100732 tw12561104622385348797 tw12421501156193148505 tw1220811065068491199 tw11584747205020212637 tw11575350808808383429 tw11051064595658490524 tw10972199284905581995 tw10896518545541750452 tw10505793227299399277 tw102275587110454699 tw8599512875672592059 tw3075054345299084124 tw12574467558148176143 tw11631734889623514806 tw977053123250379902 tw6872813713631601222 tw6308054712689791022 tw6271729661851803109 tw5967979189745845943 tw5926657289637295090 tw5724460749667639288 tw5277483955559810211 tw5187090394886857862 tw3648789202133287866 tw3165949722927702293 tw2704906586257181015 tw2469692633814115379 tw1911535121519393625 tw17927447100372257143 tw17201873693158915486 tw17194323756840160847 tw1476143831773757062 tw14318087025862110535 tw14008452901781535460 tw13406109215271665770 tw13328309117528702427 tw9888097032089907574 tw9770600744020903531 tw9731562009821321356 tw9217170279935892417 tw6989895114396631470 tw5876020478929894824 tw5711232850607186341 tw5671675191902380883 tw5587976672317757286 tw5314628863218909736 tw5187929987229787558 tw4074976887085500116 tw17977387948151495099 tw17489370286235075273 tw17471737020609267105 tw16547963082237581271 tw15522039110665743776 tw15250252276639843672 tw1513569597384856496:True)
set_option maxRecDepth 100000 in
set_option maxHeartbeats 0 in
theorem PySem.Challenge.cw_balepress_k24_pressers_holds : PySem.Challenge.rw_balepress_k24_pressers.Holds := by
 w_on;o_law;k_head;(case hw=>w_witness2)
 k_fill
 refine' K24.Ck.walk (l:=PySem.Challenge.rw_balepress_k24_pressers) rfl rfl (λ w h Y=>⟨PySem.W.km_in_of Y,PySem.W.km_tabs_of Y _ List.mem_cons_self⟩) ?hKT ?F ?hC
 case hKT=>intro w;kernel_rfl
 case F=>
  intro w mg fa h KX G hmg
  refine' K24.Ck.hd (by kernel_rfl) KX G hmg ?a ?l ?c ?k ⟨?_,?_,?_,?_,?_,?_,?_,?_,?_,?_,?_,?_,?_,?_,?_,?_,?_,?_,?_,?_,?_,?_,?_,?_,?_,?_,?_,?_⟩ (λ R0=>⟨R0,?_,?_,?_⟩) (λ R1=>⟨R1,?_,?_,?_,?_⟩) (λ R2=>⟨R2,?_,?_,?_⟩) ⟨?_,?_,?_,?_⟩ (λ R1 R4=>⟨R1,R4,?_,?_,?_,?_,?_,?_,?_,?_⟩) (λ R0=>⟨R0,?_,?_,?_,?_,?_,?_,?_,?_⟩) (λ R0=>⟨R0,?_,?_,?_,?_⟩) (λ R0 R7=>⟨R0,R7,?_,?_⟩) (λ R8=>⟨R8⟩) (λ R3 R5 R6 R9=>⟨R3,R5,R6,R9,?_,?_,?_,?_,?_⟩) ⟨?_,?_,?_⟩ (λ R11=>⟨R11,?_,?_,?_⟩) ⟨?_,?_,?_⟩ (λ R13=>⟨R13,?_,?_,?_⟩) ⟨?_,?_,?_⟩ (λ R15=>⟨R15,?_,?_,?_⟩) ⟨?_,?_,?_⟩ (λ R17=>⟨R17,?_,?_,?_⟩) (λ R10 R12 R14 R16 R18=>⟨R10,?_,R12,R14,R16,R18,?_⟩) (λ R1=>⟨R1,?_,?_⟩) ⟨?_,?_,?_,?_⟩ (λ R20 R21=>⟨R20,R21,?_,?_,?_,?_,?_,?_,?_⟩) (λ R22=>⟨R22,?_,?_,?_,?_⟩) ⟨?_,?_,?_,?_,?_,?_,?_⟩ (λ R19 R23 R24=>⟨R19,R23,R24,?_,?_⟩) (λ R23=>⟨R23,?_,?_,?_,?_,?_,?_,?_,?_,?_,?_,?_,?_,?_,?_⟩) ⟨?_,?_,?_,?_,?_,?_,?_,?_,?_⟩ (λ R25 R26 R27=>⟨R25,R26,R27,?_,?_,?_,?_,?_,?_,?_,?_⟩) (λ R28=>⟨R28,?_,?_,?_,?_,?_,?_,?_,?_,?_,?_,?_,?_,?_,?_,?_⟩)
  (case a=>k_is);(case l=>k_is);(case c=>k_is);(case k=>k_is)
  all_goals try (refine' K24.Ck.ers ?_ ?_ ?_ ?_ ?_ ?_ ?_ ?_ ?_ ?_ ?_ ?_ ?_ ?_ ?_ ?_ ?_ ?_ ?_ ?_ ?_ ?_ ?_ ?_ ?_ ?_ ?_ ?_ ?_ ?_)
  all_goals try (refine' mg_of KX G ?_;k_is)
  all_goals try (refine' PySem.W.mg_none_of KX G ?_;k_is)
  all_goals try (refine' K24.Ck.nI KX G ?a;case a=>k_is)
  all_goals try ((first|(refine' ⟨_,_,L2.fun_mk ?l ?c ?k,mg_of KX G ?a,.all ?b⟩;case a=>k_is)|(refine' ⟨_,_,L2.fun_mk ?l ?c ?k,⟨?a,?i,?k⟩,.all ?b⟩;(case a=>k_is);case i=>k_is));(case l=>k_is);(case c=>k_is);(case k=>k_is);(case b=>first|exact K24.Ck.m0 rfl|exact K24.Ck.mS λ _=>K24.Ck.m0 rfl|exact K24.Ck.mS λ _=>K24.Ck.mS λ _=>K24.Ck.m0 rfl|exact K24.Ck.mS λ _=>K24.Ck.mS λ _=>K24.Ck.mS λ _=>K24.Ck.m0 rfl|exact K24.Ck.mS λ _=>K24.Ck.mS λ _=>K24.Ck.mS λ _=>K24.Ck.mS λ _=>K24.Ck.m0 rfl))
  all_goals try (refine' K24.Ck.inI ?l1 ?c1 ?k1 ?e1 (.all ?b1) ?m1 ?a1 ?i1 ?q1;(case a1=>k_is);(case l1=>k_is);(case c1=>k_is);(case k1=>k_is);(case m1=>k_is);(case i1=>k_is);(case q1=>k_is);(case e1=>rfl);(case b1=>first|exact K24.Ck.m0 rfl|exact K24.Ck.mS λ _=>K24.Ck.m0 rfl|exact K24.Ck.mS λ _=>K24.Ck.mS λ _=>K24.Ck.m0 rfl|exact K24.Ck.mS λ _=>K24.Ck.mS λ _=>K24.Ck.mS λ _=>K24.Ck.m0 rfl|exact K24.Ck.mS λ _=>K24.Ck.mS λ _=>K24.Ck.mS λ _=>K24.Ck.mS λ _=>K24.Ck.m0 rfl))
  all_goals try ((first|refine' K24.Ck.fdI KX G ?a ?l ?c ?k ?b ?d|refine' K24.Ck.flI KX G ?a ?l ?c ?k ?b ?d|refine' K24.Ck.fkI KX G ?a ?l ?c ?k ?b ?d|refine' K24.Ck.fcI KX G ?a ?l ?c ?k ?b ?d);(case a=>k_is);(case l=>k_is);(case c=>k_is);(case k=>k_is);(case b=>refine' K24.Ck.b2 λ s _ _ hX=>binds_K hX ?x ?t ?y ?z ?w;(case x=>rfl);(case t=>k_is);(case y=>rfl);(case z=>rfl);case w=>rfl);(case d=>refine' K24.Ck.b1 λ s _ hX=>binds_K hX ?x ?t ?y ?z ?w;(case x=>rfl);(case t=>k_is);(case y=>rfl);(case z=>rfl);case w=>rfl))
  all_goals try (refine' K24.Ck.ciI ?l2 ?c2 ?k2 ?d2 ?m2 ?a2 ?i2 ?q2;(case a2=>k_is);(case l2=>k_is);(case c2=>k_is);(case k2=>k_is);(case m2=>k_is);(case i2=>k_is);(case q2=>k_is);(case d2=>refine' K24.Ck.b2 λ s _ _ hX=>binds_K hX ?x ?t ?y ?z ?w;(case x=>rfl);(case t=>k_is);(case y=>rfl);(case z=>rfl);case w=>rfl))
  all_goals try (refine' K24.Ck.cdI ?l3 ?c3 ?k3 ?d3 ?m3 ?a3 ?i3 ?q3;(case a3=>k_is);(case l3=>k_is);(case c3=>k_is);(case k3=>k_is);(case m3=>k_is);(case i3=>k_is);(case q3=>k_is);(case d3=>refine' K24.Ck.b1 λ s _ hX=>binds_K hX ?x ?t ?y ?z ?w;(case x=>rfl);(case t=>k_is);(case y=>rfl);(case z=>rfl);case w=>rfl))
  all_goals try k_is
  all_goals try (refine' K24.Ck.tabI KX G ?a ?l ?s;(case a=>k_is);(case l=>k_is);case s=>rfl)
  all_goals try (refine' K24.Ck.markI KX G ?a ?l;(case a=>k_is);case l=>k_is)
  all_goals try (first|refine' K24.Ck.Exc1.mk ?_ ?_ ?_|refine' L2.Cls.mk ?_ ?_ ?_ ?_|refine' L2.MkB.mk ?_ ?_ ?_|refine' L2.ExI.mk ?_ ?_ ?_ ?_ ?_ ?_ ?_ ?_|unfold L2.NoAttr)
  all_goals try k_is
  all_goals try ((first|refine' K24.Ck.b2 λ s _ _ hX=>binds_K hX ?x ?t ?y ?z ?w|refine' K24.Ck.b1 λ s _ hX=>binds_K hX ?x ?t ?y ?z ?w);(case x=>rfl);(case t=>k_is);(case y=>rfl);(case z=>rfl);case w=>rfl)
  all_goals try (first|exact K24.Ck.m0 rfl|exact K24.Ck.mS λ _=>K24.Ck.m0 rfl|exact K24.Ck.mS λ _=>K24.Ck.mS λ _=>K24.Ck.m0 rfl|exact K24.Ck.mS λ _=>K24.Ck.mS λ _=>K24.Ck.mS λ _=>K24.Ck.m0 rfl|exact K24.Ck.mS λ _=>K24.Ck.mS λ _=>K24.Ck.mS λ _=>K24.Ck.mS λ _=>K24.Ck.m0 rfl)
  all_goals try unfold L2.ExC
  all_goals try kernel_rfl
  all_goals decide
 case hC=>intro w;kernel_rfl

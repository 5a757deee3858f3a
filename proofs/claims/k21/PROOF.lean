import PyProof.Rows.All
import KE.KFromBytes
import KE.KIsAll
import Wide.FinOn
import Open.Pieces
import OpenK.KLine
import PyProof.EqAt
import PyProof.EqKinds
import PyProof.TupleCall
import PyProof.Seq
import PyProof.RangeIter
import PyProof.TupleIter
import PyProof.Rows.TupIter
import PyProof.StationsW
import PyProof.ExcClass2
import PyProof.NeKinds
import PyProof.Rows.TupMore
import PyProof.AutoSeq1
import PyProof.ZipIter
import PyProof.StrWalks
import PyProof.StrBlock2
import PyProof.StrBlockI
import PyProof.StrLaws
import PyProof.SliceStr2
import PyProof.Rows.Range3
import PyProof.Rows.StrRev
import PyProof.ConsumeWalk
import PyProof.Rows.SortShellK
import PyProof.Rows.SortRev
import PyProof.SeqI3
import PyProof.Rows.SeqGen
import PyProof.Rows.SortRunsK
import KE.KEqDict
import KE.KLam
import KE.KMinKey
import KE.KNestM
import PyProof.FString
import Lean
import PySem.Challenge.RW_balepress_k21_bodies_refused
noncomputable section
set_option bootstrap.genMatcherCode false
open PySem renaming Addr → FR, Value → FS, Shared → FT, Program → FU, World → FV, FuncData → FW, Around → FX, Heap → FY, Expr → FZ, Obj → F1, Stmt → F5
open PySem.W (mg_of instObj methodObj Frag lookIn InstAt plainGet hasDictIn findIn handedIn isFn plainOver takerIn makesIn typeIn InitBack emptyDict make_core Looks keepIn specialIn takesIn mroIn kitOne kitx_list kitx_dict fnOf codeIn codeRec_of excIn clsIn findObj KitX oi_run kitMeta CodeHd nsIn binds_K)
def Z9 {p:Prop}(h:p:=by decide):p:=h
def Z8 {p:Prop}(h:p:=by decide+kernel):p:=h
def Z7 {p:Prop}(h:p:=by rfl):p:=h
def Z6 {p:Prop}(h:p:=by simp):p:=h
def Z5 {p:Prop}(h:p:=by lia):p:=h
def Z4 {p:Prop}(h:p:=by omega):p:=h
def Z3 {p:Prop}(h:p:=by intro _;rfl):p:=h
def Z2 {p:Prop}(h:p:=by first|exact .inl rfl|exact .inr rfl|assumption):p:=h
def Z1 {p:Prop}(h:p:=by intro _ _ _ _ h;(repeat obtain⟨_,h⟩:=h)<;>subst_vars<;>rfl):p:=h
def ZU {p:Prop}(h:p:=by first|exact .inl rfl|exact .inr (.inl rfl)|exact .inr (.inr rfl)):p:=h
def ZT:=ZU._auto_1
def Z0:=Z7._auto_1
def ZZ:=Z9._auto_1
def ZY:=Z8._auto_1
def ZX:=Z3._auto_1
def ZW:=Z2._auto_1
def ZV:=Z1._auto_1
set_option Elab.async false
set_option linter.all false
set_option maxRecDepth 100000
abbrev Aa:=@List.length_map
abbrev Ab:=@PySem.wpAny_bind
abbrev Ac:=@List.length_append
abbrev Ad:=@List.getElem?_eq_getElem
abbrev Ae:=@decide_eq_true
abbrev Af:=@List.getElem?_eq_some_iff
abbrev Ai:=@Nat.le_trans
abbrev Aj:=@PySem.Heap.get?_push_of_some
abbrev Ak:=@Nat.le_refl
abbrev Al:=@List.length_replicate
abbrev Am:=@of_decide_eq_true
abbrev An:=@List.append_assoc
abbrev Ap:=@Nat.lt_of_lt_of_le
abbrev Aq:=@List.length_take
abbrev Ar:=@List.length_cons
abbrev As:=@List.mem_singleton
abbrev Au:=@List.length_drop
abbrev Av:=@Nat.lt_of_lt_of_eq
abbrev Aw:=@List.map_append
abbrev Ax:=@Bool.false_ne_true
abbrev Ay:=@PySem.boot_len
abbrev Az:=@List.mem_cons_of_mem
abbrev AA:=@PySem.Heap.lt_size
abbrev AB:=@List.mem_cons
abbrev AC:=@List.size_toArray
abbrev AD:=@List.mem_append_right
abbrev AE:=@List.mem_cons_self
abbrev AG:=@PySem.wpAny_pure
abbrev AH:=@if_neg
abbrev AI:=@PySem.Heap.get?_update_other
abbrev AJ:=@Option.some.inj
abbrev AK:=@if_pos
abbrev AL:=@List.filter_cons_of_pos
abbrev AM:=@Int.toNat_natCast
abbrev AN:=@PySem.Heap.get?_push_size
abbrev AO:=@List.getD_eq_getElem?_getD
abbrev AQ:=@List.filter_append
abbrev AR:=@List.mem_append
abbrev AS:=@List.filter_cons_of_neg
abbrev AT:=@List.take_length
abbrev AU:=@List.getElem?_map
abbrev AV:=@PySem.PassesOwn.never
abbrev AX:=@List.mem_of_getElem?
abbrev AY:=@List.getElem?_append_right
abbrev AZ:=@Nat.le_of_ble_eq_true
abbrev A1:=@Nat.zero_le
abbrev A2:=@Nat.lt_or_ge
abbrev A3:=@List.take_of_length_le
abbrev A4:=@List.getElem?_eq_none
abbrev A5:=@Nat.le_of_eq
abbrev A6:=@PySem.wpAny_field
abbrev A7:=@Nat.ne_of_lt
abbrev A8:=@Nat.le_antisymm
abbrev A9:=@PySem.Heap.get?_update_self
abbrev Bb:=@PySem.mem_of_lookup
abbrev Bc:=@PySem.F.plainAttrs_list
abbrev Be:=@Nat.lt_of_le_of_lt
abbrev Bf:=@Array.getElem?_eq_some_iff
abbrev Bg:=@List.getElem?_append_left
abbrev Bh:=@List.replicate_succ
abbrev Bj:=@List.nil_append
abbrev Bl:=@List.take_add_one
abbrev Bm:=@List.mem_append_left
abbrev Bn:=@List.take_append_drop
abbrev Bp:=@PySem.F.slot_list_append
abbrev Bq:=@PySem.Obj.data_mapFields
abbrev Br:=@PySem.wpAny_mono
abbrev Bs:=@Nat.sub_succ_lt_self
abbrev Bt:=@decide_eq_false
abbrev Bu:=@Nat.min_eq_left
abbrev Bv:=@List.append_nil
abbrev Bx:=@congrArg
abbrev By:=@PySem.F.type_list_append
abbrev Bz:=@List.map_cons
abbrev BB:=@PyProof.Rows.boot_isinstance
abbrev BC:=@PySem.wpAny_setField
abbrev BD:=@Nat.le_add_right_of_le
abbrev BE:=@Nat.mul_comm
abbrev BF:=@Nat.le_of_not_lt
abbrev BG:=@Int.natCast_nonneg
abbrev BH:=@List.mem_map
abbrev BI:=@PySem.wpAny_holding
abbrev BJ:=@PySem.Obj.isFreed_of_fields
abbrev BK:=@Nat.lt_irrefl
abbrev BL:=@List.getElem_mem
abbrev BM:=@Nat.le_add_right
abbrev BN:=@PySem.wpAny_Call_Name_kw
abbrev BO:=@List.map_map
abbrev BQ:=@Nat.min_le_right
abbrev BS:=@Nat.sub_lt_of_lt
abbrev BU:=@List.filter_eq_nil_iff
abbrev BV:=@Nat.mul_assoc
abbrev BW:=@Nat.add_assoc
abbrev BX:=@List.pairwise_cons
abbrev BY:=@List.eq_of_mem_replicate
abbrev BZ:=@Nat.pow_succ
abbrev B0:=@PySem.W.kia_one
abbrev B1:=@PySem.Heap.SameBut.update
abbrev B4:=@Nat.le_of_lt_succ
abbrev B5:=@List.ext_getElem?
abbrev B7:=@Ne.symm
abbrev B8:=@PySem.wpAny_callSpecial?_slot
abbrev B9:=@Nat.le_of_lt
abbrev Ca:=@List.getElem?_set_self
abbrev Cb:=@List.mem_filter
abbrev Cc:=@List.drop_eq_getElem_cons
abbrev Cf:=@List.pairwise_iff_getElem
abbrev Cg:=@Nat.mul_le_mul_left
abbrev Ch:=@Array.length_toList
abbrev Cj:=@Nat.add_sub_of_le
abbrev Cm:=@List.singleton_append
abbrev Cn:=@List.drop_drop
abbrev Cq:=@le_of_eq_of_le
abbrev Cr:=@Nat.add_sub_cancel_left
abbrev Cs:=@List.length_eq_zero_iff
abbrev Ct:=@PyProof.Rows.callWith_type1
abbrev Cv:=@Nat.pow_le_pow_right
abbrev Cw:=@List.mem_iff_getElem
abbrev Cy:=@PyProof.Rows.boot_list
abbrev Cz:=@Nat.le_of_succ_le
abbrev CA:=@PySem.PassesOwn.leaving
abbrev CC:=@PySem.wpAny_loadPart_at
abbrev CD:=@PySem.wpAny_isSubtype_exc
abbrev CF:=@PyProof.Rows.wpS_pure
abbrev CH:=@Bool.false_eq_true
abbrev CI:=@Nat.mod_eq_of_lt
abbrev CJ:=@Nat.min_eq_right
abbrev CK:=@List.count_eq_zero_of_not_mem
abbrev CM:=@List.getElem?_set_ne
abbrev CN:=@Nat.exists_eq_add_of_le
abbrev CO:=@PySem.wpAny_attempt
abbrev CP:=@List.count_append
abbrev CQ:=@List.flatten_cons
abbrev CS:=@List.length_range
abbrev CT:=@List.sum_append
abbrev CU:=@Option.map_some
abbrev CV:=@beq_eq_false_iff_ne
abbrev CW:=@PySem.wpAny_call_entry
abbrev CY:=@Nat.lt_of_le_of_ne
abbrev CZ:=@of_decide_eq_false
abbrev C4:=@PyProof.Rows.boot_max
abbrev C5:=@PySem.W.callWith_K
abbrev C6:=@Nat.mul_add
abbrev C7:=@List.mem_range
abbrev C8:=@List.getElem_append_right
abbrev Da:=@List.reverse_reverse
abbrev Db:=@Nat.min_le_left
abbrev Dc:=@Nat.not_lt_zero
abbrev Dd:=@PySem.wpAny_truthy_bool
abbrev De:=@PySem.wpAny_passesOwn
abbrev Df:=@Array.getElem?_setIfInBounds_ne
abbrev Dg:=@Array.size_setIfInBounds
abbrev Dh:=@List.getElem_take
abbrev Dj:=@PySem.codeAny_mono
abbrev Dk:=@Nat.and_two_pow_sub_one_eq_mod
abbrev Dl:=@Nat.pow_add
abbrev Dm:=@List.getElem?_replicate
abbrev Dn:=@List.getElem?_range
abbrev Do:=@PySem.Heap.get?_update_ne
abbrev Dp:=@PySem.wpAny_standAt
abbrev Dq:=@List.length_reverse
abbrev Dr:=@Nat.lt_succ_self
abbrev Dt:=@List.take_append
abbrev Du:=@List.perm_middle
abbrev Dv:=@PySem.wpAny_isInstance
abbrev Dw:=@List.mem_reverse
abbrev Dy:=@List.drop_eq_nil_of_le
abbrev Dz:=@List.getElem?_drop
abbrev DA:=@Nat.zero_add
abbrev DB:=@Nat.add_zero
abbrev DC:=@List.count_cons
abbrev DD:=@Nat.le_succ
abbrev DE:=@List.length_filter_le
abbrev DF:=@Nat.sub_self
abbrev DG:=@Nat.add_lt_of_lt_sub'
abbrev DH:=@Nat.ne_of_gt
abbrev DI:=@PySem.wpAny_execs_nil
abbrev DJ:=@List.find?_cons
abbrev DK:=@List.take_sublist
abbrev DL:=@List.sum_cons
abbrev DM:=@Int.ofNat_sub
abbrev DN:=@PySem.Paired.length
abbrev DO:=@PySem.wpAny_newObj_type
abbrev DP:=@List.mem_of_mem_drop
abbrev DQ:=@List.mem_of_mem_take
abbrev DR:=@Nat.add_le_add_right
abbrev DS:=@PySem.W.looks_findIn
abbrev DT:=@List.perm_cons_erase
abbrev DU:=@List.pairwise_append
abbrev DV:=@List.take_zero
abbrev DW:=@PySem.Heap.size_push
abbrev DX:=@PySem.isSubtype_stop
abbrev DY:=@List.filter_cons
abbrev DZ:=@Nat.succ_le_succ
abbrev D1:=@Bool.and_eq_true
abbrev D2:=@Int.lt_of_not_ge
abbrev D3:=@Nat.pow_pos
abbrev D4:=@PySem.sizeLine_eq
abbrev D5:=@List.map_congr_left
abbrev D7:=@PySem.W.callWith_K0
abbrev D8:=@Int.ofNat_lt
abbrev D9:=@Nat.lt_trans
abbrev Ea:=@PySem.wpAny_rule
abbrev Ec:=@PySem.wpAny_call
abbrev Ed:=@beq_iff_eq
abbrev Ee:=@PySem.wpAny_comprehension_free
abbrev Ef:=@List.getElem_append_left
abbrev Eg:=@Nat.add_le_add_iff_left
abbrev Eh:=@List.map_take
abbrev Ei:=@Nat.lt_add_of_pos_right
abbrev Ej:=@List.count_pos_iff
abbrev Ek:=@List.length_set
abbrev El:=@PyProof.Rows.boot_tuple
abbrev Em:=@List.map_replicate
abbrev En:=@List.of_mem_zip
abbrev Eo:=@List.cons.inj
abbrev Ep:=@PyProof.Rows.listUpdate_at
abbrev Er:=@Bool.eq_iff_iff
abbrev Es:=@List.nodup_cons
abbrev Et:=@PySem.tupleKind_room_in1
abbrev Eu:=@List.contains_cons
abbrev Ew:=@PySem.slot_listiter_next
abbrev Ex:=@PyProof.noPylong_small
abbrev Ey:=@PySem.F.slot_list_extend
abbrev Ez:=@PySem.W.cellsFrom_some
abbrev EA:=@PySem.Heap.size_after_update
abbrev EB:=@Nat.add_mul
abbrev ED:=@List.foldl_append
abbrev EE:=@List.pairwise_map
abbrev EF:=@Nat.sub_le
abbrev EG:=@List.getElem_drop
abbrev EH:=@List.drop_zero
abbrev EI:=@PyProof.Rows.boot_int
abbrev EJ:=@PyProof.Rows.boot_min
abbrev EK:=@PySem.W.methodCall_KW
abbrev EL:=@Nat.add_comm
abbrev EM:=@PySem.codeAny_handlers_test
abbrev EN:=@List.mem_of_mem_erase
abbrev EO:=@PyProof.Rows.wpS_forRange
abbrev EQ:=@Nat.div_eq_of_lt
abbrev ER:=@List.exists_mem_of_length_pos
abbrev ES:=@List.all_eq_true
abbrev ET:=@List.take_append_of_le_length
abbrev EU:=@List.map_snd_zip
abbrev EV:=@PySem.W.any_some
abbrev EW:=@Nat.le_of_not_ge
abbrev EX:=@Nat.le_sub_one_of_lt
abbrev EY:=@PySem.Calls.evalArgs_plain
abbrev EZ:=@Nat.sub_one_lt_of_lt
abbrev E1:=@Nat.sub_le_sub_right
abbrev E3:=@List.map_drop
abbrev E4:=@mg_of
abbrev E5:=@List.any_cons
abbrev E6:=@List.filter_map
abbrev E7:=@List.range_succ
abbrev E8:=@List.length_zip
abbrev E9:=@List.mem_map_of_mem
abbrev Fa:=@List.filterMap_cons
abbrev Fb:=@PySem.W.plainGet_of
abbrev Fc:=@List.length_nil
abbrev Fd:=@PySem.wpAny_handleBy_cons
abbrev Fe:=@PySem.codeAny_builtin
abbrev Ff:=@PySem.F.slot_enumerate_next
abbrev Fg:=@List.reverse_append
abbrev Fh:=@Nat.mod_mul_right_div_self
abbrev Fi:=@Int.fdiv_eq_ediv_of_nonneg
abbrev Fj:=@PySem.F.excBase_ValueError
abbrev Fk:=@List.map_nil
abbrev Fl:=@List.getElem?_take
abbrev Fm:=@List.count_eq_zero
abbrev Fo:=@PySem.Calls.Constant_str
abbrev Fp:=@PySem.Calls.spliced_cons
abbrev Fq:=@Bool.false_and
abbrev Fs:=@List.drop_take
abbrev Ft:=@Nat.add_le_add
abbrev Fu:=@Nat.lt_succ_of_lt
abbrev Fv:=@Nat.lt_succ_of_le
abbrev Fw:=@List.getElem?_set
abbrev Fx:=@PySem.Calls.spliced_nil
abbrev Fy:=@Bool.not_eq_true'
abbrev Fz:=@Option.isSome_map
abbrev FA:=@Nat.mul_left_comm
abbrev FB:=@Nat.lt_of_succ_le
abbrev FC:=@Nat.add_sub_assoc
abbrev FD:=@List.perm_nil
abbrev FE:=@List.drop_length
abbrev FG:=@PySem.W.makes_of
abbrev FH:=@List.cons_append
abbrev FJ:=@Nat.max_eq_right
abbrev FK:=@List.map_const'
abbrev FL:=@Int.natCast_pos
abbrev FM:=@Bool.or_true
abbrev FN:=@Nat.not_lt
abbrev FO:=@Nat.lt_add_one
abbrev FP:=@Eq.symm
abbrev FQ:=@Int.one_mul
abbrev _root_.Jaa:List PySem.Str:=["thing","least","most"]
abbrev _root_.Jab:List PySem.Str:=["self","bits","text","before"]
abbrev _root_.Jac:List PySem.Str:=["self","reader","count","before"]
abbrev _root_.Jad:List PySem.Str:=["text","before"]
abbrev _root_.Jae:List PySem.Str:=["lengths"]
abbrev _root_.Jaf:List PySem.Str:=["thing"]
abbrev _root_.Jag:List PySem.Str:=["_law_way","_law_digits_here","_law_count","_law_window"]
abbrev _root_.Jah:List PySem.Str:=["self"]
abbrev _root_.Jai:List PySem.Str:=["_law_cell","_law_signs","_law_room","_law_ahead"]
abbrev _root_.Jaj:List PySem.Str:=["_law_cell","_law_there","_law_room"]
abbrev _root_.Jak:List PySem.Str:=["size"]
abbrev _root_.Jal:List PySem.Str:=["before","most"]
abbrev _root_.Jam:List PySem.Str:=["counts","most"]
abbrev _root_.Jan:List PySem.Str:=["_law_cell","_law_way","_law_signs","_law_room","_law_ahead"]
section
set_option hygiene false
local macro_rules|`(↑$x)=>`(some (.ref $x))
local macro_rules|`(↥$x)=>`(some (.lst $x))
local macro_rules|`(⇑$x)=>`((($x :Nat):Int))
local macro_rules
 |`('c')=>`(List Nat)
 |`('d')=>`((model X.prog X.w))
 |`('e')=>`(autoParam ((x==("__debug__":Str))=false) ZZ)
 |`('f')=>`((by intro z;cases z))
 |`('g')=>`(some o)
 |`('i')=>`((s.heap.push {cls:=.type "list_iterator",data:=.fields #[.ref l,.int 0 0]}))
 |`('j')=>`((Obj.mapFields (·.setIfInBounds 1 (Value.ref g1.objs.size))))
 |`('k')=>`(autoParam (starEach (e::es) X.env=(false,eval e X.env)::starEach es X.env) Z0)
 |`('l')=>`((model prog w))
local macro_rules
 |`('a' $x*)=>`(Gb P w K mg base $x*)
 |`('b' $x*)=>`(Inv X F6 σ H $x*)
 |`('h' $x*)=>`(Fn K mg $x*)
local macro_rules
 |`(tactic|intro 'a')=>`(tactic|(intro F8 A outer st H vs Q E hr h _))
 |`(tactic|intro 'b')=>`(tactic|(intro F8 A outer s H vs Q E hr h _))
 |`(tactic|intro 'c')=>`(tactic|(intro X hP hw hK hc i F6 s σ H E I hf st hg;subst hP hw hK))
namespace QQ
open PySem PyProof.Rows
def Cx2 (h:FY)(a:FR)(vs:Array FS):Prop:=vs[2]?=some Value.none\/∃b ob us,vs[2]?=↑b/\b≠a/\h.get? b=some ob/\ob.data=.fields us/\6≤us.size/\us[2]?=some Value.none
def Hq (A:FX)(h:FY):Prop:=A.handled=none\/∃a o vs,A.handled=↑a/\h.get? a='g'/\o.data=.fields vs/\6≤vs.size/\Cx2 h a vs
def Hq.keep {A:FX}{h h':FY}(q:Hq A h)(k:∀a o vs,h.get? a='g'->o.data=.fields vs->6≤vs.size->h'.get? a='g'):Hq A h':=by
 rcases q with q|⟨a,o,vs,e,g,d,z,c⟩
 ·exact .inl q
 ·refine .inr ⟨a,o,vs,e,k a o vs g d z,d,z,?_⟩;rcases c with c|⟨b,ob,us,e1,n,e2,e3,e4,e5⟩
  ·exact .inl c
  ·exact .inr ⟨b,ob,us,e1,n,k b ob us e2 e3 e4,e3,e4,e5⟩
def fZ:entryFor table "proto.unchain"=some Builtin.«proto.unchain»:=entryFor_of_fast (by kernel_rfl)
def m6 (hq:Hq A h0)(hk:∀b o,h0.get? b='g'->s.heap.get? b='g'/\b≠e)(he:s.heap.get? e=some oe)(hd:oe.data=.fields vs)(hz:2<vs.size)
  (h:∀h' o',h'.get? e=some o'->o'.cls=oe.cls->Heap.SameBut e s.heap h'->E (.ref e) {s with heap:=h'}):wpAny (model prog w) A (raiseNew (.ref e):Sem α) Q E s:=by
 unfold raiseNew;refine Ab (wpAny_handled ?_);rcases hq with q|⟨a,o,us,ea,ga,da,zz,za⟩
 ·rw [q];exact Ab (AG (wpAny_throw (h s.heap oe he rfl (Heap.SameBut.refl ..))))
 ·rw [ea];obtain⟨ga,nae⟩:=hk a o ga;have ne:(Value.ref a !=Value.ref e)=true:=by simp [bne,nae]
  show wpAny _ _ (if(Value.ref a !=Value.ref e)=true then _ else _) _ _ _;rw [AK ne];have fin:wpAny 'l' A (updateField e 2 (.ref a)>>= λ _=>throw (.ref e)) Q E s:=by
   refine Ab (BC he hd hz ?_:wpAny _ _ (setField (.ref e) 2 (.ref a)) _ _ s);exact wpAny_throw (h _ _ (A9 _ he (BJ (Bq hd _))) (Obj.cls_mapFields _ _) (B1 ..))
  refine Ab (BI (wpAny_runValue (Fe fZ ?_)));show wpAny _ _ (field (.ref a) 2>>= _) _ _ s;rcases za with za|⟨b,ob,vb,eb,nb,gb,db,sz,zb⟩
  ·refine Ab (A6 ga da za ?_);show wpAny _ _ (if(Value.none==Value.none)=true then _ else _) _ _ s;rw [AK Z7];refine Ab (AG (AG ?_));exact fin
  ·obtain⟨gb,nbe⟩:=hk b ob gb;refine Ab (A6 ga da eb ?_);have n1:(Value.ref b==Value.none)=false:=rfl;have n2:(Value.ref b==Value.ref e)=false:=by simp [nbe]
   have n3:(Value.ref b==Value.ref a)=false:=by simp [nb]
   simp only [n1,n2,n3,CH,if_false];refine Ab (AG (AG ⟨Code.quiet_builtin _ Z8,Fe fZ ?_⟩));show wpAny _ _ (field (.ref b) 2>>= _) _ _ s;refine Ab (A6 gb db zb ?_);show wpAny _ _ (if(Value.none==Value.none)=true then _ else _) _ _ s;rw [AK Z7];refine Ab (AG (AG ?_));exact fin
def cW {prog:FU}(hq:Hq A s.heap)
  (h:∀h' e,(∀b o,s.heap.get? b='g'->h'.get? b='g')->(∃o,h'.get? e='g'/\o.cls=.type "StopIteration")->E' (.ref e) {s with heap:=h'}):
  wpAny 'l' A (newExc (.type "StopIteration") []>>= λ v=>(raiseNew v:Sem α)) R E' s:=by
 refine Ab ?_;simp only [newExc,newTuple];refine Ab (DO ?_ (by size_fits));refine Ab (wpAny_of_eq (by first|rfl|(simp only [firstArgMember];rfl)) ?_);refine DO ?_ (by size_fits);have k2:∀b o,s.heap.get? b='g'->((s.heap.push {cls:=.type "tuple",data:=.seq ([]:List FS).toArray}).push {cls:=.type "StopIteration",data:=.fields (#[.ref s.heap.objs.size,.none,.none,.none,.bool false,.none]++ownMembersOf (.type "StopIteration") [])}).get? b='g':=
  λ b o e=>Aj _ (Aj _ e)
 refine m6 hq (λ b o e=>⟨k2 b o e,?_⟩) (AN _ rfl) rfl (by rw [Array.size_append];exact Ap (show 2<6 by decide) (BM _ _)) λ h' o' ge ce sb=>?_
 ·intro z;have:=AA e;rw [z,DW] at this;exact absurd this (FN.mpr (DD _))
 ·refine h h' _ (λ b o e=>sb.extBut b o (λ z=>?_) (k2 b o e)) ⟨o',ge,ce⟩;have:=AA e;rw [z,DW] at this;exact absurd this (FN.mpr (DD _))
def ja {h:FY}(g:h.get? it='g')(d:o.data=.fields vs)(z:vs.size<6)(g':h.get? a=some o')(d':o'.data=.fields us)(z':6≤us.size):a≠it:=by
 rintro rfl;rw [g] at g';cases g';rw [d] at d';cases d';lia
def LP {items}(hq:Hq A s.heap)
  (hit:s.heap.IsListIter it l i) (hl:s.heap.IsList l items) (hx:items[i]?=none)
  (hQ:∀h',Heap.ExtBut it s.heap h'->Q none {s with heap:=h'}):wpAny (model prog w) A (pyNext (.ref it)) Q E s:=by
 obtain⟨o,ho,hc,hd⟩:=id hit;obtain⟨ol,Rl,_,nl,Tt⟩:=hl;unfold pyNext;refine Ab (CO (B8 hit.typeIs Ew (CW Ew hit.typeIs entry_listiter_next ?_ (args_listiter_next _))));show wpAny _ _ (field (.ref it) 0>>= _) _ _ s;refine Ab (A6 ho hd rfl ?_);show wpAny _ _ (if(Value.ref l==Value.none)=true then _ else _) _ _ s;rw [AH (show¬((Value.ref l==Value.none)=true) from Ax)];show wpAny _ _ (field (.ref it) 1>>= _) _ _ s;refine Ab (A6 ho hd rfl ?_);show wpAny _ _ (seqItems? (.ref l)>>= _) _ _ s;refine Ab (wpAny_seqItems Rl Tt ?_);simp only [AM,hx];refine Ab (Ea (Ab (BC ho hd Z6 ?_)));have LS:=B1 (h:=s.heap) it (Obj.mapFields (·.setIfInBounds 0 Value.none));refine cW (hq.keep λ a o' us e d' z'=>LS.extBut a o' (ja ho hd Z6 e d' z') e) λ h' e k z9=>?_
 obtain⟨o',ge,ce⟩:=z9;refine Ab (Dv ⟨_,ge,ce⟩ DX ?_);exact AG (hQ _ λ b ob hb e1=>k b ob (LS.extBut b ob hb e1))
def IQ {items}(hq:Hq A s.heap)
  (hit:s.heap.IsTupleIter it t i) (ht:s.heap.IsTuple t items) (hx:items[i]?=none)
  (hQ:∀h',Heap.ExtBut it s.heap h'->Q none {s with heap:=h'}):wpAny (model prog w) A (pyNext (.ref it)) Q E s:=by
 obtain⟨o,ho,hc,hd⟩:=id hit;obtain⟨ol,Rl,_,nl,Tt⟩:=ht;unfold pyNext;refine Ab (CO (B8 hit.typeIs F.slot_tuple_iterator_next (CW F.slot_tuple_iterator_next hit.typeIs F.entry_tuple_iterator_next ?_ (F.args_tuple_iterator_next_1 _))));show wpAny _ _ (field (.ref it) 0>>= _) _ _ s;refine Ab (A6 ho hd rfl ?_);show wpAny _ _ (if(Value.ref t==Value.none)=true then _ else _) _ _ s;rw [AH (show¬((Value.ref t==Value.none)=true) from Ax)];show wpAny _ _ (field (.ref it) 1>>= _) _ _ s;refine Ab (A6 ho hd rfl ?_);show wpAny _ _ (seqItems? (.ref t)>>= _) _ _ s;refine Ab (wpAny_seqItems Rl Tt ?_);simp only [AM,hx];refine Ab (Ea (Ab (BC ho hd Z6 ?_)));have LS:=B1 (h:=s.heap) it (Obj.mapFields (·.setIfInBounds 0 Value.none));refine cW (hq.keep λ a o' us e d' z'=>LS.extBut a o' (ja ho hd Z6 e d' z') e) λ h' e k z9=>?_
 obtain⟨o',ge,ce⟩:=z9;refine Ab (Dv ⟨_,ge,ce⟩ DX ?_);exact AG (hQ _ λ b ob hb e1=>k b ob (LS.extBut b ob hb e1))
def IU {x left step:Int}(hq:Hq A s.heap)(hit:IsRangeIter s.heap it x left step)(Ve:left≤0)
  (hQ:∀h',Heap.ExtBut it s.heap h'->Q none {s with heap:=h'}):wpAny (model prog w) A (pyNext (.ref it)) Q E s:=by
 have hT:s.TypeIs (.ref it) "range_iterator":=⟨_,hit,rfl⟩;unfold pyNext;refine Ab (CO (B8 hT F.slot_range_iterator_next (CW F.slot_range_iterator_next hT F.entry_range_iterator_next ?_ (F.args_range_iterator_next_1 _))));show wpAny _ _ (field (.ref it) 0>>= _) _ _ s;refine Ab (A6 hit rfl rfl ?_);show wpAny _ _ (field (.ref it) 1>>= _) _ _ s;refine Ab (A6 hit rfl rfl ?_);show wpAny _ _ (field (.ref it) 2>>= _) _ _ s;refine Ab (A6 hit rfl rfl ?_);show wpAny _ _ (if left≤0 then _ else _) _ _ s;rw [AK Ve];refine Ab (Ea (Ab ?_));refine cW hq λ h' e k z9=>?_
 obtain⟨o',ge,ce⟩:=z9;refine Ab (Dv ⟨_,ge,ce⟩ DX ?_);exact AG (hQ _ λ b ob hb e1=>k b ob e1)
def jJ (hq:Hq A s.heap)(ht:IsTup s.heap t items)
  (hQ:∀h',Heap.ExtBut s.heap.objs.size s.heap h'->Q items.toList {s with heap:=h'}):wpAny (model prog w) A (unpackItems (.ref t) items.size none) Q E s:=by
 have nt:t≠s.heap.objs.size:=by obtain⟨o,ho,_⟩:=ht;exact A7 (AA ho)
 unfold unpackItems;refine Ab ?_;unfold notIterableAtAll;refine Ab (wpAny_specialOf ht.typeIs slot_tuple_iter.lookup (AG ?_));simp only [CH,if_false];refine Ab (BI (iter_tuple ht (Ab (BI (draw_tuple nt items.size 0 _ _ ⟨_,AN _ rfl,rfl,rfl⟩ (ht.push _) Z5 λ g1 i1 b1=>?_)))));rw [show List.take items.size (List.drop 0 items.toList)=items.toList by rw [EH];exact A3 Z6,AH Z6];have k1:∀b o,b≠s.heap.objs.size->s.heap.get? b='g'->g1.get? b='g':=λ b o hb e=>b1.extBut b o hb (Aj _ e)
 have q1:Hq A g1:=hq.keep λ a o _ e _ _=>k1 a o (A7 (AA e)) e
 have t1:IsTup g1 t items:=(ht.push _).extBut b1.extBut nt;refine Ab (BI (IQ q1 (show g1.IsTupleIter _ t _ from i1) (show g1.IsTuple t items from t1) Z6 λ g2 x2=>?_));simp only [Option.isSome_none,CH,if_false];exact AG (hQ g2 λ b o hb e=>x2 b o hb (k1 b o hb e))
def JH {x1}(hq:Hq A s.heap)(ht:IsTup s.heap t items)
  (hn:(assignEach elts env).length=items.size) (U8:(assignEach elts env).findIdx? (·.1)=none)
  (h:∀h',Heap.ExtBut s.heap.objs.size s.heap h'->wpAny 'l' A (assignInOrder ((assignEach elts env).map (·.2)) items.toList) Q E {s with heap:=h'}):
  wpAny 'l' A (assign (.Tuple elts x1 pos) env (.ref t)) Q E s:=by
 rw [assign_Tuple];refine Ab (Dp ?_);unfold unpack;rw [hn,U8];exact Ab (BI (jJ hq ht h))
noncomputable def exO (cls:FS) (vs:Array FS):F1:={cls:=cls,data:=.fields vs}
def Jn (h:FY)(e:FR)(cls:FS)(fp:List FR)(c:FS):Prop:=
 ∃vs,h.get? e=some (exO cls vs)/\(vs[2]?=some c/\6≤vs.size)/\((vs[1]?=some Value.none/\fp=[e])\/
  ∃T oT ts,vs[1]?=↑T/\T≠e/\h.get? T=some oT/\oT.data=.fields ts/\ts[3]?=some Value.none/\fp=[e,T])
def Jn.here {h:FY}(F:Jn h e cls fp c):e∈fp:=by
 obtain⟨vs,_,_,⟨_,r⟩|⟨T,oT,ts,_,_,_,_,_,r⟩⟩:=F<;>simp [r]
def Jn.keep {h h':FY}(F:Jn h e cls fp c)(k:∀b∈fp,∀o,h.get? b='g'->h'.get? b='g'):Jn h' e cls fp c:=by
 obtain⟨vs,g,z,⟨a,r⟩|⟨T,oT,ts,a,ne,gT,dT,zT,r⟩⟩:=F
 ·exact⟨vs,k e (by simp [r]) _ g,z,.inl ⟨a,r⟩⟩
 ·exact⟨vs,k e (by simp [r]) _ g,z,.inr ⟨T,oT,ts,a,ne,k T (by simp [r]) _ gT,dT,zT,r⟩⟩
def Jn.rec {h:FY}(F:Jn h e cls fp c):∀b∈fp,∃o vs,h.get? b='g'/\o.data=.fields vs:=by
 obtain⟨vs,g,z,⟨a,r⟩|⟨T,oT,ts,a,ne,gT,dT,zT,r⟩⟩:=F
 ·intro b hb;rw [r,As] at hb;subst hb;exact⟨_,vs,g,rfl⟩
 ·intro b hb;rw [r] at hb;rcases AB.mp hb with hb|hb
  ·subst hb;exact⟨_,vs,g,rfl⟩
  ·rw [As] at hb;subst hb;exact⟨oT,ts,gT,dT⟩
def Jn.made {h h':FY}(m:Heap.MadeExcOf h h' e cls args):Jn h' e cls [e] .none:=by
 obtain⟨t,ht,_⟩:=m.there;exact⟨_,ht,⟨rfl,by show(6:Nat)≤6;decide⟩,.inl ⟨rfl,rfl⟩⟩
def ie
    (Je:A.frames=some (env::outer)) (hl:s.heap.FunFrames base (env::outer)) (hf:env.frame=some L)
    (he:s.heap.get? e=some (exO cls vs)) (h1:1<vs.size) (h2:vs[2]?=some c/\6≤vs.size)
    (h:∀h' T,Jn h' e cls [e,T] c->s.heap.objs.size≤T->(∀b o,s.heap.get? b='g'->b≠e->b∉(env::outer).filterMap (·.frame)->h'.get? b='g')->
      (∀b o,s.heap.get? b='g'->b≠e->∃sl,h'.get? b=some {o with slots:=sl})->Q () {s with heap:=h'}):
    wpAny M A (do let a<-frameOf env;let pl<-entryPlaceOf L had;let b<-EntryCells.newEntry head a .none (rawInt L) .none pl;setField (.ref e) 1 b) (λ _ s'=>wpAny M A (setFlight (.ref e) none) Q E s') E s:=by
  have ne:e∉(env::outer).filterMap (·.frame):=λ hm=>by
    obtain⟨_,o,ho,SQ⟩:=hl.mem hm
    rw [he] at ho;cases ho
    exact SQ vs rfl
  refine Ab (wpAny_frameOf_fun Je hl hf λ g1 s1=>?_)
  refine Ab (wpAny_entryPlaceOf λ pl HZ=>?_)
  unfold EntryCells.newEntry newFields
  refine Ab (DO ?_ (HZ.sizeOk5 _ _ _ _ _))
  have hsz:g1.objs.size=s.heap.objs.size:=s1.1
  have PF:g1.get? e=some (exO cls vs):=(s1.2.1 e ne).trans he
  generalize hO:({cls:=.type "traceback",dict:=none,data:=.fields ([head,.ref L,.none,rawInt L,.none]++(if pl.isEmpty then List.replicate 6 Value.none else pl)).toArray}:F1)=oT
  have e3:∃ts,oT.data=.fields ts/\3<ts.size:=⟨_,by rw [<-hO],by simp only [AC,Ac,Ar,Fc];lia⟩
  have Jv:oT.isFreed=false:=by rw [<-hO];rfl
  clear hO
  obtain⟨ts,Iw,M7⟩:=e3
  have Kd:(g1.push oT).get? e=some (exO cls vs):=Aj _ PF
  have MQ:(g1.push oT).get? g1.objs.size=some oT:=AN g1 Jv
  have NH:g1.objs.size≠e:=DH (AA PF)
  refine BC Kd rfl h1 ?_
  have Qp:=A9 'j' Kd rfl
  have O0:=(AI (g1.push oT) 'j' (B7 NH)).trans MQ
  have KL:((g1.push oT).update e 'j').get? e=some (exO cls (vs.setIfInBounds 1 (Value.ref g1.objs.size))):=Qp
  unfold setFlight
  refine Ab (A6 KL rfl (x:=.ref g1.objs.size) (by simp [h1]) ?_)
  rw [AK (show(Value.ref g1.objs.size !=Value.none)=true from by simp)]
  refine BC O0 Iw M7 ?_
  have keep:∀b o,b≠e->g1.get? b='g'->(((g1.push oT).update e 'j').update g1.objs.size (Obj.mapFields (·.setIfInBounds 3 ((none:Option FR).elim Value.none λ f=>rawInt f)))).get? b='g':=λ b o hb q=>by
    rw [AI _ _ (DH (AA q)),AI _ _ (B7 hb)]
    exact Aj _ q
  refine h _ g1.objs.size ⟨vs.setIfInBounds 1 (Value.ref g1.objs.size),?_,?_,.inr ⟨g1.objs.size,_,_,?_,NH,A9 _ O0 (BJ (Bq Iw _)),Bq Iw _,?_,rfl⟩⟩ (A5 hsz.symm) (λ b o q hb hn=>?_) λ b o q hb=>?_
  · rw [AI _ _ NH];exact KL
  · rw [Df (by decide),Dg];exact h2
  · simp [h1]
  · simp [M7]
  · exact keep b o hb ((s1.2.1 b hn).trans q)
  · obtain⟨sl,e'⟩:=s1.2.2 b o q
    exact⟨sl,keep b _ hb e'⟩
def land
  (Je:A.frames=some (env::outer)) (hl:s.heap.FunFrames base (env::outer)) (hf:env.frame=some L) (F:Jn s.heap e cls fp c)
  (h:∀h' T,Jn h' e cls [e,T] c->s.heap.objs.size≤T->(∀b o,s.heap.get? b='g'->b∉fp->b∉(env::outer).filterMap (·.frame)->h'.get? b='g')->
   (∀b o,s.heap.get? b='g'->b∉fp->∃sl,h'.get? b=some {o with slots:=sl})->(∀b o,s.heap.get? b=some o->∃o',h'.get? b=some o')->Q () {s with heap:=h'}):
  wpAny M A (noteFrame (.ref e) env) (λ _ s'=>wpAny M A (setFlight (.ref e) none) Q E s') E s:=by
 obtain⟨vs,he,h2,⟨h1,r⟩|⟨T,oT,ts,h1,ne,gT,dT,zT,r⟩⟩:=F
 ·subst r;unfold noteFrame;simp only [hf];refine Ab (A6 he rfl h1 ?_);rw [AH Z9];refine ie Je hl hf he (Bf.mp h1).1 h2 λ h' T' f1 f2 f3 f4=>h h' T' f1 f2 (λ b o q hb hn=>f3 b o q (λ z=>hb (by simp [z])) hn) (λ b o q hb=>f4 b o q λ z=>hb (by simp [z])) λ b o q=>?_
  by_cases hb:b=e
  ·obtain⟨M6,g',_⟩:=f1;subst hb;exact⟨_,g'⟩
  ·obtain⟨sl,e'⟩:=f4 b o q hb;exact⟨_,e'⟩
 ·subst r;unfold noteFrame;simp only [hf];refine Ab (A6 he rfl h1 ?_);rw [AK (show(Value.ref T !=Value.none)=true from by simp)];refine Ab (A6 gT dT zT ?_);rw [AH (show¬((Value.none==rawInt L)=true) from by simp [rawInt])];refine Ab (BC gT dT (Bf.mp zT).1 ?_);have HX:∀b,b≠T->(s.heap.update T (Obj.mapFields (·.setIfInBounds 3 Value.none))).get? b=s.heap.get? b:=λ b hb=>AI _ _ (B7 hb)
  have PU:=A9 (Obj.mapFields (·.setIfInBounds 3 Value.none)) gT (BJ (Bq dT _));have nT:∀b o,s.heap.get? b='g'->(∀us,o.data≠ .fields us)->b≠T:=λ b o q nf z=>by
   rw [z,gT] at q;cases q;exact nf ts dT
  have sz:(s.heap.update T (Obj.mapFields (·.setIfInBounds 3 Value.none))).objs.size=s.heap.objs.size:=EA ..;refine ie Je (hl.of_keeps λ b o q nf=>⟨o,(HX b (nT b o q nf)).trans q,rfl⟩) hf ((HX e (B7 ne)).trans he) (Bf.mp h1).1 h2
   λ h' T' f1 f2 f3 f4=>h h' T' f1 (by rw [sz] at f2;exact f2) (λ b o q hb hn=>?_) (λ b o q hb=>?_) λ b o q=>?_
  ·have b1:b≠e:=λ z=>hb (by simp [z])
   have b2:b≠T:=λ z=>hb (by simp [z])
   exact f3 b o ((HX b b2).trans q) b1 hn
  ·have b1:b≠e:=λ z=>hb (by simp [z])
   have b2:b≠T:=λ z=>hb (by simp [z])
   exact f4 b o ((HX b b2).trans q) b1
  ·by_cases hb:b=e
   ·obtain⟨M6,g',_⟩:=f1;subst hb;exact⟨_,g'⟩
   ·by_cases hT:b=T
    ·subst hT;obtain⟨sl,e'⟩:=f4 b _ PU hb;exact⟨_,e'⟩
    ·obtain⟨sl,e'⟩:=f4 b o ((HX b hT).trans q) hb;exact⟨_,e'⟩
def jy (F:Jn s.heap e cls [e,T] c)
  (h:∀h',Jn h' e cls [e,T] c->(∀b o,s.heap.get? b='g'->b≠T->h'.get? b='g')->Q () {s with heap:=h'}):wpAny M A (setFlight (.ref e) none) Q E s:=by
 obtain⟨vs,he,h2,⟨h1,r⟩|⟨T',oT,ts,h1,ne,gT,dT,zT,r⟩⟩:=F
 ·cases r
 ·cases r;unfold setFlight;refine Ab (A6 he rfl h1 ?_);rw [AK (show(Value.ref T !=Value.none)=true from by simp)];have z3:=(Bf.mp zT).1;refine BC gT dT z3 (h _ ⟨vs,?_,h2,.inr ⟨T,_,_,h1,ne,A9 _ gT (BJ (Bq dT _)),Bq dT _,by simp [z3],rfl⟩⟩ λ b o q hb=>?_)
  ·rw [AI _ _ ne];exact he
  ·rw [AI _ _ (B7 hb)];exact q
end QQ
namespace L2
open PySem PySem.Spec PyProof.Rows
abbrev Key:=Sum Int Str
def ke:Key->FS->Bool
 | .inl k,v=>Value.isInt k v
 | .inr x,v=>Value.isStrOf x v
def zZ (w:FV):Key->Int
 | .inl k=>hashInt k
 | .inr x=>hashStr w x
theorem bJ:∀{k} {v},ke k v=true->(∃i t,k=Sum.inl i/\v=Value.int i t)\/(∃x t,k=Sum.inr x/\v=Value.str x t)
 | .inl i,v,h=>by
  obtain⟨t,e⟩:=Value.isInt_shape h;exact .inl ⟨i,t,rfl,e⟩
 | .inr x,v,h=>by
  obtain⟨t,e⟩:=Value.isStrOf_shape h;exact .inr ⟨x,t,rfl,e⟩
def qN (i)(t):ke (.inl i) (.int i t)=true:=by simp [ke,Value.isInt]
def rM (x)(t):ke (.inr x) (.str x t)=true:=by simp [ke,Value.isStrOf]
def yz (a b):decide ((Sum.inl a:Key)=Sum.inl b)=(a==b):=by
 by_cases e:a=b
 ·subst e;simp
 ·have h:¬(Sum.inl a:Key)=Sum.inl b:=λ q=>e (Sum.inl.inj q)
  rw [Bt h];exact(CV.mpr e).symm
def yA (a b):decide ((Sum.inr a:Key)=Sum.inr b)=decide (a=b):=by
 by_cases e:a=b
 ·subst e;simp
 ·have h:¬(Sum.inr a:Key)=Sum.inr b:=λ q=>e (Sum.inr.inj q)
  rw [Bt h,Bt e]
def xE (a)(b):decide ((Sum.inl a:Key)=Sum.inr b)=false:=Bt (λ q=>nomatch q)
def xM (a)(b):decide ((Sum.inr a:Key)=Sum.inl b)=false:=Bt (λ q=>nomatch q)
noncomputable def cr (prog) (w):PySem.KeyKind prog w Key where
 is:=ke
 hash:=zZ w
 inj:=λ v a b ha hb=>by
  rcases bJ ha with⟨i,t,rfl,rfl⟩|⟨x,t,rfl,rfl⟩
  ·rcases bJ hb with⟨j,u,rfl,e⟩|⟨y,u,rfl,e⟩
   ·injection e with e1 _;rw [e1]
   ·exact nomatch e
  ·rcases bJ hb with⟨j,u,rfl,e⟩|⟨y,u,rfl,e⟩
   ·exact nomatch e
   ·injection e with e1 _;rw [e1]
 byValue:=λ k v h=>by
  rcases bJ h with⟨i,t,rfl,rfl⟩|⟨x,t,rfl,rfl⟩<;>rfl
 pyHash:=λ hv h=>by
  rcases bJ hv with⟨i,t,rfl,rfl⟩|⟨x,t,rfl,rfl⟩
  ·exact wpAny_pyHash_int h
  ·exact wpAny_pyHash_str h
 eqBool:=λ hu hv h=>by
  rcases bJ hu with⟨i,t,rfl,rfl⟩|⟨x,t,rfl,rfl⟩
  ·rcases bJ hv with⟨j,u,rfl,rfl⟩|⟨y,u,rfl,rfl⟩
   ·rw [yz] at h;exact wpAny_eqBool_int h
   ·rw [xE] at h;exact SeqAt.EqAt.int_str i t y u _ _ _ _ h
  ·rcases bJ hv with⟨j,u,rfl,rfl⟩|⟨y,u,rfl,rfl⟩
   ·rw [xM] at h;exact SeqAt.EqAt.str_int x t j u _ _ _ _ h
   ·rw [yA] at h;exact wpAny_eqBool_str h
 «strs»:=λ k x t v h=>by
  rcases bJ h with⟨i,u,rfl,e⟩|⟨y,u,rfl,e⟩
  ·exact nomatch e
  ·injection e with e1 _
   subst e1;cases v<;>rfl
def lL (prog)(w)(i)(t):(cr prog w).is (.inl i) (.int i t)=true:=qN i t
def mj (prog)(w)(x)(t):(cr prog w).is (.inr x) (.str x t)=true:=rM x t
inductive V where
 |non|bl (b:Bool)|int (i:Int)|str (x:Str)|byt (b:Array UInt8)|flt (b:UInt64)|ref (a:FR)|ty (n:String)
 deriving DecidableEq
def RelV:V->FS->Prop
 | .non,u=>u=Value.none
 | .bl b,u=>u=Value.bool b
 | .int i,u=>∃t,u=Value.int i t
 | .str x,u=>∃t,u=Value.str x t
 | .byt b,u=>∃t,u=Value.bytes b t
 | .flt b,u=>∃t,u=Value.float b t
 | .ref a,u=>u=Value.ref a
 | .ty n,u=>u=Value.type n
abbrev Vals:List V->List FS->Prop:=Paired RelV
theorem Vals.length (r:Vals xs us):xs.length=us.length:=DN r
theorem Vals.get:∀{xs} {us} {i:Nat} {x},Vals xs us->xs[i]?=some x->∃u,us[i]?=some u/\RelV x u
 |_,_,_,_,.nil,e=>by simp at e
 |_,_,0,_,.cons r _,e=>by simp at e;subst e;exact⟨_,rfl,r⟩
 |_,_,i+1,x,.cons _ t,e=>by
  obtain⟨u,h1,h2⟩:=Vals.get t (by simpa using e);exact⟨u,by simpa using h1,h2⟩
theorem Vals.set (r:RelV x u):∀{xs} {us} i,Vals xs us->Vals (xs.set i x) (us.set i u)
 |_,_,_,.nil=>.nil
 |_,_,0,.cons _ t=>.cons r t
 |_,_,i+1,.cons q t=>.cons q (Vals.set r i t)
def Vals.append (h:Vals xs us)(s:Vals ys ws):Vals (xs++ys) (us++ws):=by
 induction h with
 |nil=>exact s
 |cons r _ ih=>exact .cons r ih
theorem Vals.take (n)(h:Vals xs us):Vals (xs.take n) (us.take n):=by
 induction h generalizing n with
 |nil=>cases n<;>exact .nil
 |cons r _ ih=>cases n with
  |zero=>exact .nil
  |succ n=>exact .cons r (ih n)
theorem Vals.drop:∀{xs} {us} n,Vals xs us->Vals (xs.drop n) (us.drop n)
 |_,_,0,r=>r
 |_,_,_+1,.nil=>.nil
 |_,_,n+1,.cons _ t=>Vals.drop n t
def HU:Option V->Option FS->Prop
 |some v,some u=>RelV v u
 |none,none=>True
 |_,_=>False
def KV:List (κ×V)->List (κ×FS)->Prop:=Paired λ(p:κ×V) (q:κ×FS)=>p.1=q.1/\RelV p.2 q.2
def kV:Key->V
 | .inl i=>.int i
 | .inr x=>.str x
inductive HO where
  |lst (xs:List V)
  |tup (xs:List V)
  |dK (Gg:List (Key×V))|dT (Gg:List (List Key×V))
  |set (S:Int->Bool) (n:Nat)
  |ins (C dx:FR) (fs:List (Str×V))
  |own (x:FR)
  |xd (fs:List (Str×V))
  |met (f x:FR)
  |rng (lo hi:Int)
  |frz (o:F1) (u:HO)
  |tbl (ps:Array FS)
  |ext (φ:FY->Prop)
abbrev Hp:=FR->Option HO
noncomputable def upd (H:Hp) (a:FR) (o:HO):Hp:=λ b=>if b=a then 'g' else H b
def af {H:Hp}:upd H a o a='g':=by unfold upd;rw [AK rfl]
def aj {H:Hp}(h:b≠a):upd H a o b=H b:=by unfold upd;rw [AH h]
def aT {H:Hp}(h:H a='g')(h':H b=some u)(d:o≠u):a≠b:=by
 intro e;subst e;rw [h] at h';exact d (AJ h')
def ai {H:Hp}(h:H a='g')(h':H b=none):a≠b:=by
 intro e;subst e;rw [h] at h';cases h'
section
variable (P:FU)(w:FV)
def Gp (H:Hp)(h:FY)(a:FR):HO->Prop
 | .lst xs=>xs.length≤sizeLine/\∃Gd n,Vals xs Gd/\h.get? a=some {cls:=.type "list",data:=.seq Gd.toArray n}
 | .tup xs=>xs.length≤sizeLine/\∃Gd,Vals xs Gd/\IsTup h a Gd.toArray
 | .dK Gg=>Gg.length≤sizeLine/\(a==sysModules)=false/\∃vs,KV Gg vs/\h.DictOf (cr P w) a vs
 | .dT Gg=>Gg.length≤sizeLine/\(a==sysModules)=false/\∃xs,
   Paired (λ p q=>p.1=q.1/\H q.2.1=some (.tup (p.1.map kV))/\RelV p.2 q.2.2) Gg xs/\
   ∃o es ep,h.get? a='g'/\o.ExactDict/\o.data=.dict es ep/\es.toList=xs.map (entryOfKey (tupleKind (cr P w)))/\(xs.map (·.1)).Nodup
 | .set S n=>h.SetOf (intKind P w) a S n
 | .ins C dx fs=>H dx=some (.own a)/\fs.length≤1000/\dx≠a/\h.get? a=some (instObj C dx)/\
   ∃mA,h.Ns1 dx mA/\(∀f,HU (fs.lookup f) (mA f))/\PySem.Within mA (fs.map (·.1))
 | .own _=>∃o,h.get? a='g'
 | .xd fs=>∃mA,h.Ns1 a mA/\∀f,HU (fs.lookup f) (mA f)
 | .rng lo hi=>∃t u v,h.get? a=some {cls:=.type "range",data:=.fields #[.int lo t,.int hi u,.int 1 v]}
 | .frz o u=>h.get? a='g'/\Gp H h a u
 | .tbl ps=>h.get? a=some {cls:=.none,data:=.fields ps}
 | .met f x=>h.get? a=some (methodObj (.ref f) (.ref x))
 | .ext φ=>φ h/\(∃o,h.get? a='g')/\∀h1 h2,φ h1->(∀o,h1.get? a='g'->h2.get? a='g')->φ h2
def HK (H:Hp)(h:FY):Prop:=∀a o,H a='g'->Gp P w H h a o
end
section
variable {P:FU}{w:FV}{H H':Hp}{h h':FY}{a:FR}{o:HO}
theorem Gp.lt (x:Gp P w H h a o):a<h.objs.size:=by
 cases o with
 |lst xs=>obtain⟨_,_,_,_,e⟩:=x;exact AA e
 |tup xs=>obtain⟨_,_,_,p⟩:=x;exact p.lt
 |dK Gg=>obtain⟨_,_,_,_,o,_,_,e,_⟩:=x;exact AA e
 |dT Gg=>obtain⟨_,_,_,_,o,_,_,e,_⟩:=x;exact AA e
 |set S n=>obtain⟨o,_,_,_,e,_⟩:=x;exact AA e
 |ins C dx fs=>obtain⟨_,_,_,e,_⟩:=x;exact AA e
 |own y=>obtain⟨_,e⟩:=x;exact AA e
 |xd fs=>obtain⟨_,⟨_,_,_,e,_⟩,_⟩:=x;exact AA e
 |rng lo hi=>obtain⟨_,_,_,e⟩:=x;exact AA e
 |frz ob u=>obtain⟨e,_⟩:=x;exact AA e
 |tbl ps=>exact AA (show h.get? a=some _ from x)
 |met f y=>exact AA (show h.get? a=some _ from x)
 |ext φ=>obtain⟨_,⟨_,e⟩,_⟩:=x;exact AA e
def Paired.mapP {l₁:List α}{l₂:List β}(h:Paired F l₁ l₂)(f:∀a b,F a b->G a b):Paired G l₁ l₂:=by
 induction h with
 |nil=>exact .nil
 |cons r _ ih=>exact .cons (f _ _ r) ih
def Gp.stay (x:Gp P w H h a o)(k:∀b u,(b=a\/H b=some (.own a))->h.get? b=some u->h'.get? b=some u)
  (ho:∀b,H b=some (.own a)->H' b=some (.own a)) (ht:∀b xs,H b=some (.tup xs)->H' b=some (.tup xs)):Gp P w H' h' a o:=by
 induction o with
 |lst xs=>obtain⟨z,Gd,n,r,e⟩:=x;exact⟨z,Gd,n,r,k _ _ (.inl rfl) e⟩
 |tup xs=>obtain⟨z,Gd,r,ob,e,c⟩:=x;exact⟨z,Gd,r,ob,k _ _ (.inl rfl) e,c⟩
 |dK Gg=>obtain⟨z,y,vs,r,ob,es,ep,e,c⟩:=x;exact⟨z,y,vs,r,ob,es,ep,k _ _ (.inl rfl) e,c⟩
 |dT Gg=>
  obtain⟨z,y,xs,r,ob,es,ep,e,c⟩:=x;exact⟨z,y,xs,Paired.mapP r λ p q z=>⟨z.1,ht _ _ z.2.1,z.2.2⟩,ob,es,ep,k _ _ (.inl rfl) e,c⟩
 |set S n=>obtain⟨ob,es,ep,t,e,c⟩:=x;exact⟨ob,es,ep,t,k _ _ (.inl rfl) e,c⟩
 |ins C dx fs=>
  obtain⟨d,z,ne,e,mA,⟨od,es,ep,e2,c⟩,r⟩:=x;exact⟨ho _ d,z,ne,k _ _ (.inl rfl) e,mA,⟨od,es,ep,k _ _ (.inr d) e2,c⟩,r⟩
 |own y=>obtain⟨ob,e⟩:=x;exact⟨ob,k _ _ (.inl rfl) e⟩
 |xd fs=>obtain⟨mA,⟨od,es,ep,e,c⟩,r⟩:=x;exact⟨mA,⟨od,es,ep,k _ _ (.inl rfl) e,c⟩,r⟩
 |rng lo hi=>obtain⟨t,u,v,e⟩:=x;exact⟨t,u,v,k _ _ (.inl rfl) e⟩
 |frz ob u ih=>obtain⟨e,q⟩:=x;exact⟨k _ _ (.inl rfl) e,ih q⟩
 |tbl ps=>
  have e:h.get? a=some {cls:=.none,data:=.fields ps}:=x;show h'.get? a=some {cls:=.none,data:=.fields ps};exact k a _ (.inl rfl) e
 |met f y=>
  have e:h.get? a=some (methodObj (.ref f) (.ref y)):=x;show h'.get? a=some (methodObj (.ref f) (.ref y));exact k a _ (.inl rfl) e
 |ext φ=>obtain⟨p,⟨o,e⟩,st⟩:=x;exact⟨st _ _ p λ o q=>k _ _ (.inl rfl) q,⟨o,k _ _ (.inl rfl) e⟩,st⟩
theorem HK.lt (x:HK P w H h)(e:H a='g'):a<h.objs.size:=(x a o e).lt
def HK.fresh (x:HK P w H h)(e:h.objs.size≤a):H a=none:=by
 cases q:H a with
 |none=>rfl
 |some u=>exact absurd (Ap (x.lt q) e) (BK _)
def HK.kept (x:HK P w H h)(k:∀b u,h.get? b=some u->h'.get? b=some u):HK P w H h':=λ a o e=>
 (x a o e).stay (λ b u _ q=>k b u q) (λ _ q=>q) λ _ _ q=>q
def HK.laid (x:HK P w H h)(k:∀b u,h.get? b=some u->h'.get? b=some u)(hp:h.objs.size≤a)(new:Gp P w (upd H a o) h' a o):HK P w (upd H a o) h':=λ b u e=>by
 have hn:=x.fresh hp;by_cases hb:b=a
 ·subst hb;rw [af] at e;cases e;exact new
 ·rw [aj hb] at e;exact(x b u e).stay (λ c v _ q=>k c v q) (λ c q=>by rw [aj (ai q hn)];exact q) λ c xs q=>by rw [aj (ai q hn)];exact q
end
def Rd (H:Hp)(a:FR)(u:HO):Prop:=H a=some u\/∃o,H a=some (.frz o u)
def Rd.ok {P:FU}(r:Rd H a u)(x:HK P w H h):Gp P w H h a u:=by
 rcases r with r|⟨o,r⟩
 ·exact x a u r
 ·obtain⟨_,q⟩:=x a _ r;exact q
def T2:Option HO->Prop
 |↥_=>True
 |some (.dK _)=>True
 |some (.dT _)=>True
 |some (.set _ _)=>True
 |some (.ins _ _ _)=>True
 |some (.ext _)=>True
 |_=>False
section
variable {P:FU}{w:FV}{H:Hp}{h h':FY}{x e:FR}{o':HO}
def HK.write (ok:HK P w H h)(mu:T2 (H x))(he:e=x\/H e=some (.own x))(k:∀b u,b≠e->h.get? b=some u->h'.get? b=some u)(Rq:∃u,h'.get? e=some u)
  (new:Gp P w (upd H x o') h' x o'):HK P w (upd H x o') h':=λ b u q=>by
 have Up:∀c y,H c=some (.own y)->c≠x:=λ c y r z=>by subst z;rw [r] at mu;exact mu
 have Ys:∀c xs,H c=some (.tup xs)->c≠x:=λ c xs r z=>by subst z;rw [r] at mu;exact mu
 by_cases hb:b=x
 ·subst hb;rw [af] at q;cases q;exact new
 ·rw [aj hb] at q;by_cases L5:b=e
  ·have q':H b=some (.own x):=by
    rcases he with z|z
    ·exact absurd (L5.trans z) hb
    ·rw [L5];exact z
   rw [q] at q';cases q';obtain⟨v,hv⟩:=Rq;exact⟨v,by rw [L5];exact hv⟩
  ·refine(ok b u q).stay (λ c v hc r=>k c v ?_ r) (λ c r=>by rw [aj (Up c b r)];exact r) λ c xs r=>by rw [aj (Ys c xs r)];exact r
   rcases hc with rfl|hc
   ·exact L5
   ·rintro rfl;rcases he with z|z
    ·exact Up c b hc z
    ·rw [hc] at z;cases z;exact hb rfl
end
structure Un (fs ex:List FR)(H H':Hp)(h h':FY):Prop where
 keep:∀b o,h.get? b='g'->H b=none->b∉fs->b∉ex->h'.get? b='g'
 slot:∀b o,h.get? b='g'->H b=none->b∈fs->b∉ex->∃sl,h'.get? b=some {o with slots:=sl}
 free:∀b o,h.get? b='g'->H b=none->b∉ex->H' b=none
 there:∀b o,h.get? b='g'->b∉ex->∃o',h'.get? b=some o'
 tups:∀b xs,H b=some (.tup xs)->H' b=some (.tup xs)
 frzs:∀b o u,H b=some (.frz o u)->H' b=some (.frz o u)
 tbls:∀b ps,H b=some (.tbl ps)->∃more,H' b=some (.tbl (ps++more))
section
variable {fs fs' ex ex':List FR}{H H1 H2:Hp}{h h1 h2 h':FY}{a x e:FR}{o:HO}
def Un.any (u:Un fs ex H H1 h h1)(q:h.get? b=some ob)(n:H b=none)(hx:b∉ex):∃sl,h1.get? b=some {ob with slots:=sl}:=by
 by_cases hb:b∈fs
 ·exact u.slot b ob q n hb hx
 ·exact⟨ob.slots,u.keep b ob q n hb hx⟩
def Un.kept (k:∀b u,h.get? b=some u->h'.get? b=some u):Un fs ex H H h h':=
 ⟨λ b ob q _ _ _=>k b ob q,λ b ob q _ _ _=>⟨ob.slots,k b ob q⟩,λ _ _ _ n _=>n,λ b ob q _=>⟨ob,k b ob q⟩,λ _ _ q=>q,λ _ _ _ q=>q,λ _ ps q=>⟨#[],by rw [q];simp⟩⟩
def Un.refl:Un fs ex H H h h:=Un.kept λ _ _ q=>q
def Un.laid (k:∀b u,h.get? b=some u->h'.get? b=some u)(hp:h.objs.size≤a)(hn:H a=none):Un fs ex H (upd H a o) h h' where
 keep:=λ b u q _ _ _=>k b u q
 slot:=λ b u q _ _ _=>⟨u.slots,k b u q⟩
 free:=λ b u q n _=>by rw [aj (A7 (Ap (AA q) hp))];exact n
 there:=λ b u q _=>⟨u,k b u q⟩
 tups:=λ b xs q=>by rw [aj (ai q hn)];exact q
 frzs:=λ b u xs q=>by rw [aj (ai q hn)];exact q
 tbls:=λ b ps q=>⟨#[],by rw [aj (ai q hn),q];simp⟩
def Un.write (mu:T2 (H x))(he:e=x\/H e=some (.own x))(k:∀b u,b≠e->h.get? b=some u->h'.get? b=some u)(Rq:∃u,h'.get? e=some u):Un fs ex H (upd H x o) h h':=by
 have hx:∀b,H b=none->b≠x:=λ b n z=>by subst z;rw [n] at mu;exact mu
 have hb:∀b,H b=none->b≠e:=λ b n z=>by
  subst z;rcases he with r|r
  ·exact hx b n r
  ·rw [n] at r;cases r
 have hm:∀b u,H b=some u->¬T2 (some u)->b≠x:=λ b u q nm z=>by subst z;rw [q] at mu;exact nm mu
 refine⟨λ b u q n _ _=>k b u (hb b n) q,λ b u q n _ _=>⟨u.slots,k b u (hb b n) q⟩,λ b u q n _=>by rw [aj (hx b n)];exact n,λ b u q _=>?_,
  λ b xs q=>by rw [aj (hm b _ q λ z=>z)];exact q,λ b u xs q=>by rw [aj (hm b _ q λ z=>z)];exact q,λ b ps q=>⟨#[],by rw [aj (hm b _ q λ z=>z),q];simp⟩⟩
 by_cases L5:b=e
 ·subst L5;exact Rq
 ·exact⟨u,k b u L5 q⟩
end
noncomputable def trk (h:FY) (H:Hp):List FR:=(List.range h.objs.size).filter λ a=>(H a).isSome
def hidT (h:FY)(H:Hp):FY:=PySem.W.hideAll h (trk h H)
def qB (h)(H:Hp):(hidT h H).objs.size=h.objs.size:=PySem.W.hideAll_size _ _
def ue (e:h.get? b='g')(n:H b=none):(hidT h H).get? b='g':=
 PySem.W.hideAll_get _ e λ hm=>by
  have q:(H b).isSome=true:=(Cb.mp hm).2;rw [n] at q;simp at q
def wX (e:(hidT h H).get? b='g'):h.get? b='g'/\H b=none:=by
 have e':h.get? b='g':=PySem.W.of_hideAll (trk h H) e;refine⟨e',?_⟩;cases q:H b with
 |none=>rfl
 |some x=>
  have hm:b∈trk h H:=Cb.mpr ⟨C7.mpr (AA e'),by simp [q]⟩;have z:(hidT h H).get? b=none:=PySem.W.hideAll_none (trk h H) hm;rw [z] at e;cases e
structure Mod (K:Frag)(mg:Str->Option FS)(base:FY):Prop where
 kin:K.In base
 glob:base.Ns mainGlobals mg
 blt:∃mb,base.Ns builtinsNs mb/\∀x:Str,x≠ "__name__"->mb x=bootBuiltins x
 nolimit:base.NoLimit
structure Cx where
 prog:FU
 w:FV
 K:Frag
 mg:Str->Option FS
 base:FY
 A:FX
 N:List Str
 s₀:FT
 H₀:Hp
 env:Env
 outer:List Env
 stack:List Env
 ex:List FR
 fn:Str->Bool
 calm:Bool
 pn:List (FR×F1)
 xe:FS->FT->Prop
def OL (H:Hp)(a:FR)(c:FS):Prop:=c=.none\/∃b ob us,c=.ref b/\b≠a/\H b=some (.frz ob (.own b))/\ob.data=.fields us/\6≤us.size/\us[2]?=some Value.none
def Qt (A:FX)(H:Hp):Prop:=A.handled=none\/∃a o vs c,A.handled=↑a/\H a=some (.frz o (.own a))/\o.data=.fields vs/\(vs[2]?=some c/\6≤vs.size)/\OL H a c
def frs (l:List Env):List FR:=l.filterMap (·.frame)
abbrev Cx.fs (X:Cx):List FR:=frs X.outer
def V5 (sc:Scope)(x:Str):Prop:=sc.names.lookup x=some .local\/sc.names.lookup x=some .cell\/sc.names.lookup x=some .free
def Loc (sc:Scope)(x:Str):Prop:=sc.names.lookup x=some .local\/sc.names.lookup x=some .cell
def zG (env:Env)(h:FY)(m:Str->Option FS)(x:Str)(u:FS):Prop:=
 (env.kindOf x=some .local/\m x=some u)\/((env.kindOf x=some .cell\/env.kindOf x=some .free)/\∃c,env.cells.lookup x=some c/\h.IsCell c (some u))
structure Cx.Ok (X:Cx):Prop where
 mod:Mod X.K X.mg X.base
 kind:X.env.scope.kind=.function
 glob:X.env.globals=mainGlobals
 blt:X.env.builtins=builtinsNs
 above:X.s₀.heap.objs.size≤X.env.locals
 inj:∀x y c,X.env.cells.lookup x=some c->X.env.cells.lookup y=some c->x=y
 has:∀x,(X.env.kindOf x=some .cell\/X.env.kindOf x=some .free)->∃c,X.env.cells.lookup x=some c
 cab:∀x c,X.fn x=true->X.env.cells.lookup x=some c->X.s₀.heap.objs.size≤c
 hd:Qt X.A X.H₀
 frames:X.A.frames=some X.stack
 stk:X.stack=X.outer\/(X.stack=X.env::X.outer/\X.env.frame=some X.env.locals)
 exf:∀b∈X.ex,b≠X.env.locals/\∀x c,X.env.cells.lookup x=some c->c≠b
 bs:∀b o,X.base.get? b='g'->X.s₀.heap.get? b='g'/\X.H₀ b=none
 bsz:X.base.objs.size≤X.s₀.heap.objs.size
 noex:∀b o,X.base.get? b='g'->b∉X.ex
 exfs:∀b∈X.ex,b∉X.fs
 funs:X.s₀.heap.FunFrames X.base X.outer
 frf:∀b∈X.fs,X.H₀ b=none
structure Inv (X:Cx)(F6:List (FR×F1))(σ:List (Option V))(H:Hp)(s:FT):Prop where
 ok:X.Ok
 os:s.os=X.s₀.os
 bare:AllBare s.gens
 base:Un X.fs X.ex X.H₀ H X.s₀.heap s.heap
 loc:∃m,s.heap.Ns X.env.locals m/\∀(i:Nat) (x:Str) (v:V),X.N[i]?=some x->σ[i]?=some (some v)->V5 X.env.scope x->∃u,RelV v u/\zG X.env s.heap m x u
 cell:∀x c,X.env.cells.lookup x=some c->∃v,s.heap.IsCell c v
 free:H X.env.locals=none
 freeC:∀x c,X.env.cells.lookup x=some c->H c=none
 pin:∀p∈X.pn++F6,s.heap.get? p.1=some p.2/\H p.1=none/\p.1≠X.env.locals/\p.1∉X.fs/\∀v,p.2.data≠ .cell v
 hok:HK X.prog X.w H s.heap
 len:σ.length=X.N.length
section
variable {X:Cx}{F6:List (FR × F1)}{σ:List (Option V)}{H H':Hp}{s:FT}{h':FY}
def Cx.Ok.nofr (ok:X.Ok){b:FR}{o:F1}(e:X.base.get? b='g'):b∉X.fs:=λ hb=>by
 have:=(ok.funs.mem hb).1;rw [e] at this;cases this
theorem Inv.bs (I:'b' s):∀b o,X.base.get? b='g'->s.heap.get? b='g'/\H b=none:=λ b o e=>
 ⟨I.base.keep b o (I.ok.bs b o e).1 (I.ok.bs b o e).2 (I.ok.nofr e) (I.ok.noex b o e),I.base.free b o (I.ok.bs b o e).1 (I.ok.bs b o e).2 (I.ok.noex b o e)⟩
def Inv.bk (I:'b' s):∀b o,X.base.get? b='g'->s.heap.get? b='g':=λ b o e=>(I.bs b o e).1
theorem Inv.mod (I:'b' s):Mod X.K X.mg X.base:=I.ok.mod
def OL.keep {H H':Hp}{c:FS}(h:OL H a c)(k:∀b o u,H b=some (.frz o u)->H' b=some (.frz o u)):OL H' a c:=by
 rcases h with h|⟨b,ob,us,e,n,g,r⟩
 ·exact .inl h
 ·exact .inr ⟨b,ob,us,e,n,k _ _ _ g,r⟩
def Inv.qt (I:'b' s):Qt X.A H:=by
 rcases I.ok.hd with q|⟨a,o,vs,c,e,f,d,z,b⟩
 ·exact .inl q
 ·exact .inr ⟨a,o,vs,c,e,I.base.frzs _ _ _ f,d,z,b.keep I.base.frzs⟩
def Inv.hq (I:'b' s):QQ.Hq X.A s.heap:=by
 rcases I.qt with q|⟨a,o,vs,c,e,f,d,z,b⟩
 ·exact .inl q
 ·obtain⟨g,_⟩:=I.hok a _ f;refine .inr ⟨a,o,vs,e,g,d,z.2,?_⟩;rcases b with b|⟨b,ob,us,e1,n,f1,r⟩
  ·exact .inl (z.1.trans (Bx some b))
  ·obtain⟨g1,_⟩:=I.hok b _ f1;exact .inr ⟨b,ob,us,z.1.trans (Bx some e1),n,g1,r⟩
def Inv.kIn (I:'b' s):X.K.In s.heap:=I.ok.mod.kin.keeps I.bk
theorem Inv.lt (I:'b' s):X.env.locals<s.heap.objs.size:=let⟨_,hn,_⟩:=I.loc;hn.lt
def Inv.sz (I:'b' s):X.s₀.heap.objs.size≤s.heap.objs.size:=Ai I.ok.above (B9 I.lt)
def Inv.nofs (I:'b' s){a:FR}(h:s.heap.objs.size≤a):a∉X.fs:=λ hb=>by
 obtain⟨_,o,ho,_⟩:=I.ok.funs.mem hb;exact absurd (Ap (AA ho) (Ai I.sz h)) (BK _)
def Inv.cne (I:'b' s):∀x c,X.env.cells.lookup x=some c->c≠X.env.locals:=λ x c e z=>by
 obtain⟨v,o,ho,hd⟩:=I.cell x c e;obtain⟨m,⟨o',es,ep,NB,Xp,_⟩,_⟩:=I.loc;rw [z,NB] at ho;cases ho;rw [Xp] at hd;cases hd
theorem Inv.funs (I:'b' s):s.heap.FunFrames X.base X.outer:=by
 have all:∀(l:List Env),(∀b∈frs l,b∈X.fs)->X.s₀.heap.FunFrames X.base l->s.heap.FunFrames X.base l:=by
  intro l
  induction l with
  |nil=>intro _ _;trivial
  |cons env r ih=>
   intro hs hl;obtain⟨hk,⟨L,o,hf,hn,ho,hd⟩,hr⟩:=hl;have hL:L∈X.fs:=hs L (by unfold frs;rw [Fa,hf];exact AE);obtain⟨sl,e⟩:=I.base.slot L o ho (I.ok.frf L hL) hL λ z=>I.ok.exfs L z hL
   exact⟨hk,⟨L,_,hf,hn,e,hd⟩,ih (λ b hb=>hs b (by unfold frs;rw [Fa,hf];exact Az _ hb)) hr⟩
 exact all X.outer (λ _ hb=>hb) I.ok.funs
theorem Inv.stack (I:'b' s):s.heap.FunFrames X.base X.stack:=by
 rcases I.ok.stk with e|⟨e,hf⟩
 ·rw [e];exact I.funs
 ·rw [e];obtain⟨m,hn,_⟩:=I.loc;refine .cons (by rw [I.ok.kind];decide) hf hn ?_ I.funs;exact Heap.get?_none_of_le (Ai I.ok.bsz I.ok.above)
def Inv.stkSub (I:'b' s):∀b∈frs X.stack,b∈X.env.locals::X.fs:=λ b hb=>by
 rcases I.ok.stk with e|⟨e,hf⟩
 ·rw [e] at hb;exact Az _ hb
 ·rw [e] at hb;unfold frs at hb;rw [Fa,hf] at hb;exact hb
def Inv.stkFree (I:'b' s):∀b∈frs X.stack,H b=none:=λ b hb=>by
 rcases AB.mp (I.stkSub b hb) with e|hb
 ·rw [e];exact I.free
 ·obtain⟨_,o,ho,_⟩:=I.ok.funs.mem hb;exact I.base.free b o ho (I.ok.frf b hb) λ z=>I.ok.exfs b z hb
def Inv.step {g':Array GenState}{t':Nat}{d':Drawn}{ch:List FR}(I:'b' s)
  (Lh:∀b∈ch,(b∈X.ex\/X.s₀.heap.objs.size≤b)/\b≠X.env.locals/\(∀x c,X.env.cells.lookup x=some c->c≠b)/\∀p∈X.pn++F6,p.1≠b)
  (keep:∀b o,b≠X.env.locals->b∉X.fs->b∉ch->s.heap.get? b='g'->H b=none->h'.get? b='g')
  (slot:∀b o,b≠X.env.locals->b∈X.fs->b∉ch->s.heap.get? b='g'->H b=none->∃sl,h'.get? b=some {o with slots:=sl}) (free:∀b o,b∉ch->s.heap.get? b=some o->H b=none->H' b=none)
  (there:∀b o,b∉ch->s.heap.get? b='g'->∃o',h'.get? b=some o')
  (tups:∀b xs,H b=some (.tup xs)->H' b=some (.tup xs)) (frzs:∀b o u,H b=some (.frz o u)->H' b=some (.frz o u)) (tbls:∀b ps,H b=some (.tbl ps)->∃more,H' b=some (.tbl (ps++more)))
  (ns:∀m,s.heap.Ns X.env.locals m->h'.Ns X.env.locals m) (hok:HK X.prog X.w H' h') (hg:AllBare g'):
  Inv X F6 σ H' {s with heap:=h',gens:=g',drawn:=d',toks:=t'}:=by
 have Sr:∀b o,X.s₀.heap.get? b='g'->b≠X.env.locals:=λ b o e=>A7 (Ap (AA e) I.ok.above)
 have OQ:∀b o,X.s₀.heap.get? b='g'->b∉X.ex->b∉ch:=λ b o e hx hb=>by
  rcases(Lh b hb).1 with z|z
  ·exact hx z
  ·exact absurd (Ap (AA e) z) (BK _)
 have cellK:∀x c,X.env.cells.lookup x=some c->∀v,s.heap.IsCell c v->h'.IsCell c v:=λ x c e v ⟨o,ho,hd⟩=>by
  have Nv:c∉ch:=λ z=>(Lh c z).2.2.1 x c e rfl
  by_cases hc:c∈X.fs
  ·obtain⟨sl,q⟩:=slot c o (I.cne x c e) hc Nv ho (I.freeC x c e);exact⟨_,q,hd⟩
  ·exact⟨o,keep c o (I.cne x c e) hc Nv ho (I.freeC x c e),hd⟩
 refine⟨I.ok,I.os,hg,⟨λ b o e n hb hx=>?_,λ b o e n hb hx=>?_,λ b o e n hx=>?_,λ b o e hx=>?_,λ b xs e=>tups b xs (I.base.tups b xs e),λ b o xs e=>frzs b o xs (I.base.frzs b o xs e),λ b ps e=>?_⟩,?_,λ x c e=>?_,?_,λ x c e=>?_,λ p hp=>?_,hok,I.len⟩
 ·exact keep b o (Sr b o e) hb (OQ b o e hx) (I.base.keep b o e n hb hx) (I.base.free b o e n hx)
 ·obtain⟨sl,e1⟩:=I.base.slot b o e n hb hx;obtain⟨Sd,e2⟩:=slot b _ (Sr b o e) hb (OQ b o e hx) e1 (I.base.free b o e n hx);exact⟨Sd,e2⟩
 ·obtain⟨o',e1⟩:=I.base.there b o e hx;exact free b o' (OQ b o e hx) e1 (I.base.free b o e n hx)
 ·obtain⟨o',e1⟩:=I.base.there b o e hx;exact there b o' (OQ b o e hx) e1
 ·obtain⟨m1,e1⟩:=I.base.tbls b ps e;obtain⟨m2,e2⟩:=tbls b _ e1;exact⟨m1++m2,by rw [e2,Array.append_assoc]⟩
 ·obtain⟨m,hn,hl⟩:=I.loc;refine⟨m,ns m hn,λ i x v e1 e2 e3=>?_⟩;obtain⟨u,r,l⟩:=hl i x v e1 e2 e3;refine⟨u,r,?_⟩;rcases l with l|⟨k,c,e,z⟩
  ·exact .inl l
  ·exact .inr ⟨k,c,e,cellK x c e _ z⟩
 ·obtain⟨v,z⟩:=I.cell x c e;exact⟨v,cellK x c e v z⟩
 ·obtain⟨m,⟨o,_,_,ho,_⟩,_⟩:=I.loc;exact free _ o (λ z=>(Lh _ z).2.1 rfl) ho I.free
 ·obtain⟨v,o,ho,hd⟩:=I.cell x c e;exact free c o (λ z=>(Lh c z).2.2.1 x c e rfl) ho (I.freeC x c e)
 ·obtain⟨e,n,ne,nf,d⟩:=I.pin p hp;have Nv:p.1∉ch:=λ z=>(Lh p.1 z).2.2.2 p hp rfl
  exact⟨keep p.1 p.2 ne nf Nv e n,free p.1 p.2 Nv e n,ne,nf,d⟩
def Inv.step0 {g':Array GenState}{t':Nat}{d':Drawn}{ch:List FR}(I:'b' s)
  (Lh:∀b∈ch,(b∈X.ex\/X.s₀.heap.get? b=none)/\b≠X.env.locals/\(∀x c,X.env.cells.lookup x=some c->c≠b)/\∀p∈X.pn++F6,p.1≠b)
  (keep:∀b o,b≠X.env.locals->b∉X.fs->b∉ch->s.heap.get? b='g'->H b=none->h'.get? b='g')
  (slot:∀b o,b≠X.env.locals->b∈X.fs->b∉ch->s.heap.get? b='g'->H b=none->∃sl,h'.get? b=some {o with slots:=sl}) (free:∀b o,b∉ch->s.heap.get? b=some o->H b=none->H' b=none)
  (there:∀b o,b∉ch->s.heap.get? b='g'->∃o',h'.get? b=some o')
  (tups:∀b xs,H b=some (.tup xs)->H' b=some (.tup xs)) (frzs:∀b o u,H b=some (.frz o u)->H' b=some (.frz o u)) (tbls:∀b ps,H b=some (.tbl ps)->∃more,H' b=some (.tbl (ps++more)))
  (ns:∀m,s.heap.Ns X.env.locals m->h'.Ns X.env.locals m) (hok:HK X.prog X.w H' h') (hg:AllBare g'):
  Inv X F6 σ H' {s with heap:=h',gens:=g',drawn:=d',toks:=t'}:=by
 have Sr:∀b o,X.s₀.heap.get? b='g'->b≠X.env.locals:=λ b o e=>A7 (Ap (AA e) I.ok.above)
 have OQ:∀b o,X.s₀.heap.get? b='g'->b∉X.ex->b∉ch:=λ b o e hx hb=>by
  rcases(Lh b hb).1 with z|z
  ·exact hx z
  ·rw [e] at z;cases z
 have cellK:∀x c,X.env.cells.lookup x=some c->∀v,s.heap.IsCell c v->h'.IsCell c v:=λ x c e v ⟨o,ho,hd⟩=>by
  have Nv:c∉ch:=λ z=>(Lh c z).2.2.1 x c e rfl
  by_cases hc:c∈X.fs
  ·obtain⟨sl,q⟩:=slot c o (I.cne x c e) hc Nv ho (I.freeC x c e);exact⟨_,q,hd⟩
  ·exact⟨o,keep c o (I.cne x c e) hc Nv ho (I.freeC x c e),hd⟩
 refine⟨I.ok,I.os,hg,⟨λ b o e n hb hx=>?_,λ b o e n hb hx=>?_,λ b o e n hx=>?_,λ b o e hx=>?_,λ b xs e=>tups b xs (I.base.tups b xs e),λ b o xs e=>frzs b o xs (I.base.frzs b o xs e),λ b ps e=>?_⟩,?_,λ x c e=>?_,?_,λ x c e=>?_,λ p hp=>?_,hok,I.len⟩
 ·exact keep b o (Sr b o e) hb (OQ b o e hx) (I.base.keep b o e n hb hx) (I.base.free b o e n hx)
 ·obtain⟨sl,e1⟩:=I.base.slot b o e n hb hx;obtain⟨Sd,e2⟩:=slot b _ (Sr b o e) hb (OQ b o e hx) e1 (I.base.free b o e n hx);exact⟨Sd,e2⟩
 ·obtain⟨o',e1⟩:=I.base.there b o e hx;exact free b o' (OQ b o e hx) e1 (I.base.free b o e n hx)
 ·obtain⟨o',e1⟩:=I.base.there b o e hx;exact there b o' (OQ b o e hx) e1
 ·obtain⟨m1,e1⟩:=I.base.tbls b ps e;obtain⟨m2,e2⟩:=tbls b _ e1;exact⟨m1++m2,by rw [e2,Array.append_assoc]⟩
 ·obtain⟨m,hn,hl⟩:=I.loc;refine⟨m,ns m hn,λ i x v e1 e2 e3=>?_⟩;obtain⟨u,r,l⟩:=hl i x v e1 e2 e3;refine⟨u,r,?_⟩;rcases l with l|⟨k,c,e,z⟩
  ·exact .inl l
  ·exact .inr ⟨k,c,e,cellK x c e _ z⟩
 ·obtain⟨v,z⟩:=I.cell x c e;exact⟨v,cellK x c e v z⟩
 ·obtain⟨m,⟨o,_,_,ho,_⟩,_⟩:=I.loc;exact free _ o (λ z=>(Lh _ z).2.1 rfl) ho I.free
 ·obtain⟨v,o,ho,hd⟩:=I.cell x c e;exact free c o (λ z=>(Lh c z).2.2.1 x c e rfl) ho (I.freeC x c e)
 ·obtain⟨e,n,ne,nf,d⟩:=I.pin p hp;have Nv:p.1∉ch:=λ z=>(Lh p.1 z).2.2.2 p hp rfl
  exact⟨keep p.1 p.2 ne nf Nv e n,free p.1 p.2 Nv e n,ne,nf,d⟩
def Inv.un {t':Nat}(I:'b' s)(u:Un X.fs [] H H' s.heap h')(hok:HK X.prog X.w H' h'):Inv X F6 σ H' {s with heap:=h',toks:=t'}:=by
 obtain⟨m,⟨o,es,ep,ho,r⟩,_⟩:=id I.loc;obtain⟨sl,hL⟩:=u.any ho I.free Z6;exact I.step (g':=s.gens) (d':=s.drawn) (ch:=[]) (λ _ z=>nomatch z) (λ b o _ hb _ e n=>u.keep b o e n hb Z6) (λ b o _ hb _ e n=>u.slot b o e n hb Z6) (λ b o _ e n=>u.free b o e n Z6) (λ b o _ e=>u.there b o e Z6) u.tups u.frzs u.tbls (λ m' hm=>by
  obtain⟨o',TY,XW,NB,r'⟩:=hm;rw [ho] at NB;cases NB;exact⟨_,TY,XW,hL,r'⟩) hok I.bare
def Inv.call {g':Array GenState}{t':Nat}{d':Drawn}(I:'b' s)(u:Un (frs X.stack) ch H H' s.heap h')(hok:HK X.prog X.w H' h')(hg:AllBare g')
  (Lh:∀b∈ch,(b∈X.ex\/X.s₀.heap.objs.size≤b)/\b≠X.env.locals/\(∀x c,X.env.cells.lookup x=some c->c≠b)/\∀p∈X.pn++F6,p.1≠b):
  Inv X F6 σ H' {s with heap:=h',gens:=g',drawn:=d',toks:=t'}:=by
 obtain⟨m,⟨o,es,ep,ho,r⟩,_⟩:=id I.loc;obtain⟨sl,hL⟩:=u.any ho I.free λ z=>(Lh _ z).2.1 rfl
 exact I.step Lh (λ b o hL hb hc e n=>u.keep b o e n (λ z=>(AB.mp (I.stkSub b z)).elim hL hb) hc) (λ b o _ _ hc e n=>u.any e n hc) (λ b o hc e n=>u.free b o e n hc) (λ b o hc e=>u.there b o e hc) u.tups u.frzs u.tbls (λ m' hm=>by
  obtain⟨o',TY,XW,NB,r'⟩:=hm;rw [ho] at NB;cases NB;exact⟨_,TY,XW,hL,r'⟩) hok hg
def Inv.turned {t':Nat}{it:FR}(I:'b' s)(k:∀b o,b≠it->s.heap.get? b='g'->h'.get? b='g')(hn:H it=none)(hL:it≠X.env.locals)
  (h1:it∈X.ex\/X.s₀.heap.objs.size≤it) (h2:∀x c,X.env.cells.lookup x=some c->c≠it) (h3:∀p∈X.pn++F6,p.1≠it):'b' {s with heap:=h',toks:=t'}:=by
 have ZK:∀b u,H b=some u->b≠it:=λ b u e z=>by rw [z,hn] at e;cases e
 refine I.step (g':=s.gens) (ch:=[it]) (λ b hb=>?_) (λ b o _ _ hc e _=>k b o (λ z=>hc (by simp [z])) e) (λ b o _ _ hc e _=>⟨o.slots,k b o (λ z=>hc (by simp [z])) e⟩) (λ _ _ _ _ n=>n)
  (λ b o hc e=>⟨o,k b o (λ z=>hc (by simp [z])) e⟩) (λ _ _ e=>e) (λ _ _ _ e=>e) (λ b ps e=>⟨#[],by rw [e];simp⟩) (λ m hm=>?_) (λ b u e=>?_) I.bare
 ·have e:b=it:=by simpa using hb
  subst e;exact⟨h1,hL,h2,h3⟩
 ·obtain⟨o,es,ep,ho,r⟩:=hm;exact⟨o,es,ep,k _ o (B7 hL) ho,r⟩
 ·refine(I.hok b u e).stay (λ c v hc q=>k c v ?_ q) (λ _ q=>q) λ _ _ q=>q
  rcases hc with z|z
  ·rw [z];exact ZK b u e
  ·exact ZK c _ z
def Inv.tok (I:'b' s)(t:Nat):'b' {s with toks:=t}:=I.un (h':=s.heap) (t':=t) Un.refl I.hok
theorem Inv.kept {t':Nat}(I:'b' s)(k:∀b u,s.heap.get? b=some u->h'.get? b=some u):'b' {s with heap:=h',toks:=t'}:=I.un (Un.kept k) (I.hok.kept k)
theorem Inv.laid {a:FR}{o:HO}{t':Nat}(I:'b' s)(k:∀b u,s.heap.get? b=some u->h'.get? b=some u)(hp:s.heap.objs.size≤a)(new:Gp X.prog X.w (upd H a o) h' a o):
  Inv X F6 σ (upd H a o) {s with heap:=h',toks:=t'}:=I.un (Un.laid k hp (I.hok.fresh hp)) (I.hok.laid k hp new)
theorem Inv.write {x e:FR}{o:HO}{t':Nat}(I:'b' s)(mu:T2 (H x))(he:e=x\/H e=some (.own x))(k:∀b u,b≠e->s.heap.get? b=some u->h'.get? b=some u)(Rq:∃u,h'.get? e=some u)
  (new:Gp X.prog X.w (upd H x o) h' x o):Inv X F6 σ (upd H x o) {s with heap:=h',toks:=t'}:=I.un (Un.write mu he k Rq) (I.hok.write mu he k Rq new)
def Inv.pins_of {G2:List (FR×F1)}(I:'b' s)(h:∀p∈G2,s.heap.get? p.1=some p.2/\H p.1=none/\p.1≠X.env.locals/\p.1∉X.fs/\∀v,p.2.data≠ .cell v):Inv X G2 σ H s:=
 ⟨I.ok,I.os,I.bare,I.base,I.loc,I.cell,I.free,I.freeC,λ p hp=>(AR.mp hp).elim (λ z=>I.pin p (Bm _ z)) (h p),I.hok,I.len⟩
def iO {N:List Str}(hN:N.Nodup){i j:Nat}(a:N[i]?=some x)(b:N[j]?=some x):i=j:=by
 obtain⟨h1,e1⟩:=Af.mp a;obtain⟨h2,e2⟩:=Af.mp b;exact(List.getElem_inj hN).mp (e1.trans e2.symm)
def ku {M:Model}{A:FX}(I:'b' s)(hN:X.N.Nodup)(hi:X.N[i]?=some x)(hx:Loc X.env.scope x)(r:RelV v u)
  (h:∀s',Inv X F6 (σ.set i (some v)) H s'->(∃a,Heap.SameBut a s.heap s'.heap/\(a=X.env.locals\/X.env.cells.lookup x=some a))->Q () s') (hf:autoParam (X.fn x=true\/X.env.scope.names.lookup x=some .local) ZW):wpAny M A (storeName X.env x u) Q E s:=by
 obtain⟨m,hn,hl⟩:=id I.loc;have Kg:(X.env.scope.kind== .class||(X.env.scope.kind== .module&&X.env.locals !=X.env.globals))=false:=by rw [I.ok.kind];rfl
 have Td:i<σ.length:=by rw [I.len];exact(Af.mp hi).1
 have cne:=I.cne;have tracked:∀{a} {h'},(∃o,s.heap.get? a='g'/\H a=none)->Heap.SameBut a s.heap h'->HK X.prog X.w H h':=λ {a h'} ha hs b ob e=>by
  obtain⟨_,_,Hf⟩:=ha;refine(I.hok b ob e).stay (λ c w' hc q=>(hs.2 c ?_).trans q) (λ _ q=>q) λ _ _ q=>q
  rintro rfl;rcases hc with rfl|hc
  ·rw [Hf] at e;cases e
  ·rw [Hf] at hc;cases hc
 rcases hx with hk|hk
 ·refine wpAny_storeName_local hk hn (λ h' VM hs=>?_) Kg;obtain⟨oL,_,_,SN,_⟩:=id hn;refine h _ ⟨I.ok,I.os,I.bare,⟨λ b o e n hb hx=>?_,λ b o e n hb hx=>?_,I.base.free,λ b o e hx=>?_,I.base.tups,I.base.frzs,I.base.tbls⟩,⟨_,VM,λ j y v' e1 e2 e3=>?_⟩,λ y c e=>?_,I.free,I.freeC,λ p hp=>?_,tracked ⟨oL,SN,I.free⟩ hs,by simpa using I.len⟩ ⟨_,hs,.inl rfl⟩
  ·exact(hs.2 b (A7 (Ap (AA e) I.ok.above))).trans (I.base.keep b o e n hb hx)
  ·obtain⟨sl,e1⟩:=I.base.slot b o e n hb hx;exact⟨sl,(hs.2 b (A7 (Ap (AA e) I.ok.above))).trans e1⟩
  ·obtain⟨o',e1⟩:=I.base.there b o e hx;exact⟨o',(hs.2 b (A7 (Ap (AA e) I.ok.above))).trans e1⟩
  ·by_cases hj:j=i
   ·subst hj;rw [hi] at e1;cases e1;rw [Ca Td] at e2;cases e2;exact⟨u,r,.inl ⟨hk,Z6⟩⟩
   ·rw [CM (B7 hj)] at e2;obtain⟨u',r',q⟩:=hl j y v' e1 e2 e3;refine⟨u',r',?_⟩;rcases q with⟨k,e⟩|⟨k,c,e,z⟩
    ·refine .inl ⟨k,?_⟩;have:y≠x:=λ e=>hj (iO hN e1 (e▸hi))
     simp [this,e]
    ·exact .inr ⟨k,c,e,z.sameBut hs (cne y c e)⟩
  ·obtain⟨w',z⟩:=I.cell y c e;exact⟨w',z.sameBut hs (cne y c e)⟩
  ·obtain⟨e,n,ne,nf,d⟩:=I.pin p hp;exact⟨(hs.2 p.1 ne).trans e,n,ne,nf,d⟩
 ·have Tn:X.fn x=true:=by
   rcases hf with z|z
   ·exact z
   ·rw [z] at hk;cases hk
  obtain⟨c,hc⟩:=I.ok.has x (.inl hk);obtain⟨w',z⟩:=I.cell x c hc;refine wpAny_storeName_cell I.ok.kind hk hc z (λ h' PH hs=>?_);obtain⟨oc,HH,YJ⟩:=id z;refine h {s with heap:=h'} ⟨I.ok,I.os,I.bare,⟨λ b o e n hb hx=>?_,λ b o e n hb hx=>?_,I.base.free,λ b o e hx=>?_,I.base.tups,I.base.frzs,I.base.tbls⟩,⟨m,hn.sameBut hs (B7 (cne x c hc)),λ j y v' e1 e2 e3=>?_⟩,λ y c' e=>?_,I.free,I.freeC,λ p hp=>?_,tracked ⟨oc,HH,I.freeC x c hc⟩ hs,by simpa using I.len⟩ ⟨c,hs,.inr hc⟩
  ·exact(hs.2 b (A7 (Ap (AA e) (I.ok.cab x c Tn hc)))).trans (I.base.keep b o e n hb hx)
  ·obtain⟨sl,e1⟩:=I.base.slot b o e n hb hx;exact⟨sl,(hs.2 b (A7 (Ap (AA e) (I.ok.cab x c Tn hc)))).trans e1⟩
  ·obtain⟨o',e1⟩:=I.base.there b o e hx;exact⟨o',(hs.2 b (A7 (Ap (AA e) (I.ok.cab x c Tn hc)))).trans e1⟩
  ·by_cases hj:j=i
   ·subst hj;rw [hi] at e1;cases e1;rw [Ca Td] at e2;cases e2;exact⟨u,r,.inr ⟨.inl hk,c,hc,PH⟩⟩
   ·rw [CM (B7 hj)] at e2;obtain⟨u',r',q⟩:=hl j y v' e1 e2 e3;refine⟨u',r',?_⟩;rcases q with q|⟨k,c',e,z'⟩
    ·exact .inl q
    ·refine .inr ⟨k,c',e,z'.sameBut hs ?_⟩;rintro rfl;exact hj (iO hN e1 (I.ok.inj _ _ _ e hc▸hi))
  ·by_cases hcc:c'=c
   ·subst hcc;exact⟨_,PH⟩
   ·obtain⟨w2,z2⟩:=I.cell y c' e;exact⟨w2,z2.sameBut hs hcc⟩
  ·obtain⟨e,n,ne,nf,d⟩:=I.pin p hp;refine⟨(hs.2 p.1 ?_).trans e,n,ne,nf,d⟩;intro q;rw [q,HH] at e;have q':oc=p.2:=AJ e;exact d w' (by rw [<-q'];exact YJ)
def gE {M:Model}{A:FX}(I:'b' s)(hN:X.N.Nodup)(hi:X.N[i]?=some x)(hx:Loc X.env.scope x)(r:RelV v u)
  (h:∀s',Inv X F6 (σ.set i (some v)) H s'->Q () s') (hf:autoParam (X.fn x=true\/X.env.scope.names.lookup x=some .local) ZW):wpAny M A (storeName X.env x u) Q E s:=
 ku I hN hi hx r (λ s' I' _=>h s' I') hf
def Inv.call' {s':FT}{ch:List FR}(I:'b' s)(ho:s'.os=s.os)(u:Un (frs X.stack) ch H H' s.heap s'.heap)(hok:HK X.prog X.w H' s'.heap)(hg:AllBare s'.gens)
  (Lh:∀b∈ch,(b∈X.ex\/X.s₀.heap.objs.size≤b)/\b≠X.env.locals/\(∀x c,X.env.cells.lookup x=some c->c≠b)/\∀p∈X.pn++F6,p.1≠b):Inv X F6 σ H' s':=by
 obtain⟨h',g',d',t',o'⟩:=s';have e:o'=s.os:=ho;subst e;exact I.call (g':=g') u hok hg Lh
end
abbrev XK:=FS->Option FR->Hp->Prop
abbrev St:=List (Option V)
abbrev VK:=V->Hp->Prop
abbrev TE:=St->Hp->VK->Prop
abbrev TT:=St->Hp->(Bool->Hp->Prop)->Prop
abbrev TA:=St->Hp->(List V->Hp->Prop)->Prop
structure Ends where
 nx:St->Hp->Prop
 rt:VK
 bk:St->Hp->Prop:=λ _ _=>False
 ct:St->Hp->Prop:=λ _ _=>False
abbrev TS:=Ends->St->Hp->Prop
def EP (X:Cx)(F6:List (FR×F1))(σ:St)(Q:VK)(u:FS)(s':FT):Prop:=∃v H',Inv X F6 σ H' s'/\RelV v u/\Q v H'
def TP (X:Cx)(F6:List (FR×F1))(σ:St)(Q:Bool->Hp->Prop)(b:Bool)(s':FT):Prop:=∃H',Inv X F6 σ H' s'/\Q b H'
def AP (X:Cx)(F6:List (FR×F1))(σ:St)(Q:List V->Hp->Prop)(us:List FS)(s':FT):Prop:=∃vs H',Inv X F6 σ H' s'/\Vals vs us/\Q vs H'
def SP (X:Cx)(F6:List (FR×F1))(D:Ends)(f:Flow)(s':FT):Prop:=
 match f with
 | .next=>∃σ' H',Inv X F6 σ' H' s'/\D.nx σ' H'
 | .brk=>∃σ' H',Inv X F6 σ' H' s'/\D.bk σ' H'
 | .cont=>∃σ' H',Inv X F6 σ' H' s'/\D.ct σ' H'
 | .ret u=>∃v σ' H',Inv X F6 σ' H' s'/\RelV v u/\D.rt v H'
def PE (X:Cx)(e:FZ)(t:TE):Prop:=
 ∀(F6:List (FR×F1)) (s:FT) (σ:St) (H:Hp) Q,'b' s->t σ H Q->wpAny 'd' X.A (eval e X.env) (EP X F6 σ Q) X.xe s
def PT (X:Cx)(e:FZ)(t:TT):Prop:=
 ∀(F6:List (FR×F1)) (s:FT) (σ:St) (H:Hp) Q,'b' s->t σ H Q->wpAny 'd' X.A (isTrue e X.env (eval e X.env)) (TP X F6 σ Q) X.xe s
def PW (X:Cx)(e:FZ)(t:TT):Prop:=
 ∀(whole:Sem FS) (F6:List (FR×F1)) (s:FT) (σ:St) (H:Hp) (Q:Bool->Hp->Prop),'b' s->t σ H Q->wpAny 'd' X.A (isTrue e X.env whole) (TP X F6 σ Q) X.xe s
def PW.pt {X:Cx}{t:TT}(h:PW X e t):PT X e t:=h _
def PA (X:Cx)(es:List FZ)(t:TA):Prop:=
 ∀(pos:Pos) (F6:List (FR×F1)) (s:FT) (σ:St) H Q,'b' s->t σ H Q->wpAny 'd' X.A (spliced (backTo pos (starEach es X.env))) (AP X F6 σ Q) X.xe s
def PS (X:Cx)(st:F5)(t:TS):Prop:=
 ∀(F6:List (FR×F1)) (s:FT) (σ:St) H D,'b' s->t D σ H->wpAny 'd' X.A (exec st X.env) (SP X F6 D) X.xe s
def PSs (X:Cx)(st:List F5)(t:TS):Prop:=
 ∀(F6:List (FR×F1)) (s:FT) (σ:St) H D,'b' s->t D σ H->wpAny 'd' X.A (execs st X.env) (SP X F6 D) X.xe s
def thn {Q Q':α->FT->Prop}(h:wpAny M A t Q E s)(hQ:∀a s,Q a s->Q' a s):wpAny M A t Q' E s:=Br h hQ λ _ _ x=>x
section
variable {X:Cx}
inductive Gs (i:Nat) (σ:St) (H:Hp) (Q:VK):Prop
 |mk (v:_) (h0:σ[i]?=some (some v)) (h1:Q v H):Gs i σ H Q
def tC (v:V):TE:=λ _ H Q=>Q v H
def tW {i:Nat}{pos:Pos}(hN:X.N[i]?=some x)(hv:V5 X.env.scope x)(hd:'e')(Jm:autoParam ((x==("__classdict__":Str))=false) ZZ):PE X (.Name x pos) (Gs i):=by
 intro F6 s σ H Q I h;obtain⟨v,e,h⟩:=h;obtain⟨m,hn,hl⟩:=I.loc;obtain⟨u,r,l⟩:=hl i x v hN e hv;have fin:EP X F6 σ Q u s:=⟨v,H,I,r,h⟩;rcases l with⟨hk,hm⟩|⟨hk,c,hc,Hn⟩
 ·exact wpAny_Name (wpAny_loadName_local I.ok.kind hk hn hm fin) hd
 ·rcases hk with hk|hk
  ·exact wpAny_Name (wpAny_loadName_cell I.ok.kind hk hc Hn fin) hd
  ·exact wpAny_Name (wpAny_loadName_free I.ok.kind hk hc Hn fin Jm) hd
def ae {i j pos}:PE X (.Constant (.int i) j pos) (tC (.int i)):=λ _ _ _ H _ I h=>wpAny_Constant_int ⟨.int i,H,I.tok _,⟨_,rfl⟩,h⟩
def cO {b j pos}:PE X (.Constant (.bool b) j pos) (tC (.bl b)):=λ _ _ _ H _ I h=>Constant_bool ⟨.bl b,H,I,rfl,h⟩
def eC {j pos}:PE X (.Constant .none j pos) (tC .non):=λ _ _ _ H _ I h=>Constant_none ⟨.non,H,I,rfl,h⟩
def aX {x j pos}:PE X (.Constant (.str x) j pos) (tC (.str x)):=λ _ _ _ H _ I h=>Fo ⟨.str x,H,I.tok _,⟨_,rfl⟩,h⟩
def Gl (X:Cx)(x:Str):Prop:=X.env.kindOf x=some .globalImplicit
def cu {E:FS->FT->Prop}{F6:List (FR×F1)}{σ:St}(I:'b' s)(hg:Gl X x)(hm:X.mg x=some u)(h:Q u s)
  (hd:'e'):wpAny 'd' X.A (eval (.Name x pos) X.env) Q E s:=
 Calls.Name_function_global I.ok.kind hg (Calls.loadGlobal_global (by rw [I.ok.glob];exact I.mod.glob.keeps I.bk) hm h) hd
def eF {E:FS->FT->Prop}{F6:List (FR×F1)}{σ:St}{pos:Pos}(I:'b' s)(hg:Gl X x)(hm:X.mg x=none)(hv:bootBuiltins x=some u)(h:Q u s)
  (hn:autoParam (x≠ "__name__") ZZ) (hd:'e'):wpAny 'd' X.A (eval (.Name x pos) X.env) Q E s:=by
 obtain⟨mb,h1,h2⟩:=I.mod.blt;exact Calls.Name_function_global I.ok.kind hg (Calls.loadGlobal_builtin (by rw [I.ok.glob];exact I.mod.glob.keeps I.bk) hm (by rw [I.ok.blt];exact h1.keeps I.bk) ((h2 x hn).trans hv) h) hd
def aJ (hg:Gl X x)(hm:X.mg x=some u)(r:RelV v u)(hd:'e'):PE X (.Name x pos) (tC v):=
 λ _ _ _ H _ I h=>cu I hg hm ⟨v,H,I,r,h⟩ hd
def eB {pos:Pos}(hg:Gl X x)(hm:X.mg x=none)(hv:bootBuiltins x=some u)(r:RelV v u)(hn:autoParam (x≠ "__name__") ZZ)(hd:'e'):PE X (.Name x pos) (tC v):=
 λ _ _ _ H _ I h=>eF I hg hm hv ⟨v,H,I,r,h⟩ hn hd
variable {a b:FZ}{ta tb:TE}{pos:Pos}
def PC (X:Cx)(op:CmpOp)(a b:FZ)(t:TE):Prop:=
 ∀(F6:List (FR×F1)) (s:FT) (σ:St) (H:Hp) Q,'b' s->t σ H Q->
  wpAny 'd' X.A (eval a X.env) (λ v s₁=>wpAny 'd' X.A (eval b X.env) (λ u s₂=>wpAny 'd' X.A (compareOp op v u) (EP X F6 σ Q) X.xe s₂) X.xe s₁) X.xe s
def nz (b)(h:op≠ .In)(h2:op≠ .NotIn):behindInMarks op b=false:=by
 have e1:(op==CmpOp.In)=false:=by cases op<;>first|rfl|exact absurd rfl h
 have e2:(op==CmpOp.NotIn)=false:=by cases op<;>first|rfl|exact absurd rfl h2
 cases b
 case Set l k _=>show(k==0&&(op== .In||op== .NotIn)&&l.all (constantsAlone 8))=false;rw [e1,e2,Bool.or_self,Bool.and_false,Fq]
 all_goals rfl
def zv (ta:TE):TE:=λ σ H Q=>ta σ H λ x H1=>Q (.bl (!decide (x=.non))) H1
def RelV.none_iff (r:RelV x v):(v==Value.none)=decide (x=.non):=by
 cases x with
 |non=>cases r;rfl
 |bl _=>cases r;rfl
 |int _=>obtain⟨t,rfl⟩:=r;rfl
 |str _=>obtain⟨t,rfl⟩:=r;rfl
 |byt _=>obtain⟨t,rfl⟩:=r;rfl
 |flt _=>obtain⟨t,rfl⟩:=r;rfl
 |ref _=>cases r;rfl
 |ty _=>cases r;rfl
def wf {j pos'}(ha:PE X a ta):PC X .IsNot a (.Constant .none j pos') (zv ta):=by
 intro F6 s σ H Q I h;refine thn (ha F6 s σ H _ I h) λ v s1 z9=>?_
 obtain⟨x,H1,I1,r1,q1⟩:=z9;exact Constant_none (isnot_none_gen ⟨.bl _,H1,I1,by rw [r1.none_iff];rfl,q1⟩)
inductive Ue (Q:Bool->Hp->Prop) (x:V) (H1:Hp):Prop
 |mk (c:_) (h0:x=.bl c) (h1:Q c H1):Ue Q x H1
def tB (t:TE):TT:=λ σ H Q=>t σ H λ x H1=>Ue Q x H1
def oQ {op:CmpOp}(h:PC X op a b t)(h1:behindInMarks op b=false:=by first|exact nz _ Z9 Z9|rfl):PT X (.Compare a [op] [b] pos) (tB t):=by
 intro F6 s σ H Q I hw;refine wpAny_isTrue_Compare1 (thn (h F6 s σ H _ I hw) λ v s1 h1=>thn h1 λ u s2 h2=>thn h2 λ c s3 z9=>?_) h1;obtain⟨x,H1,I1,r1,q1⟩:=z9;obtain⟨d,rfl,q⟩:=q1;cases r1;exact Dd ⟨H1,I1,q⟩
def bX {e:FZ}(h:PE X e t)(he:autoParam (∀whole,isTrue e X.env whole=(do let v<-whole;standAt e.pos;holding [v] (truthy v))) ZX):PT X e (tB t):=by
  intro F6 s σ H Q I hw
  refine isTrue_plain (thn (h F6 s σ H _ I hw) λ v s1 z9=>?_) (he _)
  obtain⟨x,H1,I1,r1,q1⟩:=z9
  obtain⟨d,rfl,q⟩:=q1
  cases r1
  exact Dd ⟨H1,I1,q⟩
variable {tA Vj:TT}{rest:List FZ}
def zx (t u:TT):TT:=λ σ H Q=>t σ H λ c H1=>if c=true then u σ H1 Q else Q false H1
def tOr (t u:TT):TT:=λ σ H Q=>t σ H λ c H1=>if c=true then Q true H1 else u σ H1 Q
def zR (t:TT):TT:=λ σ H Q=>t σ H λ c H1=>Q (!c) H1
def iE (ha:PT X a tA):PW X (.BoolOp .And [a] pos) tA:=by
 intro wh F6 s σ H Q I h;refine isTrue_and (thn (ha F6 s σ H Q I h) λ c s1 e=>?_);cases c with
 |true=>exact isTrue_and_nil e
 |false=>exact e
def fX (ha:PT X a tA):PW X (.BoolOp .Or [a] pos) tA:=by
 intro wh F6 s σ H Q I h;refine isTrue_or (thn (ha F6 s σ H Q I h) λ c s1 e=>?_);cases c with
 |false=>exact isTrue_or_nil e
 |true=>exact e
def lf (ha:PT X a tA)(hb:PW X (.BoolOp .And (b::rest) pos) Vj):PW X (.BoolOp .And (a::b::rest) pos) (zx tA Vj):=by
 intro wh F6 s σ H Q I h;refine isTrue_and (thn (ha F6 s σ H _ I h) λ c s1 z9=>?_);obtain⟨H1,I1,q1⟩:=z9;cases c with
 |true=>exact hb wh F6 s1 σ H1 Q I1 q1
 |false=>exact⟨H1,I1,q1⟩
def jg (ha:PT X a tA)(hb:PW X (.BoolOp .Or (b::rest) pos) Vj):PW X (.BoolOp .Or (a::b::rest) pos) (tOr tA Vj):=by
 intro wh F6 s σ H Q I h;refine isTrue_or (thn (ha F6 s σ H _ I h) λ c s1 z9=>?_);obtain⟨H1,I1,q1⟩:=z9;cases c with
 |true=>exact⟨H1,I1,q1⟩
 |false=>exact hb wh F6 s1 σ H1 Q I1 q1
def cv (ha:PT X a tA):PT X (.UnaryOp .Not a pos) (zR tA):=by
 intro F6 s σ H Q I h;exact isTrue_not (ha F6 s σ H (λ c H1=>Q (!c) H1) I h)
inductive Mj (tb:TE) (σ:St) (Q:VK) (x:V) (H1:Hp):Prop
 |mk (c:_) (h0:x=.bl c) (h1:if c=true then tb σ H1 Q else Q (.bl false) H1):Mj tb σ Q x H1
def yR (ta tb:TE):TE:=λ σ H Q=>ta σ H λ x H1=>Mj tb σ Q x H1
inductive Mg (Q:VK) (x:V) (H1:Hp):Prop
 |mk (c:_) (h0:x=.bl c) (h1:Q (.bl (!c)) H1):Mg Q x H1
def zd (ta:TE):TE:=λ σ H Q=>ta σ H λ x H1=>Mg Q x H1
def g8 {op}{t:TE}(h:PE X a t):PE X (.BoolOp op [a] pos) t:=λ F6 s σ H Q I hw=>BoolOp_one (h F6 s σ H Q I hw)
def gQ (ha:PE X a ta)(hb:PE X (.BoolOp .And (b::rest) pos) tb):PE X (.BoolOp .And (a::b::rest) pos) (yR ta tb):=by
 intro F6 s σ H Q I h;refine BoolOp_and (thn (ha F6 s σ H _ I h) λ v s1 z9=>?_);obtain⟨x,H1,I1,r1,q1⟩:=z9;obtain⟨c,rfl,q1⟩:=q1;cases r1;refine Dd ?_;cases c with
 |true=>exact hb F6 s1 σ H1 Q I1 q1
 |false=>exact⟨.bl false,H1,I1,rfl,q1⟩
def uX (ha:PE X a ta):PE X (.UnaryOp .Not a pos) (zd ta):=by
 intro F6 s σ H Q I h;refine UnaryOp_ (thn (ha F6 s σ H _ I h) λ v s1 z9=>?_);obtain⟨x,H1,I1,r1,q1⟩:=z9;obtain⟨c,rfl,q1⟩:=q1;cases r1;exact not_of (Dd ⟨.bl (!c),H1,I1,rfl,q1⟩)
def Wl (t:TT)(ta tb:TE):TE:=λ σ H Q=>t σ H λ c H1=>if c=true then ta σ H1 Q else tb σ H1 Q
def fi {c:FZ}(hc:PT X c tA)(ha:PE X a ta)(hb:PE X b tb):PE X (.IfExp c a b pos) (Wl tA ta tb):=by
 intro F6 s σ H Q I h;refine wpAny_IfExp (thn (hc F6 s σ H _ I h) λ d s1 z9=>?_);obtain⟨H1,I1,q1⟩:=z9;cases d with
 |true=>exact ha F6 s1 σ H1 Q I1 q1
 |false=>exact hb F6 s1 σ H1 Q I1 q1
end
def Gf (K:Frag)(H:Hp)(a:FR)(xs:List V):Prop:=
 Rd H a (.lst xs)\/
  ∃(o:F1) (Gd:Array FS) (n:Nat),K.lookup a='g'/\o.cls=.type "list"/\o.dict=none/\o.data=.seq Gd n/\Gd.size≤sizeLine/\Vals xs Gd.toList
def GF (K:Frag)(H:Hp)(a:FR)(xs:List V):Prop:=
 Rd H a (.tup xs)\/
  ∃(o:F1) (Gd:Array FS) (n:Nat),K.lookup a='g'/\o.cls=.type "tuple"/\o.data=.seq Gd n/\Gd.size≤sizeLine/\Vals xs Gd.toList
noncomputable def z8:FS->Option V
 | .none=>some .non
 | .bool b=>some (.bl b)
 | .int i _=>some (.int i)
 | .str x _=>some (.str x)
 | .bytes b _=>some (.byt b)
 | .float b _=>some (.flt b)
 | .ref a=>↑a
 | .type n=>some (.ty n)
 |_=>none
def RelV.abs (r:RelV x u):z8 u=some x:=by
 cases x with
 |non=>cases r;rfl
 |bl _=>cases r;rfl
 |int _=>obtain⟨t,rfl⟩:=r;rfl
 |str _=>obtain⟨t,rfl⟩:=r;rfl
 |byt _=>obtain⟨t,rfl⟩:=r;rfl
 |flt _=>obtain⟨t,rfl⟩:=r;rfl
 |ref _=>cases r;rfl
 |ty _=>cases r;rfl
def RelV.inj (r:RelV x u)(q:RelV y u):x=y:=AJ (r.abs.symm.trans q.abs)
theorem Vals.inj (h:Vals xs us)(g:Vals ys us):xs=ys:=by
 induction h generalizing ys with
 |nil=>cases g;rfl
 |cons r _ ih=>cases g with
  |cons r' t'=>rw [r.inj r',ih t']
section
variable {X:Cx}{F6:List (FR × F1)}{σ:St}{H:Hp}{s:FT}{a:FR}{xs ys:List V}
def Gf.of {K:Frag}(h:H a=↥xs):Gf K H a xs:=.inl (.inl h)
def GF.of {K:Frag}(h:H a=some (.tup xs)):GF K H a xs:=.inl (.inl h)
def Inv.list (I:'b' s)(h:Gf X.K H a xs):∃Gd:List FS,Vals xs Gd/\PlainL s.heap a Gd.toArray/\xs.length≤sizeLine:=by
 rcases h with h|⟨o,Gd,n,hk,hc,hd,hs,hz,r⟩
 ·obtain⟨z,Gd,n,r,e⟩:=h.ok I.hok;exact⟨Gd,r,⟨_,n,e,rfl,rfl,rfl⟩,z⟩
 ·refine⟨Gd.toList,r,⟨o,n,I.kIn a o hk,hc,hd,by simpa using hs⟩,?_⟩;have e:=r.length;simp only [Ch] at e;exact Cq e hz
def Inv.tuple (I:'b' s)(h:GF X.K H a xs):∃Gd:List FS,Vals xs Gd/\IsTup s.heap a Gd.toArray/\xs.length≤sizeLine:=by
 rcases h with h|⟨o,Gd,n,hk,hc,hs,hz,r⟩
 ·obtain⟨z,Gd,r,p⟩:=h.ok I.hok;exact⟨Gd,r,p,z⟩
 ·refine⟨Gd.toList,r,⟨o,I.kIn a o hk,hc,n,by simpa using hs⟩,?_⟩;have e:=r.length;simp only [Ch] at e;exact Cq e hz
def Inv.list_inj (I:'b' s)(h:Gf X.K H a xs)(h':Gf X.K H a ys):xs=ys:=by
 obtain⟨Gd,r,⟨o,n,e,_,_,d⟩,_⟩:=I.list h;obtain⟨its',r',⟨o',n',e',_,_,d'⟩,_⟩:=I.list h';rw [e] at e';cases e';rw [d] at d';injection d' with d1 _
 have:Gd=its':=by simpa using Bx Array.toList d1
 subst this;exact r.inj r'
def Inv.tuple_inj (I:'b' s)(h:GF X.K H a xs)(h':GF X.K H a ys):xs=ys:=by
 obtain⟨Gd,r,⟨o,e,_,n,d⟩,_⟩:=I.tuple h;obtain⟨its',r',⟨o',e',_,n',d'⟩,_⟩:=I.tuple h';rw [e] at e';cases e';rw [d] at d';injection d' with d1 _
 have:Gd=its':=by simpa using Bx Array.toList d1
 subst this;exact r.inj r'
end
noncomputable abbrev Cx.wish (X:Cx) (E:FS->FT->Prop):Cx:={X with xe:=E}
noncomputable abbrev Cx.nox (X:Cx):Cx:=X.wish λ _ _=>False
theorem Cx.Ok.wish {X:Cx}(ok:X.Ok)(E:FS->FT->Prop):(X.wish E).Ok:=
 ⟨ok.mod,ok.kind,ok.glob,ok.blt,ok.above,ok.inj,ok.has,ok.cab,ok.hd,ok.frames,ok.stk,ok.exf,ok.bs,ok.bsz,ok.noex,ok.exfs,ok.funs,ok.frf⟩
def Cx.Ok.unwish {X:Cx}{E:FS->FT->Prop}(ok:(X.wish E).Ok):X.Ok:=
 ⟨ok.mod,ok.kind,ok.glob,ok.blt,ok.above,ok.inj,ok.has,ok.cab,ok.hd,ok.frames,ok.stk,ok.exf,ok.bs,ok.bsz,ok.noex,ok.exfs,ok.funs,ok.frf⟩
section
variable {X:Cx}{F6:List (FR × F1)}{σ:St}{H:Hp}{s:FT}{E:FS -> FT -> Prop}
theorem Inv.wish (I:'b' s)(E:FS->FT->Prop):Inv (X.wish E) F6 σ H s:=⟨I.ok.wish E,I.os,I.bare,I.base,I.loc,I.cell,I.free,I.freeC,I.pin,I.hok,I.len⟩
theorem Inv.unwish (I:Inv (X.wish E) F6 σ H s):'b' s:=⟨I.ok.unwish,I.os,I.bare,I.base,I.loc,I.cell,I.free,I.freeC,I.pin,I.hok,I.len⟩
theorem SP.unwish {D:Ends}{f:Flow}{s':FT}(h:SP (X.wish E) F6 D f s'):SP X F6 D f s':=by
 cases f with
 |next=>obtain⟨σ',H',I,q⟩:=h;exact⟨σ',H',I.unwish,q⟩
 |brk=>obtain⟨σ',H',I,q⟩:=h;exact⟨σ',H',I.unwish,q⟩
 |cont=>obtain⟨σ',H',I,q⟩:=h;exact⟨σ',H',I.unwish,q⟩
 |ret u=>obtain⟨v,σ',H',I,r,q⟩:=h;exact⟨v,σ',H',I.unwish,r,q⟩
theorem PSs.nox {st:List F5}(h:PSs X.nox st t):PSs X st t:=λ F6 s σ H D I hw=>
 Br (h F6 s σ H D (I.wish _) hw) (λ _ _ q=>q.unwish) λ _ _ z=>False.elim z
end
section
variable {X:Cx}{st:F5}{rest:List F5}{t u:TS}{e:FZ}{te:TE}{pos:Pos}
def y0:TS:=λ D σ H=>D.nx σ H
def yS (t u:TS):TS:=λ D σ H=>t {D with nx:=u D} σ H
def aF:PSs X [] y0:=λ _ _ σ H _ I h=>DI ⟨σ,H,I,h⟩
def ad (h1:PS X st t)(h2:PSs X rest u):PSs X (st::rest) (yS t u):=by
 intro F6 s σ H D I h;refine wpAny_execs_cons (thn (h1 F6 s σ H {D with nx:=u D} I h) λ f s1 q=>?_);cases f with
 |next=>
  obtain⟨σ',H',I',q⟩:=q;exact h2 F6 s1 σ' H' D I' q
 |ret v=>exact q
 |brk=>exact q
 |cont=>exact q
def ag (h1:PS X st t):PSs X [st] t:=by
 intro F6 s σ H D I h;refine wpAny_execs_cons (thn (h1 F6 s σ H D I h) λ f s1 q=>?_);cases f with
 |next=>exact DI q
 |ret v=>exact q
 |brk=>exact q
 |cont=>exact q
def yF:TS:=λ D σ H=>D.bk σ H
def tK:PS X (.Break pos) yF:=λ _ _ σ H _ I h=>wpAny_Break ⟨σ,H,I,h⟩
def Inv.quiet {F6:List (FR×F1)}{σ:St}{H:Hp}(I:'b' s):interactive X.env=false:=by simp [interactive,I.ok.kind]
def zh (te:TE):TS:=λ D σ H=>te σ H λ _ H1=>D.nx σ H1
def aE (he:PE X e te)(hs:autoParam (swapsWith e none pos.line X.env=pure false) Z0):PS X (.Expr e pos) (zh te):=by
 intro F6 s σ H D I h;exact wpAny_Expr_any (thn (he F6 s σ H _ I h) λ v s1 z9=>by obtain⟨x,H1,I1,r1,q1⟩:=z9;exact⟨σ,H1,I1,q1⟩) I.quiet hs
def yc (te:TE):TS:=λ D σ H=>te σ H D.rt
def aB (he:PE X e te):PS X (.Return (some e) pos) (yc te):=by
 intro F6 s σ H D I h;exact wpAny_Return_some (thn (he F6 s σ H _ I h) λ v s1 z9=>by obtain⟨x,H1,I1,r1,q1⟩:=z9;exact⟨x,σ,H1,I1,r1,q1⟩)
def yC (c:TT)(t u:TS):TS:=λ D σ H=>c σ H λ b H1=>if b=true then t D σ H1 else u D σ H1
def aM {c:FZ}{a b:List F5}{tc:TT}(hc:PT X c tc)(ha:PSs X a t)(hb:PSs X b u):PS X (.If c a b pos) (yC tc t u):=by
 intro F6 s σ H D I h;refine wpAny_If (thn (hc F6 s σ H _ I h) λ d s1 z9=>?_);obtain⟨H1,I1,q1⟩:=z9;cases d with
 |true=>exact ha F6 s1 σ H1 D I1 q1
 |false=>exact hb F6 s1 σ H1 D I1 q1
def sM:TS:=λ _ _ _=>False
def bN:PS X st sM:=λ _ _ _ _ _ _ h=>h.elim
def bP {sts:List F5}:PSs X sts sM:=λ _ _ _ _ _ _ h=>h.elim
end
abbrev TG:=V->St->Hp->(St->Hp->Prop)->Prop
abbrev Yf:=List V->St->Hp->(St->Hp->Prop)->Prop
def PG (X:Cx)(Ga:FZ)(t:TG):Prop:=
 ∀(F6:List (FR×F1)) (s:FT) (σ:St) H v u Q,'b' s->RelV v u->t v σ H Q->
  wpAny 'd' X.A (assign Ga X.env u) (λ _ s'=>∃σ' H',Inv X F6 σ' H' s'/\Q σ' H') X.xe s
def V8 (X:Cx)(ts:List FZ)(t:Yf):Prop:=
 ∀(F6:List (FR×F1)) (s:FT) (σ:St) H vs us Q,'b' s->Vals vs us->t vs σ H Q->
  wpAny 'd' X.A (assignInOrder ((assignEach ts X.env).map (·.2)) us) (λ _ s'=>∃σ' H',Inv X F6 σ' H' s'/\Q σ' H') X.xe s
abbrev yl:=V->V->V->Hp->(Hp->Prop)->Prop
def zm (X:Cx)(t:yl):Prop:=
 ∀(F6:List (FR×F1)) (s:FT) (σ:St) H o i v ov iv u Q,'b' s->RelV o ov->RelV i iv->RelV v u->t o i v H Q->
  wpAny 'd' X.A (setItem ov iv u) (λ _ s'=>∃H',Inv X F6 σ H' s'/\Q H') X.xe s
section
variable {X:Cx}{pos:Pos}
def bw (i:Nat):TG:=λ v σ H Q=>Q (σ.set i (some v)) H
def aG {i:Nat}{x:Str}(hN:X.N.Nodup)(hi:autoParam (X.N[i]?=some x) Z0)(hx:autoParam (Loc X.env.scope x) ZW)(hf:autoParam (X.fn x=true\/X.env.scope.names.lookup x=some .local) ZW):PG X (.Name x pos) (bw i):=by
 intro F6 s σ H v u Q I r h;exact wpAny_assign_Name (gE I hN hi hx r (λ s' I'=>⟨_,H,I',h⟩) hf)
inductive Lz (vs:List V) (σ:St) (H:Hp) (Q:St->Hp->Prop):Prop
 |mk (h0:vs=[]) (h1:Q σ H):Lz vs σ H Q
inductive HF (t:TG) (u:Yf) (vs:List V) (σ:St) (H:Hp) (Q:St->Hp->Prop):Prop
 |mk (v:_) (r:_) (h0:vs=v::r) (h1:t v σ H λ σ' H'=>u r σ' H' Q):HF t u vs σ H Q
def df:V8 X [] Lz:=by
 intro F6 s σ H vs us Q I r h;obtain⟨e,h⟩:=h;subst e;cases r;exact assignInOrder_nil ⟨σ,H,I,h⟩
def bh {e:FZ}(h1:PG X e t)(h2:V8 X es u)
  (hs:autoParam ((assignEach (e::es) X.env).map (·.2)=assign e X.env::(assignEach es X.env).map (·.2)) Z0):V8 X (e::es) (HF t u):=by
 intro F6 s σ H vs us Q I r h;obtain⟨v,vr,e1,h⟩:=h;subst e1;cases r with
 |cons r rr=>
  rw [hs];refine assignInOrder_cons (thn (h1 F6 s σ H _ _ _ I r h) λ _ s1 z9=>?_);obtain⟨σ1,H1,I1,q1⟩:=z9;exact h2 F6 s1 σ1 H1 _ _ Q I1 rr q1
inductive Ly (K:Frag) (n:Nat) (t:Yf) (v:V) (σ:St) (H:Hp) (Q:St->Hp->Prop):Prop
 |mk (a:_) (xs:_) (h0:v=.ref a) (h1:GF K H a xs) (h2:xs.length=n) (h3:t xs σ H Q):Ly K n t v σ H Q
def dR {es:List FZ}{k:Nat}(hc:X.calm=true)(h:V8 X es t)
  (hn:autoParam ((assignEach es X.env).length=n) Z0) (HY:autoParam ((assignEach es X.env).findIdx? (·.1)=none) Z0):PG X (.Tuple es k pos) (Ly X.K n t):=by
 intro F6 s σ H v u Q I r hw;obtain⟨a,xs,e1,hq,hl,hw⟩:=hw;subst e1;cases r;obtain⟨Gd,rv,ht,hz⟩:=I.tuple hq;refine QQ.JH I.hq ht (by simp [hn,<-hl,rv.length]) HY λ h' hx=>?_
 have I1:'b' {s with heap:=h'}:=I.kept (t':=s.toks) λ b o e=>hx b o (A7 (AA e)) e
 exact h F6 _ σ H xs _ Q I1 (by simpa using rv) hw
def zN (to ti:TE)(t:yl):TG:=λ v σ H Q=>to σ H λ o H1=>ti σ H1 λ i H2=>t o i v H2 λ H3=>Q σ H3
def gP {o i:FZ}{to ti:TE}{t:yl}(ho:PE X o to)(hi:PE X i ti)(hs:zm X t)
    (ha:autoParam (∀v,assign (.Subscript o i pos) X.env v=(do
      let ov<-holding [v] (eval o X.env)
      let iv<-holding [v,ov] (eval i X.env)
      standAt pos
      holding [v,ov,iv] (setItem ov iv v)
      release [v,ov,iv] [])) ZX):PG X (.Subscript o i pos) (zN to ti t):=by
  intro F6 s σ H v u Q I r h
  rw [ha]
  refine Ab (BI (thn (ho F6 s σ H _ I h) λ ov s1 z9=>?_))
  obtain⟨x,H1,I1,r1,q1⟩:=z9
  refine Ab (BI (thn (hi F6 s1 σ H1 _ I1 q1) λ iv s2 z9=>?_))
  obtain⟨y,H2,I2,r2,q2⟩:=z9
  refine Ab (Dp (Ab (BI (thn (hs F6 s2 σ H2 x y v ov iv u _ I2 r1 r2 r q2) λ _ s3 z9=>?_))))
  obtain⟨H3,I3,q3⟩:=z9
  exact wpAny_release ⟨σ,H3,I3,q3⟩
def nX (te:TE)(g:TG):TS:=λ D σ H=>te σ H λ x H1=>g x σ H1 D.nx
def fh {tg e:FZ}{te:TE}{g:TG}(he:PE X e te)(hg:PG X tg g)(hs:autoParam (swapsWithSole [tg] e pos.line X.env=pure false) Z0)(hw:autoParam (swappedStores [tg] e X.env=pure none) Z0)
  (h1:autoParam ((assignEach [tg] X.env).map (·.2)=[assign tg X.env]) Z0):PS X (.Assign [tg] e pos) (nX te g):=by
 intro F6 s σ H D I h;refine wpAny_Assign_stores (thn (he F6 s σ H _ I h) λ v s1 z9=>?_) hs hw;obtain⟨x,H1,I1,r1,q1⟩:=z9;rw [h1];exact thn (hg F6 s1 σ H1 x v _ I1 r1 q1) λ _ s2 q=>q
def aq {i:Nat}{x:Str}{e:FZ}{pos':Pos}(hN:X.N.Nodup)(he:PE X e te)(hi:autoParam (X.N[i]?=some x) Z0)(hx:autoParam (Loc X.env.scope x) ZW)(hs:autoParam (swapsWith e (some (.Name x pos')) pos.line X.env=pure false) Z0)(hf:autoParam (X.fn x=true\/X.env.scope.names.lookup x=some .local) ZW):
  PS X (.Assign [.Name x pos'] e pos) (nX te (bw i)):=by
 intro F6 s σ H D I h;refine wpAny_Assign_Name (thn (he F6 s σ H _ I h) λ v s1 z9=>?_) hs;obtain⟨y,H1,I1,r1,q1⟩:=z9;exact gE I1 hN hi hx r1 (λ s2 I2=>⟨_,H1,I2,q1⟩) hf
inductive N5 (c:TT) (tb:TS) (D:Ends) (σ:St) (H:Hp):Prop
 |mk (W:Nat->St->Hp->Prop) (h0:(∃m,W m σ H)) (h1:∀m σ H,W m σ H->c σ H λ b H1=>if b=true then∃N,(∀σ' H',N σ' H'->∃m',m'<m/\W m' σ' H')/\tb {D with nx:=N,ct:=N,bk:=D.nx} σ H1 else D.nx σ H1):N5 c tb D σ H
def cA {c:FZ}{body:List F5}{tb:TS}(hp:PassesOwn 'd' X.A X.env X.xe)(hc:PT X c tc)(hb:PSs X body tb):PS X (.While c body [] pos) (N5 tc tb):=by
 intro F6 s σ H D I h;obtain⟨W,⟨m0,w0⟩,turn⟩:=h;refine wpAny_While (codeAny_whileLoop (λ n s'=>∃σ' H',Inv X F6 σ' H' s'/\W n σ' H') ?_ m0 ⟨σ,H,I,w0⟩);rintro n s1 ⟨σ1,H1,I1,w1⟩;refine De hp (thn (hc F6 s1 σ1 H1 _ I1 (turn n σ1 H1 w1)) λ b s2 z9=>?_);obtain⟨H2,I2,q2⟩:=z9;cases b with
 |true=>
  obtain⟨N,hN,q2⟩:=q2;rw [AK rfl];refine De hp (thn (hb F6 s2 σ1 H2 _ I2 q2) λ f s3 q3=>?_);cases f with
  |next=>
   obtain⟨σ3,H3,I3,n3⟩:=q3;obtain⟨m',hm,w3⟩:=hN σ3 H3 n3;exact⟨m',hm,σ3,H3,I3,w3⟩
  |cont=>
   obtain⟨σ3,H3,I3,n3⟩:=q3;obtain⟨m',hm,w3⟩:=hN σ3 H3 n3;exact⟨m',hm,σ3,H3,I3,w3⟩
  |brk=>exact q3
  |ret v=>exact q3
 |false=>
  rw [AH Ax];exact DI ⟨σ1,H2,I2,q2⟩
end
structure It where
 go:Nat->Hp->Prop
 yld:Nat->Hp->V->Hp->Prop
 stop:Nat->Hp->Prop
def G0 (X:Cx)(F6:List (FR×F1))(H:Hp)(b:FR):Prop:=
 H b=none/\b≠X.env.locals/\b∉X.fs/\(b∈X.ex\/X.s₀.heap.objs.size≤b)/\(∀x c,X.env.cells.lookup x=some c->c≠b)/\∀p∈X.pn++F6,p.1≠b
def Inv.fpOk {X:Cx}{F6:List (FR×F1)}{σ:St}{b:FR}(I:'b' s)(hb:s.heap.objs.size≤b)(hn:H' b=none):G0 X F6 H' b:=by
 refine⟨hn,DH (Ap I.lt hb),I.nofs hb,.inr (Ai I.sz hb),λ x c e z=>?_,λ p hp z=>?_⟩
 ·obtain⟨v,q⟩:=I.cell x c e;exact absurd (Ap q.lt (by rw [z];exact hb)) (BK _)
 ·exact absurd (Ap (AA (I.pin p hp).1) (by rw [z];exact hb)) (BK _)
structure Turn (P:FU)(w:FV)(K:Frag)(tg:FZ)(J:It)(fp:List FR)(it:FR)(tn:Nat->FY->Prop):Prop where
 mem:it∈fp
 obj:∀i h,tn i h->∀b∈fp,∃o,h.get? b='g'/\∀v,o.data≠ .cell v
 keep:∀i h h',tn i h->(∀b∈fp,∀o,h.get? b='g'->h'.get? b='g')->tn i h'
 item:∀(X:Cx),X.prog=P->X.w=w->X.K=K->X.calm=true->∀(i:Nat) (F6:List (FR×F1)) (s:FT) (σ:St) (H:Hp) (E:FS->FT->Prop),'b' s->(∀b∈fp,G0 X F6 H b)->tn i s.heap->J.go i H->
  wpAny (model P w) X.A (pyNext (.ref it)) (λ r s1=>∃u,r=some u/\
   wpAny (model P w) X.A (letOwnedTupleGo tg (.ref it) u) (λ _ s2=>∃x H',Inv X F6 σ H' s2/\RelV x u/\J.yld i H x H'/\tn (i+1) s2.heap/\∀b∈fp,H' b=none) E s1) E s
 done:∀(X:Cx),X.prog=P->X.w=w->X.K=K->X.calm=true->∀(i:Nat) (F6:List (FR×F1)) (s:FT) (σ:St) (H:Hp) (E:FS->FT->Prop),'b' s->(∀b∈fp,G0 X F6 H b)->tn i s.heap->J.stop i H->
  wpAny (model P w) X.A (pyNext (.ref it)) (λ r s1=>r=none/\'b' s1) E s
 self:∀(A:FX) (i:Nat) (s:FT) (Q:FS->FT->Prop) (E:FS->FT->Prop),tn i s.heap->Q (.ref it) s->wpAny (model P w) A (pyIter (.ref it)) Q E s
abbrev TI:=St->Hp->(It->Hp->Prop)->Prop
def PIE (X:Cx)(F6:List (FR×F1))(σ:St)(tg:FZ)(R:It->Hp->Prop)(WU:FS)(s2:FT):Prop:=
 ∃(it:FR) (fp:List FR) (tn:Nat->FY->Prop) (J:It) (H':Hp),WU=.ref it/\Inv X F6 σ H' s2/\Turn X.prog X.w X.K tg J fp it tn/\tn 0 s2.heap/\(∀b∈fp,G0 X F6 H' b)/\R J H'
def PI (X:Cx)(tg iter:FZ)(wi:TI):Prop:=
 ∀(F6:List (FR×F1)) (s:FT) (σ:St) H (R:It->Hp->Prop),'b' s->wi σ H R->
  wpAny 'd' X.A (eval iter X.env) (λ v s1=>wpAny 'd' X.A (pyIter v) (PIE X F6 σ tg R) X.xe s1) X.xe s
def jP (ho:s.heap.get? it='g')(hc:o.cls=.type n)(hd:o.data=.fields vs)
  (hn: ["enumerate","zip","dict_itemiterator","dict_reverseitemiterator","odict_iterator","itertools.zip_longest","itertools.pairwise"].contains n=false) (hQ:Q () s):wpAny M A (letOwnedTupleGo tg (.ref it) u) Q E s:=by
 unfold letOwnedTupleGo;cases tg<;>first
  |exact AG hQ
  |(cases u<;>first
    |exact AG hQ
    |(refine Ab (wpAny_load ho ?_)
      rw [hc,hd];show wpAny M A (if(["enumerate","zip","dict_itemiterator","dict_reverseitemiterator","odict_iterator","itertools.zip_longest","itertools.pairwise"].contains n&&vs[0]?==some (rawInt _))=true then _ else _) Q E s;rw [AH (by intro h;rw [hn,Fq] at h;cases h)];exact AG hQ))
def L7 (K:Frag)(a:FR):It:=
 ⟨λ i H=>∃xs x,Gf K H a xs/\xs[i]?=some x,λ i H x H'=>H'=H/\∀xs,Gf K H a xs->xs[i]?=some x,λ i H=>∃xs,Gf K H a xs/\xs.length≤i⟩
def T5 (K:Frag)(a:FR):It:=
 ⟨λ i H=>∃xs x,GF K H a xs/\xs[i]?=some x,λ i H x H'=>H'=H/\∀xs,GF K H a xs->xs[i]?=some x,λ i H=>∃xs,GF K H a xs/\xs.length≤i⟩
def MU (lo:Int)(n:Nat):It:=⟨λ i _=>i<n,λ i H x H'=>H'=H/\x=.int (lo+i),λ i _=>n≤i⟩
def rD {P:FU}{w:FV}{K:Frag}{tg:FZ}(a it:FR):Turn P w K tg (L7 K a) [it] it (λ i h=>h.IsListIter it a i) where
 mem:=Z6
 obj:=λ i h st b hb=>by
  have e:b=it:=by simpa using hb
  subst e;obtain⟨o,e,c,d⟩:=st;exact⟨o,e,λ v z=>by rw [d] at z;cases z⟩
 keep:=λ i h h' st k=>st.at λ o e=>k it Z6 o e
 item:=by
  intro 'c';obtain⟨xs,x,hq,hx⟩:=hg;obtain⟨Gd,rv,p,hz⟩:=I.list hq;obtain⟨u,hu,ru⟩:=rv.get hx;obtain⟨f0,f1,f2,f3,f4,f5⟩:=hf it Z6;refine wpAny_pyNext_list_item st p.isList (by simpa using hu) λ h' Gv sb=>?_
  have I1:'b' {s with heap:=h'}:=I.turned (λ b o hb e=>(sb.2 b hb).trans e) f0 f1 f3 f4 f5;obtain⟨o,e,c,d⟩:=id Gv;exact⟨u,rfl,jP e c d Z9 ⟨x,H,I1,ru,⟨rfl,λ ys hy=>by rw [I.list_inj hy hq];exact hx⟩,Gv,λ b hb=>(hf b hb).1⟩⟩
 done:=by
  intro 'c';obtain⟨xs,hq,hx⟩:=hg;obtain⟨Gd,rv,p,hz⟩:=I.list hq;obtain⟨f0,f1,f2,f3,f4,f5⟩:=hf it Z6;have hl:=rv.length;exact QQ.LP I.hq st p.isList (by simp;exact Cq hl.symm hx) λ h' eb=>⟨rfl,I.turned (λ b o hb e=>eb b o hb e) f0 f1 f3 f4 f5⟩
 self:=λ _ _ _ _ _ st h=>wpAny_pyIter_listiter st h
def oP {P:FU}{w:FV}{K:Frag}{tg:FZ}(a it:FR):Turn P w K tg (T5 K a) [it] it (λ i h=>h.IsTupleIter it a i) where
 mem:=Z6
 obj:=λ i h st b hb=>by
  have e:b=it:=by simpa using hb
  subst e;obtain⟨o,e,c,d⟩:=st;exact⟨o,e,λ v z=>by rw [d] at z;cases z⟩
 keep:=λ i h h' st k=>st.at λ o e=>k it Z6 o e
 item:=by
  intro 'c';obtain⟨xs,x,hq,hx⟩:=hg;obtain⟨Gd,rv,p,hz⟩:=I.tuple hq;obtain⟨u,hu,ru⟩:=rv.get hx;obtain⟨f0,f1,f2,f3,f4,f5⟩:=hf it Z6;refine wpAny_pyNext_tuple_item st (show s.heap.IsTuple a Gd.toArray from p) (by simpa using hu) λ h' Gv sb=>?_
  have I1:'b' {s with heap:=h'}:=I.turned (λ b o hb e=>(sb.2 b hb).trans e) f0 f1 f3 f4 f5;obtain⟨o,e,c,d⟩:=id Gv;exact⟨u,rfl,jP e c d Z9 ⟨x,H,I1,ru,⟨rfl,λ ys hy=>by rw [I.tuple_inj hy hq];exact hx⟩,Gv,λ b hb=>(hf b hb).1⟩⟩
 done:=by
  intro 'c';obtain⟨xs,hq,hx⟩:=hg;obtain⟨Gd,rv,p,hz⟩:=I.tuple hq;obtain⟨f0,f1,f2,f3,f4,f5⟩:=hf it Z6;have hl:=rv.length;exact QQ.IQ I.hq st (show s.heap.IsTuple a Gd.toArray from p) (by simp;exact Cq hl.symm hx) λ h' eb=>⟨rfl,I.turned (λ b o hb e=>eb b o hb e) f0 f1 f3 f4 f5⟩
 self:=λ _ _ _ _ _ st h=>wpAny_pyIter_tupleiter st h
def oj {P:FU}{w:FV}{K:Frag}(it)(lo)(n):Turn P w K tg (MU lo n) [it] it (λ i h=>IsRangeIter h it (lo+(i:Nat)*1) ((n:Int)-(i:Nat)) 1) where
 mem:=Z6
 obj:=λ i h st b hb=>by
  have e:b=it:=by simpa using hb
  subst e;exact⟨_,st,λ v z=>by
   have z':Data.fields _=Data.cell v:=z;cases z'⟩
 keep:=λ i h h' st k=>k it Z6 _ st
 item:=by
  intro 'c';obtain⟨f0,f1,f2,f3,f4,f5⟩:=hf it Z6;refine wpAny_pyNext_range_item st (by have:i<n:=hg;lia) λ h' OM sb=>?_
  have Gv:IsRangeIter h' it (lo+⇑(i+1)*1) ((n:Int)-⇑(i+1)) 1:=by
   have e1:lo+⇑(i+1)*1=lo+(i:Int)*1+1:=Z5;have e2:(n:Int)-⇑(i+1)=(n:Int)-(i:Int)-1:=Z5;rw [e1,e2];exact OM
  have I1:'b' {s with heap:=h',toks:=s.toks+1}:=I.turned (λ b o hb e=>sb.extBut b o hb e) f0 f1 f3 f4 f5;refine⟨_,rfl,jP Gv rfl rfl Z9 ⟨.int (lo+i),H,I1,⟨s.toks,?_⟩,⟨rfl,rfl⟩,Gv,λ b hb=>(hf b hb).1⟩⟩;rw [Int.mul_one]
 done:=by
  intro 'c';obtain⟨f0,f1,f2,f3,f4,f5⟩:=hf it Z6;exact QQ.IU I.hq st (by have:n≤i:=hg;lia) λ h' eb=>⟨rfl,I.turned (λ b o hb e=>eb b o hb e) f0 f1 f3 f4 f5⟩
 self:=λ _ _ _ _ _ st h=>wpAny_pyIter_rangeiter st h
section
variable {X:Cx}{tg:FZ}
inductive MH (K:Frag) (R:It->Hp->Prop) (x:V) (H1:Hp):Prop
 |mk (a:_) (h0:x=.ref a) (h1:(∃xs,Gf K H1 a xs)) (h2:R (L7 K a) H1):MH K R x H1
def uj (K:Frag)(tl:TE):TI:=λ σ H R=>tl σ H λ x H1=>MH K R x H1
inductive Oo (K:Frag) (R:It->Hp->Prop) (x:V) (H1:Hp):Prop
 |mk (a:_) (h0:x=.ref a) (h1:(∃xs,GF K H1 a xs)) (h2:R (T5 K a) H1):Oo K R x H1
def z7 (K:Frag)(tl:TE):TI:=λ σ H R=>tl σ H λ x H1=>Oo K R x H1
def bi {l:FZ}{tl:TE}(hl:PE X l tl):PI X tg l (uj X.K tl):=by
 intro F6 s σ H R I h;refine thn (hl F6 s σ H _ I h) λ v s1 z9=>?_
 obtain⟨x,H1,I1,r1,q1⟩:=z9;obtain⟨a,e,⟨xs,hq⟩,q⟩:=q1;subst e;cases r1;obtain⟨Gd,rv,p,hz⟩:=I1.list hq;refine wpAny_pyIter_list p.isList ?_;refine⟨s1.heap.objs.size,[s1.heap.objs.size],_,_,H1,rfl,I1.kept (t':=s1.toks) λ b o e=>Aj _ e,rD a _,⟨_,AN _ rfl,rfl,rfl⟩,λ b hb=>?_,q⟩;have e:b=s1.heap.objs.size:=by simpa using hb
 subst e;exact I1.fpOk (Ak _) (I1.hok.fresh (Ak _))
def xV {l:FZ}{tl:TE}(hl:PE X l tl):PI X tg l (z7 X.K tl):=by
 intro F6 s σ H R I h;refine thn (hl F6 s σ H _ I h) λ v s1 z9=>?_
 obtain⟨x,H1,I1,r1,q1⟩:=z9;obtain⟨a,e,⟨xs,hq⟩,q⟩:=q1;subst e;cases r1;obtain⟨Gd,rv,p,hz⟩:=I1.tuple hq;refine wpAny_pyIter_tuple (show s1.heap.IsTuple a Gd.toArray from p) ?_;refine⟨s1.heap.objs.size,[s1.heap.objs.size],_,_,H1,rfl,I1.kept (t':=s1.toks) λ b o e=>Aj _ e,oP a _,⟨_,AN _ rfl,rfl,rfl⟩,λ b hb=>?_,q⟩;have e:b=s1.heap.objs.size:=by simpa using hb
 subst e;exact I1.fpOk (Ak _) (I1.hok.fresh (Ak _))
def lN {F6:List (FR×F1)}{σ:St}{lo hi:Int}(I:'b' s)(h1:-(2^62)≤lo)(h2:lo<2^62)(h3:-(2^62)≤hi)(h4:hi<2^62)
  (q:R (MU lo (hi-lo).toNat) H):wpAny 'd' X.A (pyIter (.ref s.heap.objs.size)) (PIE X F6 σ tg R) E {s with heap:=s.heap.push {cls:=.type "range",data:=.fields #[.int lo t,.int hi u,.int 1 v]},toks:=tk}:=by
 refine wpAny_pyIter_range (IsRange.new ..) (small_one h1 h2 h3 h4) ?_;have I1:'b' {s with heap:=s.heap.push {cls:=.type "range",data:=.fields #[.int lo t,.int hi u,.int 1 v]},toks:=tk}:=I.kept λ b o e=>Aj _ e
 refine⟨(s.heap.push {cls:=.type "range",data:=.fields #[.int lo t,.int hi u,.int 1 v]}).objs.size,[(s.heap.push {cls:=.type "range",data:=.fields #[.int lo t,.int hi u,.int 1 v]}).objs.size],_,_,H,rfl,
  I1.kept (t':=tk) λ b o e=>Aj _ e,oj _ lo (hi-lo).toNat,?_,λ b hb=>?_,q⟩
 ·have e1:lo+⇑(0)*1=lo:=Z6;have e2:⇑((hi-lo).toNat)-⇑(0)=Builtin.Range.rangeSize lo hi 1:=by rw [rangeSize_one];split<;>lia
  show IsRangeIter _ _ (lo+⇑(0)*1) (⇑((hi-lo).toNat)-⇑(0)) 1;rw [e1,e2];exact AN _ rfl
 ·have e:b=(s.heap.push {cls:=.type "range",data:=.fields #[.int lo t,.int hi u,.int 1 v]}).objs.size:=by simpa using hb
  subst e;exact I1.fpOk (Ak _) (I1.hok.fresh (Ak _))
inductive MG (R:It->Hp->Prop) (vs:List V) (H1:Hp):Prop
 |mk (j:_) (h0:vs=[.int j]) (h1:-(2^62)≤j) (h2:j<2^62) (h3:R (MU 0 j.toNat) H1):MG R vs H1
def w6 (ta:TA):TI:=λ σ H R=>ta σ H λ vs H1=>MG R vs H1
inductive MF (R:It->Hp->Prop) (vs:List V) (H1:Hp):Prop
 |mk (i:_) (j:_) (h0:vs=[.int i,.int j]) (h1:(-(2^62)≤i/\i<2^62/\-(2^62)≤j/\j<2^62)) (h2:R (MU i (j-i).toNat) H1):MF R vs H1
def y9 (ta:TA):TI:=λ σ H R=>ta σ H λ vs H1=>MF R vs H1
def cZ {a:FZ}{ta:TA}{p pos:Pos}(hg:Gl X "range")(hm:X.mg "range"=none)(ha:PA X [a] ta)(hs:autoParam (starEach [a] X.env=[(false,eval a X.env)]) Z0):PI X tg (.Call (.Name "range" p) [a] [] pos) (w6 ta):=by
 intro F6 s σ H R I h;refine Call_ (eF I hg hm boot_range (Ct (thn (ha pos F6 s σ H _ I h) λ us s1 z9=>?_) hs rfl));obtain⟨vs,H1,I1,r1,q1⟩:=z9;obtain⟨j,e,q1,q2,q⟩:=q1;subst e;cases r1 with
 |cons r rr=>
  cases rr;obtain⟨t,rfl⟩:=r;exact call_range_1 (lN I1 Z5 Z5 q1 q2 (by simpa using q))
def g9 {a b:FZ}{ta:TA}{p pos:Pos}(hg:Gl X "range")(hm:X.mg "range"=none)(ha:PA X [a,b] ta)(hs:autoParam (starEach [a,b] X.env=[(false,eval a X.env),(false,eval b X.env)]) Z0)(Io:autoParam (starEach [b] X.env=[(false,eval b X.env)]) Z0):
  PI X tg (.Call (.Name "range" p) [a,b] [] pos) (y9 ta):=by
 intro F6 s σ H R I h;refine Call_ (eF I hg hm boot_range (Ct (thn (ha pos F6 s σ H _ I h) λ us s1 z9=>?_) (by rw [hs,Io]) (by rw [Io];rfl)));obtain⟨vs,H1,I1,r1,q1⟩:=z9;obtain⟨i,j,e,⟨q1,q2,q3,q4⟩,q⟩:=q1;subst e;cases r1 with
 |cons r rr=>
  cases rr with
  |cons r' rr=>
   cases rr;obtain⟨t,rfl⟩:=r;obtain⟨t',rfl⟩:=r';exact call_range_2 (lN I1 q1 q2 q3 q4 q)
def zM (wi:TI)(g:TG)(tb:TS):TS:=λ D σ H=>wi σ H λ J H1=>∃W:Nat->Nat->St->Hp->Prop,(∃m,W 0 m σ H1)/\∀i m σ H,W i m σ H->
 (J.stop i H/\D.nx σ H)\/(J.go i H/\∃N,(∀σ' H',N σ' H'->∃m',m'<m/\W (i+1) m' σ' H')/\∀x H',J.yld i H x H'->g x σ H' λ σ2 H2=>tb {D with nx:=N,ct:=N,bk:=D.nx} σ2 H2)
noncomputable def jq (fp:List FR) (h:FY):List (FR×F1):=fp.filterMap λ b=>(h.get? b).map λ o=>(b,o)
def bS {fp:List FR}(hb:b∈fp)(e:h.get? b='g'):(b,o)∈jq fp h:=List.mem_filterMap.mpr ⟨b,hb,by rw [e];rfl⟩
def rc {fp:List FR}(hp:p∈jq fp h):p.1∈fp/\h.get? p.1=some p.2:=by
 obtain⟨b,hb,e⟩:=List.mem_filterMap.mp hp;cases q:h.get? b with
 |none=>rw [q] at e;cases e
 |some o=>
  rw [q] at e;have e':(b,o)=p:=AJ e;subst e';exact⟨hb,q⟩
def Inv.pinned {F6:List (FR×F1)}{σ:St}{H:Hp}(I:'b' s)(hf:∀b∈fp,G0 X F6 H b)(ho:∀b∈fp,∃o,s.heap.get? b='g'/\∀v,o.data≠ .cell v):Inv X (F6++jq fp s.heap) σ H s:=
 I.pins_of λ p hp=>(AR.mp hp).elim (λ z=>I.pin p (AD _ z)) λ z=>by
  obtain⟨hb,e⟩:=rc z;obtain⟨f0,f1,f2,_⟩:=hf p.1 hb;obtain⟨o,e',d⟩:=ho p.1 hb;rw [e] at e';cases e';exact⟨e,f0,f1,f2,d⟩
def Inv.unpinned {F6 pl:List (FR×F1)}{σ:St}{H:Hp}(I:Inv X (F6++pl) σ H s):'b' s:=I.pins_of λ p hp=>I.pin p (AD _ (Bm _ hp))
def bp (hp:PassesOwn 'd' X.A X.env X.xe)(hc:X.calm=true)(hi:PI X tg iter wi)(hg:PG X tg g)(hb:PSs X body tb)
  (hs:autoParam (∀x,foldedSetIterable iter X.env x=pure x) ZX):PS X (.For tg iter body [] pos) (zM wi g tb):=by
 intro F6 s σ H D I h;refine wpAny_For (thn (hi F6 s σ H _ I h) λ v s1 h1=>thn h1 λ WU s2 h2=>?_) hs;obtain⟨it,fp,tn,J,H2,e,I2,T,LQ,f2,W,⟨m0,w0⟩,turn⟩:=h2;subst e;have Lq:∀{H'},(∀b∈fp,H' b=none)->∀b∈fp,G0 X F6 H' b:=λ hn b hb=>⟨hn b hb,(f2 b hb).2⟩
 refine codeAny_forLoop_any (λ n s'=>∃i σ' H',Inv X F6 σ' H' s'/\tn i s'.heap/\(∀b∈fp,H' b=none)/\W i n σ' H') ?_ m0 ⟨0,σ,H2,I2,LQ,λ b hb=>(f2 b hb).1,w0⟩;rintro n s3 ⟨i,σ3,H3,I3,HW,fr3,w3⟩;rcases turn i n σ3 H3 w3 with⟨stop,qn⟩|⟨go,N,hN,step⟩
 ·refine De hp (thn (T.done X rfl rfl rfl hc i F6 s3 σ3 H3 X.xe I3 (Lq fr3) HW stop) λ r s4 z9=>?_);obtain⟨hr,I4⟩:=z9;subst hr;exact DI ⟨σ3,H3,I4,qn⟩
 ·refine De hp (thn (T.item X rfl rfl rfl hc i F6 s3 σ3 H3 X.xe I3 (Lq fr3) HW go) λ r s4 z9=>?_);obtain⟨u,hr,h4⟩:=z9;subst hr;refine De hp (thn h4 λ _ s5 z9=>?_);obtain⟨x,H5,I5,r5,y5,Q1,V1⟩:=z9;have I5':=I5.pinned (Lq V1) (T.obj _ _ Q1);refine De hp (thn (hg _ s5 σ3 H5 x u _ I5' r5 (step x H5 y5)) λ _ s6 z9=>?_);obtain⟨σ6,H6,I6,q6⟩:=z9;refine De hp (thn (hb _ s6 σ6 H6 _ I6 q6) λ f s7 q7=>?_);have again:∀{σ7} {H7},Inv X (F6++jq fp s5.heap) σ7 H7 s7->N σ7 H7->∃m,m<n/\∃i σ' H',Inv X F6 σ' H' s7/\tn i s7.heap/\(∀b∈fp,H' b=none)/\W i m σ' H':=λ {σ7 H7} I7 n7=>by
   obtain⟨m',hm,w7⟩:=hN σ7 H7 n7;refine⟨m',hm,i+1,σ7,H7,I7.unpinned,T.keep _ _ _ Q1 λ b hb o e=>(I7.pin (b,o) (AD _ (AD _ (bS hb e)))).1,λ b hb=>?_,w7⟩;obtain⟨o,e,d⟩:=T.obj _ _ Q1 b hb;exact(I7.pin (b,o) (AD _ (AD _ (bS hb e)))).2.1
  cases f with
  |next=>obtain⟨σ7,H7,I7,n7⟩:=q7;exact again I7 n7
  |cont=>obtain⟨σ7,H7,I7,n7⟩:=q7;exact again I7 n7
  |brk=>obtain⟨σ7,H7,I7,q7⟩:=q7;exact⟨σ7,H7,I7.unpinned,q7⟩
  |ret v=>obtain⟨x7,σ7,H7,I7,r7,q7⟩:=q7;exact⟨x7,σ7,H7,I7.unpinned,r7,q7⟩
end
def bH {K:Frag}{a:FR}{xs:List V}{g:TG}{tb:TS}{D:Ends}(Pv:Nat->St->Hp->Prop)(h0:Pv 0 σ H)(hl:∀i σ H,i≤xs.length->Pv i σ H->Gf K H a xs)
  (hs:∀i x σ H,xs[i]?=some x->Pv i σ H->g x σ H λ σ2 H2=>tb {D with nx:=Pv (i+1),ct:=Pv (i+1),bk:=D.nx} σ2 H2) (hd:∀σ H,Pv xs.length σ H->D.nx σ H):
  ∃W:Nat->Nat->St->Hp->Prop,(∃m,W 0 m σ H)/\∀i m σ H,W i m σ H->
   ((L7 K a).stop i H/\D.nx σ H)\/((L7 K a).go i H/\∃N,(∀σ' H',N σ' H'->∃m',m'<m/\W (i+1) m' σ' H')/\∀x H',(L7 K a).yld i H x H'->g x σ H' λ σ2 H2=>tb {D with nx:=N,ct:=N,bk:=D.nx} σ2 H2):=by
 refine⟨λ i m σ H=>m=xs.length-i/\i≤xs.length/\Pv i σ H,⟨xs.length,Z6,A1 _,h0⟩,?_⟩;rintro i m σ H ⟨rfl,hi,p⟩;have q:=hl i σ H hi p;by_cases F9:i<xs.length
 ·refine .inr ⟨⟨xs,xs[i],q,by simp [F9]⟩,Pv (i+1),λ σ' H' p'=>⟨xs.length-(i+1),Bs _ _ F9,rfl,F9,p'⟩,λ x H' y=>?_⟩;obtain⟨e,y⟩:=y;subst e;exact hs i x σ _ (y xs q) p
 ·have e:i=xs.length:=A8 hi (Nat.not_lt.1 F9);subst e;exact .inl ⟨⟨xs,q,Ak _⟩,hd σ H p⟩
def wP {K:Frag}{a:FR}{xs:List V}{g:TG}{tb:TS}{D:Ends}(Pv:Nat->St->Hp->Prop)(h0:Pv 0 σ H)(hl:∀i σ H,i≤xs.length->Pv i σ H->GF K H a xs)
  (hs:∀i x σ H,xs[i]?=some x->Pv i σ H->g x σ H λ σ2 H2=>tb {D with nx:=Pv (i+1),ct:=Pv (i+1),bk:=D.nx} σ2 H2) (hd:∀σ H,Pv xs.length σ H->D.nx σ H):
  ∃W:Nat->Nat->St->Hp->Prop,(∃m,W 0 m σ H)/\∀i m σ H,W i m σ H->
   ((T5 K a).stop i H/\D.nx σ H)\/((T5 K a).go i H/\∃N,(∀σ' H',N σ' H'->∃m',m'<m/\W (i+1) m' σ' H')/\∀x H',(T5 K a).yld i H x H'->g x σ H' λ σ2 H2=>tb {D with nx:=N,ct:=N,bk:=D.nx} σ2 H2):=by
 refine⟨λ i m σ H=>m=xs.length-i/\i≤xs.length/\Pv i σ H,⟨xs.length,Z6,A1 _,h0⟩,?_⟩;rintro i m σ H ⟨rfl,hi,p⟩;have q:=hl i σ H hi p;by_cases F9:i<xs.length
 ·refine .inr ⟨⟨xs,xs[i],q,by simp [F9]⟩,Pv (i+1),λ σ' H' p'=>⟨xs.length-(i+1),Bs _ _ F9,rfl,F9,p'⟩,λ x H' y=>?_⟩;obtain⟨e,y⟩:=y;subst e;exact hs i x σ _ (y xs q) p
 ·have e:i=xs.length:=A8 hi (Nat.not_lt.1 F9);subst e;exact .inl ⟨⟨xs,q,Ak _⟩,hd σ H p⟩
def du {lo:Int}{g:TG}{tb:TS}{D:Ends}(Pv:Nat->St->Hp->Prop)(h0:Pv 0 σ H)
  (hs:∀i σ H,i<n->Pv i σ H->g (.int (lo+i)) σ H λ σ2 H2=>tb {D with nx:=Pv (i+1),ct:=Pv (i+1),bk:=D.nx} σ2 H2) (hd:∀σ H,Pv n σ H->D.nx σ H):
  ∃W:Nat->Nat->St->Hp->Prop,(∃m,W 0 m σ H)/\∀i m σ H,W i m σ H->
   ((MU lo n).stop i H/\D.nx σ H)\/((MU lo n).go i H/\∃N,(∀σ' H',N σ' H'->∃m',m'<m/\W (i+1) m' σ' H')/\∀x H',(MU lo n).yld i H x H'->g x σ H' λ σ2 H2=>tb {D with nx:=N,ct:=N,bk:=D.nx} σ2 H2):=by
 refine⟨λ i m σ H=>m=n-i/\i≤n/\Pv i σ H,⟨n,Z6,A1 _,h0⟩,?_⟩;rintro i m σ H ⟨rfl,hi,p⟩;by_cases F9:i<n
 ·refine .inr ⟨F9,Pv (i+1),λ σ' H' p'=>⟨n-(i+1),Bs _ _ F9,rfl,F9,p'⟩,λ x H' y=>?_⟩;obtain⟨e,y⟩:=y;subst e y;exact hs i σ _ F9 p
 ·have e:i=n:=A8 hi (Nat.not_lt.1 F9);subst e;exact .inl ⟨Ak _,hd σ H p⟩
abbrev R2:=V->V->Hp->VK->Prop
def Ig (X:Cx)(f:FS->FS->Sem FS)(r:R2):Prop:=
 ∀(F6:List (FR×F1)) (s:FT) (σ:St) H x y v u Q,'b' s->RelV x v->RelV y u->r x y H Q->
  wpAny 'd' X.A (f v u) (EP X F6 σ Q) X.xe s
def Yc (X:Cx)(f:FS->Sem FS)(r:V->Hp->VK->Prop):Prop:=
 ∀(F6:List (FR×F1)) (s:FT) (σ:St) H x v Q,'b' s->RelV x v->r x H Q->
  wpAny 'd' X.A (f v) (EP X F6 σ Q) X.xe s
def dU (X:Cx)(f:FS)(r:List V->Hp->VK->Prop):Prop:=
 ∀(F6:List (FR×F1)) (s:FT) (σ:St) H xs us Q,'b' s->Vals xs us->r xs H Q->
  wpAny 'd' X.A (call f us) (EP X F6 σ Q) X.xe s
def Im (r:R2)(ta tb:TE):TE:=λ σ H Q=>ta σ H λ x H1=>tb σ H1 λ y H2=>r x y H2 Q
def tUn (r:V->Hp->VK->Prop)(ta:TE):TE:=λ σ H Q=>ta σ H λ x H1=>r x H1 Q
inductive rI (C:Int->Int->Prop) (g:Int->Int->V) (x:V) (y:V) (H:Hp) (Q:VK):Prop
 |mk (i:_) (j:_) (h0:x=.int i) (h1:y=.int j) (h2:C i j) (h3:Q (g i j) H):rI C g x y H Q
inductive LV (g:Int->Int->V) (x:V) (y:V) (H:Hp) (Q:VK):Prop
 |mk (i:_) (j:_) (h0:x=.int i) (h1:y=.int j) (h2:Q (g i j) H):LV g x y H Q
inductive rU (g:Int->V) (x:V) (H:Hp) (Q:VK):Prop
 |mk (i:_) (h0:x=.int i) (h1:Q (g i) H):rU g x H Q
section
variable {X:Cx}{a b c:FZ}{ta tb tc:TE}{pos:Pos}
def binT (ha:PE X a ta)(hb:PE X b tb){F6:List (FR×F1)}{s:FT}{σ:St}{R:V->V->Hp->Prop}(I:'b' s)
  (h:ta σ H λ x H1=>tb σ H1 λ y H2=>R x y H2) {Q:FS->FT->Prop} {f:FS->FS->Sem FS}
  (hf:∀v u s2 x y H2,Inv X F6 σ H2 s2->RelV x v->RelV y u->R x y H2->wpAny 'd' X.A (f v u) Q X.xe s2):
  wpAny 'd' X.A (eval a X.env) (λ v s₁=>wpAny 'd' X.A (eval b X.env) (λ u s₂=>wpAny 'd' X.A (f v u) Q X.xe s₂) X.xe s₁) X.xe s:=by
 refine thn (ha F6 s σ H _ I h) λ v s1 z9=>?_
 obtain⟨x,H1,I1,r1,q1⟩:=z9;refine thn (hb F6 s1 σ H1 _ I1 q1) λ u s2 z9=>?_
 obtain⟨y,H2,I2,r2,q2⟩:=z9;exact hf v u s2 x y H2 I2 r1 r2 q2
def ao {op:Operator}{r:R2}(ho:Ig X (binaryOp op) r)(ha:PE X a ta)(hb:PE X b tb):PE X (.BinOp a op b pos) (Im r ta tb):=by
 intro F6 s σ H Q I h;exact wpAny_BinOp (binT ha hb I h λ v u s2 x y H2 I2 rx ry q=>ho F6 s2 σ H2 x y v u Q I2 rx ry q)
def zo {op:UnaryOp}{r:V->Hp->VK->Prop}(ho:Yc X (unaryOp op) r)(ha:PE X a ta):PE X (.UnaryOp op a pos) (tUn r ta):=by
 intro F6 s σ H Q I h;exact UnaryOp_ (thn (ha F6 s σ H _ I h) λ v s1 z9=>by obtain⟨x,H1,I1,r1,q1⟩:=z9;exact ho F6 s1 σ H1 x v Q I1 r1 q1)
def Q4 {f:FS->FS->Sem FS}{g:Int->Int->Int}
  (rule:∀(i j:Int) (t u:Tok) (s:FT) (Q:FS->FT->Prop) (E:FS->FT->Prop),C i j->Q (.int (g i j) s.toks) {s with toks:=s.toks+1}->wpAny (model X.prog X.w) X.A (f (.int i t) (.int j u)) Q E s):
  Ig X f (rI C λ i j=>.int (g i j)):=by
 intro F6 s σ H x y v u Q I rx ry h;obtain⟨i,j,rfl,rfl,hc,q⟩:=h;obtain⟨t,rfl⟩:=rx;obtain⟨t',rfl⟩:=ry;exact rule i j t t' s _ _ hc ⟨.int (g i j),H,I.tok _,⟨_,rfl⟩,q⟩
def we {g:Int->Int->Int}
  (rule:∀(i j:Int) (t u:Tok) (s:FT) (Q:FS->FT->Prop) (E:FS->FT->Prop),Q (.int (g i j) s.toks) {s with toks:=s.toks+1}->wpAny (model X.prog X.w) X.A (f (.int i t) (.int j u)) Q E s):
  Ig X f (LV λ i j=>.int (g i j)):=by
 intro F6 s σ H x y v u Q I rx ry h;obtain⟨i,j,rfl,rfl,q⟩:=h;obtain⟨t,rfl⟩:=rx;obtain⟨t',rfl⟩:=ry;exact rule i j t t' s _ _ ⟨.int (g i j),H,I.tok _,⟨_,rfl⟩,q⟩
def wY {f:FS->FS->Sem FS}{g:Int->Int->Bool}
  (rule:∀(i j:Int) (t u:Tok) (s:FT) (Q:FS->FT->Prop) (E:FS->FT->Prop),Q (.bool (g i j)) s->wpAny 'd' X.A (f (.int i t) (.int j u)) Q E s):
  Ig X f (LV λ i j=>.bl (g i j)):=by
 intro F6 s σ H x y v u Q I rx ry h;obtain⟨i,j,rfl,rfl,q⟩:=h;obtain⟨t,rfl⟩:=rx;obtain⟨t',rfl⟩:=ry;exact rule i j t t' s _ _ ⟨.bl (g i j),H,I,rfl,q⟩
def yT (i j:Int):Prop:=0<j/\j<1073741824
def yY (i j:Int):Prop:=0≤j/\j≤1000000/\i.natAbs<2^64
def QY (i j:Int):Prop:=(-(2^64)<i/\i<2^64)\/(-(2^64)<j/\j<2^64)
def QY.ok (h:QY i j):IntMulOk i j:=by
 rcases h with⟨h1,h2⟩|⟨h1,h2⟩
 ·exact .of_left (intBits_le_64 h1 h2)
 ·exact .of_right (intBits_le_64 h1 h2)
def nQ (k):(0:Int)≤2^k:=by
 rw [two_pow_cast];exact BG _
def aI:Ig X (binaryOp .Add) (LV λ i j=>.int (i+j)):=we λ _ _ _ _ _ _ _ q=>add_int q
def bd:Ig X (binaryOp .Sub) (LV λ i j=>.int (i-j)):=we λ _ _ _ _ _ _ _ q=>sub_int q
def eV:Ig X (binaryOp .Mult) (rI QY λ i j=>.int (i*j)):=Q4 λ _ _ _ _ _ _ _ hc q=>mul_int q hc.ok
def bo:Ig X (binaryOp .FloorDiv) (rI yT λ i j=>.int (i/j)):=Q4 λ i j _ _ _ _ _ hc q=>by
 have h1:(0:Int)<j:=hc.1;have h2:j<1073741824:=hc.2;exact floordiv_int Z5 (by rw [Fi i (Int.le_of_lt h1)];exact q) (.inl (Ex Z4))
def aQ:Ig X (binaryOp .Mod) (rI (λ _ j=>0<j) λ i j=>.int (i%j)):=Q4 λ i j _ _ _ _ _ hc q=>by
 have h1:(0:Int)<j:=hc;exact mod_int' (B7 (Int.ne_of_lt hc)) (by rw [Int.fmod_eq_emod_of_nonneg i (Int.le_of_lt hc)];exact q)
def yp:Ig X (binaryOp .Pow) (rI yY λ i j=>.int (i^j.toNat)):=Q4 λ _ _ _ _ _ _ _ hc q=>pow_int_small hc.1 hc.2.1 hc.2.2 q
def dP:Ig X (binaryOp .LShift) (rI yY λ i j=>.int (i*2^j.toNat)):=Q4 λ _ _ _ _ _ _ _ hc q=>lshift_int_small hc.1 hc.2.1 hc.2.2 q
def og:Ig X (binaryOp .RShift) (rI (λ _ j=>0≤j) λ i j=>.int (i/2^j.toNat)):=Q4 λ i j _ _ _ _ _ hc q=>
 rshift_int hc (by rw [Fi i (nQ _)];exact q)
def sU:Ig X (binaryOp .BitAnd) (LV λ i j=>.int (Builtin.bitAnd i j)):=we λ _ _ _ _ _ _ _ q=>and_int q
def um:Ig X (binaryOp .BitOr) (LV λ i j=>.int (Builtin.bitOr i j)):=we λ _ _ _ _ _ _ _ q=>or_int q
def unI {g:Int->Int}
  (rule:∀(i:Int) (t:Tok) (s:FT) (Q:FS->FT->Prop) (E:FS->FT->Prop),Q (.int (g i) s.toks) {s with toks:=s.toks+1}->wpAny (model X.prog X.w) X.A (f (.int i t)) Q E s):
  Yc X f (rU λ i=>.int (g i)):=by
 intro F6 s σ H x v Q I rx h;obtain⟨i,rfl,q⟩:=h;obtain⟨t,rfl⟩:=rx;exact rule i t s _ _ ⟨.int (g i),H,I.tok _,⟨_,rfl⟩,q⟩
def xS:Yc X (unaryOp .USub) (rU λ i=>.int (-i)):=unI λ _ _ _ _ _ q=>neg_int q
end
noncomputable def yi:V->V->Bool
 | .non,.non=>true| .non,.int _=>true| .int _,.non=>true| .non,.bl _=>true| .bl _,.non=>true| .non,.str _=>true| .str _,.non=>true
 | .int _,.int _=>true| .bl _,.bl _=>true| .str _,.str _=>true| .byt _,.byt _=>true
 | .int _,.str _=>true| .str _,.int _=>true| .bl _,.str _=>true| .str _,.bl _=>true
 |_,_=>false
inductive Sj (x:V) (y:V) (H:Hp) (Q:VK):Prop
 |mk (h0:yi x y=true) (h1:Q (.bl (decide (x=y))) H):Sj x y H Q
inductive Ws (x:V) (y:V) (H:Hp) (Q:VK):Prop
 |mk (h0:yi x y=true) (h1:Q (.bl (!decide (x=y))) H):Ws x y H Q
def qa:decide (V.int i=V.int j)=(i==j):=by
 rw [Er];simp
def t5:decide (V.bl i=V.bl j)=(i==j):=by
 rw [Er];simp
def pE:decide (V.str i=V.str j)=(i==j):=by
 rw [Er];simp
def qy:decide (V.byt i=V.byt j)=(i.toList==j.toList):=by
 rw [Er];cases i;cases j;simp
section
variable {X:Cx}{a b c:FZ}{ta tb tc:TE}{pos:Pos}
def bf {F6:List (FR×F1)}{σ:St}{H:Hp}{s:FT}(I:'b' s)(q:Q (.bl k) H)(e:k=k'):EP X F6 σ Q (.bool k') s:=by
 subst e;exact⟨.bl k,H,I,rfl,q⟩
def bE:Ig X (compareOp .Eq) Sj:=by
 intro F6 s σ H x y v u Q I rx ry h;obtain⟨hs,q⟩:=h;cases x with
 |non=>
  cases rx;cases y with
  |non=>cases ry;exact PySem.EqNone.eq_none_none (bf I q Z6)
  |bl j=>cases ry;exact PySem.EqNone.eq_none_bool (bf I q Z6)
  |int j=>obtain⟨t',rfl⟩:=ry;exact PySem.EqNone.eq_none_int (bf I q Z6)
  |str j=>obtain⟨t',rfl⟩:=ry;exact PySem.EqNone.eq_none_str (bf I q Z6)
  |_=>exact absurd (show false=true from hs) Ax
 |bl i=>
  cases rx;cases y with
  |non=>cases ry;exact PySem.EqNone.eq_bool_none (bf I q Z6)
  |bl j=>cases ry;exact eq_bool (bf I q t5)
  |str j=>obtain⟨t',rfl⟩:=ry;exact PySem.EqMixed.eq_bool_str (bf I q Z6)
  |_=>exact absurd (show false=true from hs) Ax
 |int i=>
  obtain⟨t,rfl⟩:=rx;cases y with
  |non=>cases ry;exact PySem.EqNone.eq_int_none (bf I q Z6)
  |int j=>obtain⟨t',rfl⟩:=ry;exact eq_int (bf I q qa)
  |str j=>obtain⟨t',rfl⟩:=ry;exact PySem.EqMixed.eq_int_str (bf I q Z6)
  |_=>exact absurd (show false=true from hs) Ax
 |str i=>
  obtain⟨t,rfl⟩:=rx;cases y with
  |non=>cases ry;exact PySem.EqNone.eq_str_none (bf I q Z6)
  |bl j=>cases ry;exact PySem.EqMixed.eq_str_bool (bf I q Z6)
  |int j=>obtain⟨t',rfl⟩:=ry;exact PySem.EqMixed.eq_str_int (bf I q Z6)
  |str j=>obtain⟨t',rfl⟩:=ry;exact eq_str (bf I q pE)
  |_=>exact absurd (show false=true from hs) Ax
 |byt i=>
  obtain⟨t,rfl⟩:=rx;cases y with
  |byt j=>obtain⟨t',rfl⟩:=ry;exact PySem.W.eq_bytes (bf I q qy)
  |_=>exact absurd (show false=true from hs) Ax
 |_=>cases y<;>exact absurd (show false=true from hs) Ax
def qw:Ig X (compareOp .NotEq) Ws:=by
 intro F6 s σ H x y v u Q I rx ry h;obtain⟨hs,q⟩:=h;cases x with
 |non=>
  cases rx;cases y with
  |non=>cases ry;exact PySem.EqNone.ne_none_none (bf I q Z6)
  |bl j=>cases ry;exact PySem.EqNone.ne_none_bool (bf I q Z6)
  |int j=>obtain⟨t',rfl⟩:=ry;exact PySem.EqNone.ne_none_int (bf I q Z6)
  |str j=>obtain⟨t',rfl⟩:=ry;exact PySem.EqNone.ne_none_str (bf I q Z6)
  |_=>exact absurd (show false=true from hs) Ax
 |bl i=>
  cases rx;cases y with
  |non=>cases ry;exact PySem.EqNone.ne_bool_none (bf I q Z6)
  |bl j=>cases ry;exact ne_bool (bf I q (Bx not t5))
  |str j=>obtain⟨t',rfl⟩:=ry;exact PySem.EqMixed.ne_bool_str (bf I q Z6)
  |_=>exact absurd (show false=true from hs) Ax
 |int i=>
  obtain⟨t,rfl⟩:=rx;cases y with
  |non=>cases ry;exact PySem.EqNone.ne_int_none (bf I q Z6)
  |int j=>obtain⟨t',rfl⟩:=ry;exact ne_int (bf I q (Bx not qa))
  |str j=>obtain⟨t',rfl⟩:=ry;exact PySem.EqMixed.ne_int_str (bf I q Z6)
  |_=>exact absurd (show false=true from hs) Ax
 |str i=>
  obtain⟨t,rfl⟩:=rx;cases y with
  |non=>cases ry;exact PySem.EqNone.ne_str_none (bf I q Z6)
  |bl j=>cases ry;exact PySem.EqMixed.ne_str_bool (bf I q Z6)
  |int j=>obtain⟨t',rfl⟩:=ry;exact PySem.EqMixed.ne_str_int (bf I q Z6)
  |str j=>obtain⟨t',rfl⟩:=ry;exact ne_str (bf I q (Bx not pE))
  |_=>exact absurd (show false=true from hs) Ax
 |byt i=>
  obtain⟨t,rfl⟩:=rx;cases y with
  |byt j=>obtain⟨t',rfl⟩:=ry;exact PySem.W.ne_bytes (bf I q (Bx not qy))
  |_=>exact absurd (show false=true from hs) Ax
 |_=>cases y<;>exact absurd (show false=true from hs) Ax
def eO:Ig X (compareOp .Lt) (LV λ i j=>.bl (decide (i<j))):=wY λ _ _ _ _ _ _ _ q=>lt_int q
def jL:Ig X (compareOp .LtE) (LV λ i j=>.bl (decide (i≤j))):=wY λ _ _ _ _ _ _ _ q=>le_int q
def dk:Ig X (compareOp .Gt) (LV λ i j=>.bl (decide (j<i))):=wY λ _ _ _ _ _ _ _ q=>gt_int q
def uo:Ig X (compareOp .GtE) (LV λ i j=>.bl (decide (j≤i))):=wY λ _ _ _ _ _ _ _ q=>ge_int q
def kG:Ig X (compareOp .Is) (λ x y H Q=>y=.non/\Q (.bl (decide (x=.non))) H):=by
 intro F6 s σ H x y v u Q I rx ry h;obtain⟨rfl,q⟩:=h;cases ry;refine is_none_gen (bf I q ?_);cases x<;>first
  |(cases rx;rfl)
  |(obtain⟨t,rfl⟩:=rx;rfl)
def aC (b)(h:autoParam (op≠ .In) ZZ)(h2:autoParam (op≠ .NotIn) ZZ):behindInMarks op b=false:=nz b h h2
def gG {op:CmpOp}{r:R2}(ho:Ig X (compareOp op) r)(ha:PE X a ta)(hb:PE X b tb)(hm:behindInMarks op b=false):PE X (.Compare a [op] [b] pos) (Im r ta tb):=by
 intro F6 s σ H Q I h;exact wpAny_Compare1 (binT ha hb I h λ v u s2 x y H2 I2 rx ry q=>ho F6 s2 σ H2 x y v u Q I2 rx ry q) hm
inductive Md (Q:Bool->Hp->Prop) (x:V) (H':Hp):Prop
 |mk (k:_) (h0:x=.bl k) (h1:Q k H'):Md Q x H'
def fE (t:TE):TT:=λ σ H Q=>t σ H λ x H'=>Md Q x H'
def aA {op:CmpOp}{r:R2}(ho:Ig X (compareOp op) r)(ha:PE X a ta)(hb:PE X b tb)(hm:behindInMarks op b=false):PT X (.Compare a [op] [b] pos) (fE (Im r ta tb)):=by
 intro F6 s σ H Q I h;refine wpAny_isTrue_Compare1 (thn (ha F6 s σ H _ I h) λ v s1 ⟨x,H1,I1,r1,q1⟩=>thn (hb F6 s1 σ H1 _ I1 q1) λ u s2 ⟨y,H2,I2,r2,q2⟩=>
  thn (ho F6 s2 σ H2 x y v u _ I2 r1 r2 q2) λ c s3 ⟨z,H3,I3,r3,k,e,q3⟩=>?_) hm
 subst e;cases r3;exact Dd ⟨H3,I3,q3⟩
inductive KU (r':R2) (tc:TE) (σ:St) (Q:VK) (y:V) (z:V) (H3:Hp):Prop
 |mk (k:_) (h0:z=.bl k) (h1:(if k=true then tc σ H3 λ w' H4=>r' y w' H4 Q else Q (.bl false) H3)):KU r' tc σ Q y z H3
def xD (r r':R2)(ta tb tc:TE):TE:=λ σ H Q=>ta σ H λ x H1=>tb σ H1 λ y H2=>r x y H2 λ z H3=>KU r' tc σ Q y z H3
def jh {op Ww:CmpOp}{r r':R2}(ho:Ig X (compareOp op) r)(NB:Ig X (compareOp Ww) r')(ha:PE X a ta)(hb:PE X b tb)(hc:PE X c tc)
  (hm:lastMarks [op,Ww] [b,c]=false:=by with_unfolding_all rfl):PE X (.Compare a [op,Ww] [b,c] pos) (xD r r' ta tb tc):=by
 intro F6 s σ H Q I h;refine Compare_chain (thn (ha F6 s σ H _ I h) λ v s1 ⟨x,H1,I1,r1,q1⟩=>chain_link (thn (hb F6 s1 σ H1 _ I1 q1) λ u s2 ⟨y,H2,I2,r2,q2⟩=>
  thn (ho F6 s2 σ H2 x y v u _ I2 r1 r2 q2) λ d s3 ⟨z,H3,I3,r3,k,e,q3⟩=>?_)) hm
 subst e;cases r3;refine Dd ?_;cases k with
 |false=>exact ite_ff ⟨.bl false,H3,I3,rfl,q3⟩
 |true=>exact ite_tt (chain_last (thn (hc F6 s3 σ H3 _ I3 q3) λ w' s4 z9=>by obtain⟨z',H4,I4,r4,q4⟩:=z9;exact NB F6 s4 σ H4 y z' u w' Q I4 r2 r4 q4))
def hV:(sizeLine:Nat)<2^63:=by rw [D4];decide
def fQ:Ig X (binaryOp .Add) (λ x y H Q=>∃i j,x=.str i/\y=.str j/\i.length+j.length≤sizeLine/\Q (.str (i++j)) H):=by
 intro F6 s σ H x y v u Q I rx ry h;obtain⟨i,j,rfl,rfl,hz,q⟩:=h;obtain⟨t,rfl⟩:=rx;obtain⟨t',rfl⟩:=ry;exact add_str (λ t' tk=>⟨.str (i++j),H,I.tok _,⟨_,rfl⟩,q⟩) hz
def fg (r:Vals [x] us):∃u,us=[u]/\RelV x u:=by
 cases r with
 |cons r1 r2=>cases r2;exact⟨_,rfl,r1⟩
def pp (r:Vals [x,y] us):∃u w',us=[u,w']/\RelV x u/\RelV y w':=by
 cases r with
 |cons r1 r2=>
  cases r2 with
  |cons r3 r4=>cases r4;exact⟨_,_,rfl,r1,r3⟩
def fD (hc:X.A.handled=none):dU X (.builtin "max") (λ xs H Q=>∃i j,xs=[.int i,.int j]/\Q (.int (if j>i then j else i)) H):=by
 intro F6 s σ H xs us Q I r h;obtain⟨i,j,rfl,q⟩:=h;obtain⟨u,w',rfl,⟨t,rfl⟩,⟨t',rfl⟩⟩:=pp r;refine max_two_ints hc λ h' tk k=>⟨_,H,I.kept k,?_,q⟩
 by_cases hj:j>i
 ·rw [AK hj,AK hj];exact⟨_,rfl⟩
 ·rw [AH hj,AH hj];exact⟨_,rfl⟩
def gW (hc:X.A.handled=none):dU X (.builtin "min") (λ xs H Q=>∃i j,xs=[.int i,.int j]/\Q (.int (if j<i then j else i)) H):=by
 intro F6 s σ H xs us Q I r h;obtain⟨i,j,rfl,q⟩:=h;obtain⟨u,w',rfl,⟨t,rfl⟩,⟨t',rfl⟩⟩:=pp r;refine min_two_ints hc λ h' tk k=>⟨_,H,I.kept k,?_,q⟩
 by_cases hj:j<i
 ·rw [AK hj,AK hj];exact⟨_,rfl⟩
 ·rw [AH hj,AH hj];exact⟨_,rfl⟩
def rG:dU X (.type "int") (λ xs H Q=>(∃i,xs=[.int i]/\Q (.int i) H)\/∃k,xs=[.bl k]/\Q (.int (if k then 1 else 0)) H):=by
 intro F6 s σ H xs us Q I r h;rcases h with⟨i,rfl,q⟩|⟨k,rfl,q⟩
 ·obtain⟨u,rfl,t,rfl⟩:=fg r;exact call_int_int ⟨.int i,H,I,⟨_,rfl⟩,q⟩
 ·obtain⟨u,rfl,r1⟩:=fg r;cases r1;exact call_int_bool ⟨.int (if k then 1 else 0),H,I.tok _,⟨_,rfl⟩,q⟩
end
structure LA (h:FY)(x dx C:FR)(mA:Str->Option FS):Prop where
 obj:h.get? x=some (instObj C dx)
 ns:h.Ns1 dx mA
 ne:dx≠x
def rN {h:FY}(n:h.Ns1 dx mA):∃od,h.get? dx=some od/\∀name,lookIn name od=some (mA name):=by
 obtain⟨o,es,ep,ho,hd,hk,_,hm⟩:=n;refine⟨o,ho,λ name=>?_⟩;have e:=hm name;unfold nsFind findBy at e;rw [<-Array.find?_toList] at e;unfold lookIn;rw [hd];dsimp only
 split
 ·rename_i y q
  rw [q] at e;exact Bx some e
 ·rename_i q
  rw [q] at e;have a:es.toList.any (·.refKey)=false:=by
   rw [List.any_eq_false];intro y hy;obtain⟨z,t,YV⟩:=hk y (Array.mem_toList_iff.mp hy);simp [DictEntry.refKey,YV]
  have a':¬es.toList.any (·.refKey)=true:=by rw [a];exact Ax
  rw [AH a'];exact Bx some e
def LA.look (I:LA h x dx C mA):∃od,InstAt h x (instObj C dx) C (some od)/\∀name,lookIn name od=some (mA name):=
 let⟨od,ho,hl⟩:=rN I.ns
 ⟨od,⟨I.obj,rfl,rfl,ho⟩,hl⟩
section
variable {prog:FU}{w:FV}{A:FX}{E:FS -> FT -> Prop}{s:FT}{K:Frag}{x dx C f:FR}{mA:Str -> Option FS}{name:Str}{v:FS}
def vC (X:K.In s.heap)(I:LA s.heap x dx C mA)(hg:plainGet K C name=true)(hh:hasDictIn K C=true)
  (ha:findIn K (.ref C) name=some none) (hv:mA name=some v) (hv':handedIn v=true) (h:Q v {s with toks:=s.toks+1}):
  wpAny 'l' A (getAttr (.ref x) name expr) Q E s:=by
 obtain⟨od,J,hl⟩:=I.look;exact PySem.W.get_value X J (Fb hg).1 (PySem.W.findObj_own hh ha rfl (by rw [hl,hv])) hv' h
def tQ (X:K.In s.heap)(I:LA s.heap x dx C mA)(hg:plainGet K C name=true)
  (hf:findIn K (.ref C) name=some ↑f) (ht:isFn K (.ref f)=true) (hv:mA name=none) (h:Q (.ref f,[.ref x]) s):
  wpAny 'l' A (getMethod (.ref x) name pl) Q E s:=by
 obtain⟨od,J,hl⟩:=I.look;exact PySem.W.method_fn X J (Fb hg).1 (Fb hg).2 hf (Ed.mp ht) (by show(lookIn name od).map (·.isSome)=some false;rw [hl,hv];rfl) h
def wq (X:K.In s.heap)(I:LA s.heap x dx C mA)
  (hs:findIn K (.ref C) "__setattr__"=some (some (.builtin "object.__setattr__"))) (hp:plainOver K C=true) (ht:takerIn K C name=some none) (hh:hasDictIn K C=true)
  (hw:PySem.Within mA ns) (hsz:ns.length≤sizeLine)
  (h:∀h',LA h' x dx C (λ y=>if y=name then some v else mA y)->Heap.SameBut dx s.heap h'->Q () {s with heap:=h',toks:=s.toks+2}):
  wpAny 'l' A (setAttr (.ref x) name v) Q E s:=by
 obtain⟨od,J,hl⟩:=I.look;refine PySem.W.set_plain X J hs (PySem.W.osa_open X J hp ht λ b=>?_);obtain⟨cd,hc,Xp⟩:=EV hh;have hx:s.heap.get? x=some ⟨.ref C,some dx,.plain,#[]⟩:=I.obj;refine Ab (AG (Ab (Ab (wpAny_loadPart hx (Ab (Looks.here (PySem.W.looks_clsIn X hc) ?_))))));rw [Xp];refine AG (Ab (AG (Ab ?_)));refine wpAny_nsSet1 I.ns λ h' Jl Io=>?_
 obtain⟨oD,esD,epD,hoD,hdD,hcD⟩:=Jl.count (PySem.Within.cons name v hw);refine Ab (wpAny_lookBehind hoD (by rw [hdD];exact pastItsLine_dict (Ai hcD (by rw [Ar];exact DR hsz 1))) ?_);exact AG (h _ ⟨(Io.2 _ (B7 I.ne)).trans I.obj,Jl,I.ne⟩ Io)
def nk (X:K.In s.heap)(hm:makesIn K C=true)
  (hi:findIn K (.ref C) "__init__"=some ↑f) (hf:typeIn K (.ref f)=some (.type "function"))
  (h:codeAny 'l' (A.under (.builtin "type.__call__" ⟨.ref C::vs,kw⟩)) (.call (.ref f) ⟨.ref (s.heap.objs.size+1)::vs,kw⟩) (InitBack (s.heap.objs.size+1) R)
   {s with heap:=(s.heap.push emptyDict).push (instObj C s.heap.objs.size)}):
  codeAny 'l' A (.call (.ref C) ⟨vs,kw⟩) R s:=by
 obtain⟨hh,g,d,t,os⟩:=s;exact make_core (FG X hm) (DS X hi) (λ self=>PySem.W.bind_fn X self hf) (.inl rfl) h
def rT (X:K.In s.heap)(hm:makesIn K C=true)
  (hi:findIn K (.ref C) "__init__"=some (some (.builtin "object.__init__")))
  (hb:∀self,Looks 'l' s.heap (bindSpecial (.builtin "object.__init__") self) (.builtin "object.__init__",[self]))
  (h:codeAny 'l' (A.under (.builtin "type.__call__" ⟨[.ref C],[]⟩)) (.call (.builtin "object.__init__") ⟨[.ref (s.heap.objs.size+1)],[]⟩) (InitBack (s.heap.objs.size+1) R)
   {s with heap:=(s.heap.push emptyDict).push (instObj C s.heap.objs.size)}):
  codeAny 'l' A (.call (.ref C) ⟨[],[]⟩) R s:=by
 obtain⟨hh,g,d,t,os⟩:=s;exact make_core (FG X hm) (DS X hi) hb (.inr ⟨rfl,rfl⟩) h
end
noncomputable def putF (f:Str) (v:V):List (Str×V)->List (Str×V)
 | []=>[(f,v)]
 |(g,x)::r=>if g=f then(g,v)::r else(g,x)::putF f v r
theorem aK (f g)(v):∀fs,(putF f v fs).lookup g=if g=f then some v else fs.lookup g
 | []=>by
  show List.lookup g [(f,v)]=_;by_cases h:g=f
  ·have hb:(g==f)=true:=Ed.mpr h;simp only [List.lookup,hb,AK h]
  ·have hb:(g==f)=false:=CV.mpr h;simp only [List.lookup,hb,AH h]
 |(k,x)::r=>by
  have ih:=aK f g v r;rw [show putF f v ((k,x)::r)=(if k=f then(k,v)::r else(k,x)::putF f v r) from rfl];by_cases hk:k=f
  ·rw [AK hk];by_cases h:g=k
   ·have hb:(g==k)=true:=Ed.mpr h;simp only [List.lookup,hb,AK (h.trans hk)]
   ·have hb:(g==k)=false:=CV.mpr h;simp only [List.lookup,hb,AH (λ e:g=f=>h (e.trans hk.symm))]
  ·rw [AH hk];by_cases h:g=k
   ·have hb:(g==k)=true:=Ed.mpr h;simp only [List.lookup,hb,AH (λ e:g=f=>hk (h.symm.trans e))]
   ·have hb:(g==k)=false:=CV.mpr h;simp only [List.lookup,hb];exact ih
theorem gY (f)(v):∀fs,f∈(putF f v fs).map (·.1)/\∀g,g∈fs.map (·.1)->g∈(putF f v fs).map (·.1)
 | []=>⟨by simp [putF],λ g h=>by simp at h⟩
 |(k,x)::r=>by
  obtain⟨i1,i2⟩:=gY f v r;rw [show putF f v ((k,x)::r)=(if k=f then(k,v)::r else(k,x)::putF f v r) from rfl];by_cases hk:k=f
  ·rw [AK hk];subst hk;exact⟨Z6,λ g h=>by simpa using h⟩
  ·rw [AH hk];refine⟨?_,λ g h=>?_⟩
   ·rw [Bz];exact Az _ i1
   ·rw [Bz] at h ⊢;rcases AB.mp h with e|e
    ·exact AB.mpr (.inl e)
    ·exact Az _ (i2 g e)
theorem io (f)(v):∀fs,(putF f v fs).length≤fs.length+1
 | []=>by simp [putF]
 |(k,x)::r=>by
  have ih:=io f v r;rw [show putF f v ((k,x)::r)=(if k=f then(k,v)::r else(k,x)::putF f v r) from rfl];by_cases hk:k=f
  ·rw [AK hk,Ar,Ar];exact BM _ 1
  ·rw [AH hk,Ar,Ar];exact DR ih 1
def HU.some_of (r:HU (some v) o):∃u,o=some u/\RelV v u:=by
 cases o with
 |none=>exact(show False from r).elim
 |some u=>exact⟨u,rfl,r⟩
def HU.none_of (r:HU none o):o=none:=by
 cases o with
 |none=>rfl
 |some u=>exact(show False from r).elim
def sf (r:RelV v u):handedIn u=true:=by
 cases v with
 |non=>cases(show u=Value.none from r);rfl
 |bl b=>cases(show u=Value.bool b from r);rfl
 |int i=>obtain⟨t,e⟩:=(show∃t,u=Value.int i t from r);cases e;rfl
 |str x=>obtain⟨t,e⟩:=(show∃t,u=Value.str x t from r);cases e;rfl
 |byt b=>obtain⟨t,e⟩:=(show∃t,u=Value.bytes b t from r);cases e;rfl
 |flt b=>obtain⟨t,e⟩:=(show∃t,u=Value.float b t from r);cases e;rfl
 |ref a=>cases(show u=Value.ref a from r);rfl
 |ty n=>cases(show u=Value.type n from r);rfl
section
variable {P:FU}{w:FV}{H H':Hp}{h h':FY}{a C dx:FR}{fs fs':List (Str × V)}
def iC (hok:HK P w H h)(e:H a=some (.ins C dx fs)):∃mA,LA h a dx C mA/\(∀f,HU (fs.lookup f) (mA f))/\PySem.Within mA (fs.map (·.1))/\fs.length≤1000/\H dx=some (.own a):=by
 obtain⟨d,z,ne,ob,mA,n,r,q⟩:=(show Gp P w H h a (.ins C dx fs) from hok a _ e);exact⟨mA,⟨ob,n,ne⟩,r,q,z,d⟩
end
structure Cls (K:Frag)(C:FR):Prop where
 pg:plainGet K C Str.empty=true
 hd:hasDictIn K C=true
 po:plainOver K C=true
 sa:findIn K (.ref C) "__setattr__"=some (some (.builtin "object.__setattr__"))
def Cls.get {K:Frag}(c:Cls K C)(f):plainGet K C f=true:=c.pg
def NoAttr (K:Frag)(C:FR)(f:Str):Prop:=findIn K (.ref C) f=some none
def NoAttr.taker {K:Frag}(n:NoAttr K C f):takerIn K C f=some none:=by
 unfold takerIn;rw [show findIn K (.ref C) f=some none from n];rfl
structure Meth (K:Frag)(C:FR)(m:Str)(f:FR):Prop where
 at_:findIn K (.ref C) m=some ↑f
 fn:isFn K (.ref f)=true
 kp:keepIn K (.ref f)=true
section
variable {X:Cx}{F6:List (FR × F1)}{σ:St}{H:Hp}{s:FT}{a C dx:FR}{fs:List (Str × V)}{f:Str}{v:V}{A:FX}{E:FS -> FT -> Prop}
def oM {b:Bool}{Q:FS->FT->Prop}(I:'b' s)(e:H a=some (.ins C dx fs))(c:Cls X.K C)(n:NoAttr X.K C f)(l:fs.lookup f=some v)
  (h:∀u s','b' s'->RelV v u->Q u s'):wpAny 'd' A (getAttr (.ref a) f b) Q E s:=by
 obtain⟨mA,O,r,_,_,_⟩:=iC I.hok e;obtain⟨u,hu,ru⟩:=HU.some_of (v:=v) (o:=mA f) (by rw [<-l];exact r f);exact vC I.kIn O (c.get f) c.hd n hu (sf ru) (h u _ (I.tok _) ru)
def fJ {m:Str}{g:FR}{pl:Sem Bool}(I:'b' s)(e:H a=some (.ins C dx fs))(c:Cls X.K C)(k:Meth X.K C m g)(l:fs.lookup m=none)
  (h:Q (.ref g,[.ref a]) s):wpAny 'd' A (getMethod (.ref a) m pl) Q E s:=by
 obtain⟨mA,O,r,_,_,_⟩:=iC I.hok e;have hn:mA m=none:=HU.none_of (by rw [<-l];exact r m);exact tQ I.kIn O (c.get m) k.at_ k.fn hn h
def oH {y:V}{u:FS}{Q:Unit->FT->Prop}(I:'b' s)(e:H a=some (.ins C dx fs))(c:Cls X.K C)(n:NoAttr X.K C f)(hl:fs.length<1000)(ry:RelV y u)
  (h:∀s',Inv X F6 σ (upd H a (.ins C dx (putF f y fs))) s'->Q () s'):wpAny 'd' A (setAttr (.ref a) f u) Q E s:=by
 obtain⟨mA,O,r,wi,_,ho⟩:=iC I.hok e;have hz:(fs.map (·.1)).length≤sizeLine:=by rw [Aa,D4];exact Ai (B9 hl) Z9
 refine wq I.kIn O c.sa c.po n.taker c.hd wi hz λ h' O' sb=>h _ ?_
 have hd:∃o,h'.get? dx='g':=let⟨o,_,_,e',_⟩:=O'.ns;⟨o,e'⟩;refine I.write (by rw [e];exact True.intro) (.inr ho) (λ b q hb z=>(sb.2 b hb).trans z) hd ?_;refine⟨by rw [aj O.ne];exact ho,?_,O.ne,O'.obj,_,O'.ns,λ g=>?_,λ g hg=>?_⟩
 ·have:=io f y fs;exact Ai this hl
 ·show HU ((putF f y fs).lookup g) (if g=f then some u else mA g);rw [aK];by_cases q:g=f
  ·rw [AK q,AK q];exact ry
  ·rw [AH q,AH q];exact r g
 ·by_cases q:g=f
  ·rw [q];exact(gY f y fs).1
  ·refine(gY f y fs).2 g (wi g λ z=>hg ?_);show(if g=f then some u else mA g)=none;rw [AH q];exact z
def Inv.made (I:'b' s):Inv X F6 σ (upd (upd H s.heap.objs.size (.own (s.heap.objs.size+1))) (s.heap.objs.size+1) (.ins C s.heap.objs.size []))
  {s with heap:=(s.heap.push emptyDict).push (instObj C s.heap.objs.size)}:=by
 have e1:(s.heap.push emptyDict).get? s.heap.objs.size=some emptyDict:=AN s.heap rfl;have e2:((s.heap.push emptyDict).push (instObj C s.heap.objs.size)).get? (s.heap.objs.size+1)=some (instObj C s.heap.objs.size):=by
  have:=AN (s.heap.push emptyDict) (o:=instObj C s.heap.objs.size) rfl
  rwa [DW] at this
 have e3:(s.heap.push emptyDict).Ns s.heap.objs.size (λ _=>none):=⟨emptyDict,#[],_,e1,rfl,(λ e he=>absurd he Z6),λ _=>rfl⟩;have I1:=I.laid (a:=s.heap.objs.size) (o:=.own (s.heap.objs.size+1)) (t':=s.toks) (λ b u q=>Aj _ q) (Ak _) ⟨_,e1⟩;refine I1.laid (λ b u q=>Aj _ q) (A5 (DW _ _)) ?_;have ne:s.heap.objs.size≠s.heap.objs.size+1:=A7 (Dr _);refine⟨by rw [aj ne,af],A1 _,ne,e2,λ _=>none,(Heap.Ns1.of_empty e3).at λ o q=>Aj _ q,λ _=>True.intro,λ y hy=>absurd rfl hy⟩
def wH (hb:attributeBase e f env (eval e env)=eval e env)
  (h:wpAny 'l' A (eval e env) (λ o s₁=>wpAny 'l' A (getAttr o f true) Q E s₁) E s):wpAny 'l' A (eval (.Attribute e f pos) env) Q E s:=
 Attribute_any_ h (by rw [arm_eval_Attribute,hb])
end
inductive N8 (K:Frag) (f:Str) (Q:VK) (x:V) (H1:Hp):Prop
 |mk (a:_) (C:_) (dx:_) (fs:_) (v:_) (h0:x=.ref a) (h1:H1 a=some (.ins C dx fs)) (h2:Cls K C) (h3:NoAttr K C f) (h4:fs.lookup f=some v) (h5:Q v H1):N8 K f Q x H1
def zA (K:Frag)(ta:TE)(f:Str):TE:=λ σ H Q=>ta σ H λ x H1=>N8 K f Q x H1
inductive Ol (K:Frag) (f:Str) (D:Ends) (σ:St) (y:V) (x:V) (H2:Hp):Prop
 |mk (a:_) (C:_) (dx:_) (fs:_) (h0:x=.ref a) (h1:H2 a=some (.ins C dx fs)) (h2:Cls K C) (h3:NoAttr K C f) (h4:fs.length<1000) (h5:D.nx σ (upd H2 a (.ins C dx (putF f y fs)))):Ol K f D σ y x H2
def zD (K:Frag)(ta tv:TE)(f:Str):TS:=λ D σ H=>tv σ H λ y H1=>ta σ H1 λ x H2=>Ol K f D σ y x H2
section
variable {X:Cx}{o e value:FZ}{f:Str}{pos pos' tpos:Pos}{ta tv:TE}
def bB (he:PE X e ta)(hb:attributeBase e f X.env (eval e X.env)=eval e X.env):PE X (.Attribute e f pos) (zA X.K ta f):=by
 intro F6 s σ H Q I h;refine wH hb (thn (he F6 s σ H _ I h) λ u s1 z9=>?_);obtain⟨x,H1,I1,rx,a,C,dx,fs,v,ex,ea,c,n,l,q⟩:=z9;subst ex;obtain rfl:u=Value.ref a:=rx;exact oM I1 ea c n l λ u' s2 I2 ru=>⟨v,H1,I2,ru,q⟩
def cF (ha:PE X o ta)(hv:PE X value tv)(hs:swapsWith value (some (.Attribute o f pos')) pos.line X.env=pure false):PS X (.Assign [.Attribute o f pos'] value pos) (zD X.K ta tv f):=by
 intro F6 s σ H D I h;refine plainObj_wpAny_Assign_Attribute (thn (hv F6 s σ H _ I h) λ u s1 ⟨y,H1,I1,ry,q⟩=>thn (ha F6 s1 σ H1 _ I1 q) λ ov s2 z9=>?_) hs;obtain⟨x,H2,I2,rx,a,C,dx,fs,ex,ea,c,n,l,q2⟩:=z9;subst ex;obtain rfl:ov=Value.ref a:=rx;exact oH I2 ea c n l ry λ s3 I3=>⟨σ,_,I3,q2⟩
end
section
variable {X:Cx}{F6:List (FR × F1)}{σ:St}{H:Hp}{s:FT}{A:FX}{E:FS -> FT -> Prop}{Q:FS -> FT -> Prop}{c:FS}{b:Bool}
inductive GU (K:Frag) (H:Hp):V->FS->Prop where
 |non:GU K H .non (.type "NoneType")
 |bl (x:Bool):GU K H (.bl x) (.type "bool")
 |int (i:Int):GU K H (.int i) (.type "int")
 |str (x:Str):GU K H (.str x) (.type "str")
 |flt (x:UInt64):GU K H (.flt x) (.type "float")
 |lst {a:FR} {xs:List V} (e:H a=↥xs):GU K H (.ref a) (.type "list")
 |frz {a:FR} {o:F1} {xs:List V} (e:H a=some (.frz o (.lst xs))):GU K H (.ref a) (.type "list")
 |tup {a:FR} {xs:List V} (e:H a=some (.tup xs)):GU K H (.ref a) (.type "tuple")
 |dK {a:FR} {Gg:List (Key×V)} (e:H a=some (.dK Gg)):GU K H (.ref a) (.type "dict")
 |dT {a:FR} {Gg:List (List Key×V)} (e:H a=some (.dT Gg)):GU K H (.ref a) (.type "dict")
 |ins {a C dx:FR} {fs:List (Str×V)} (e:H a=some (.ins C dx fs)) (cl:Cls K C) (ha:findIn K (.ref C) "__class__"=some (some (.builtin "object.__class__")))
   (hn:specialIn K (.builtin "object.__class__") "__get__"=some (some (.builtin "getset_descriptor.__get__"))) (htk:takesIn K (.builtin "object.__class__")=some true)
   (hm:mroIn K C (.type "object")=some true):GU K H (.ref a) (.ref C)
def qX {x:V}{u t:FS}(I:'b' s)(rx:RelV x u)(ty:GU X.K H x t)(e:kitOne X.K t c=some b)(h:∀tk,Q (.bool b) {s with toks:=tk}):
  wpAny 'd' A (call (.builtin "isinstance") [u,c]) Q E s:=by
 cases ty with
 |non=>cases(show u=Value.none from rx);exact B0 PySem.W.kitx_none I.kIn True.intro e (λ z=>nomatch z) h
 |bl y=>cases(show u=Value.bool y from rx);exact B0 PySem.W.kitx_bool I.kIn True.intro e (λ z=>nomatch z) h
 |int i=>obtain⟨t,q⟩:=(show∃t,u=Value.int i t from rx);cases q;exact B0 PySem.W.kitx_int I.kIn True.intro e (λ z=>nomatch z) h
 |str y=>obtain⟨t,q⟩:=(show∃t,u=Value.str y t from rx);cases q;exact B0 PySem.W.kitx_str I.kIn True.intro e (λ z=>nomatch z) h
 |flt y=>obtain⟨t,q⟩:=(show∃t,u=Value.float y t from rx);cases q;exact B0 PySem.W.kitx_float I.kIn True.intro e (λ z=>nomatch z) h
 | @lst a xs ea=>
  cases(show u=Value.ref a from rx);obtain⟨_,_,n,_,h1⟩:=(show Gp X.prog X.w H s.heap a (.lst xs) from I.hok a _ ea);exact B0 kitx_list I.kIn ⟨_,h1,rfl⟩ e (λ z=>nomatch z) h
 | @frz a ob xs ea=>
  cases(show u=Value.ref a from rx);obtain⟨_,_,_,n,_,h1⟩:=(show Gp X.prog X.w H s.heap a (.frz ob (.lst xs)) from I.hok a _ ea);exact B0 kitx_list I.kIn ⟨_,h1,rfl⟩ e (λ z=>nomatch z) h
 | @tup a xs ea=>
  cases(show u=Value.ref a from rx);obtain⟨_,_,_,p⟩:=(show Gp X.prog X.w H s.heap a (.tup xs) from I.hok a _ ea);obtain⟨o,h1,h2,_⟩:=p;exact B0 PySem.W.kitx_tuple I.kIn ⟨o,h1,h2⟩ e (λ z=>nomatch z) h
 | @dK a Gg ea=>
  cases(show u=Value.ref a from rx);obtain⟨_,_,vs,_,p⟩:=(show Gp X.prog X.w H s.heap a (.dK Gg) from I.hok a _ ea);obtain⟨o,es,ep,h1,h2,_⟩:=p;exact B0 kitx_dict I.kIn ⟨o,h1,h2.1⟩ e (λ z=>nomatch z) h
 | @dT a Gg ea=>
  cases(show u=Value.ref a from rx);obtain⟨_,_,xs,_,o,es,ep,h1,h2,_⟩:=(show Gp X.prog X.w H s.heap a (.dT Gg) from I.hok a _ ea);exact B0 kitx_dict I.kIn ⟨o,h1,h2.1⟩ e (λ z=>nomatch z) h
 | @ins a C dx fs ea cl ha hn htk hm=>
  cases(show u=Value.ref a from rx);obtain⟨mA,O,_⟩:=iC I.hok ea;obtain⟨od,J,_⟩:=O.look;exact B0 (PySem.W.kitx_own (cl.get _) cl.hd ha hn htk hm) I.kIn J e (λ z=>nomatch z) h
end
structure Ge (k:Nat)(A:FX):Prop where
 hd:30≤k->A.handled=none
 dp:A.depth+3*k+5<recursionLimit
 un:A.units+16*k+200<cLine
 gd:A.guards=some []
def Ge.mono (r:Ge k A)(h:j≤k):Ge j A:=⟨λ z=>r.hd (Ai z h),by have:=r.dp;lia,by have:=r.un;lia,r.gd⟩
theorem Ge.deeper (r:Ge (k+1) A)(env):Ge k (A.deeper env):=
 ⟨λ z=>r.hd (BD z),by have:=r.dp;show A.depth+1+3*k+5<_;lia,by have:=r.un;show A.units+3+16*k+200<_;lia,r.gd⟩
theorem Ge.in1 (r:Ge (k+1) A):Ge k A.in1:=
 ⟨λ z=>r.hd (BD z),by have:=r.dp;show A.depth+3*k+5<_;lia,by have:=r.un;show A.units+1+16*k+200<_;lia,r.gd⟩
def oW {A:FX}:(A.under (.builtin "type.__call__" ⟨.ref C::us,kw⟩)).depth=A.depth+1:=by
 first|rfl|simp [Around.under,Code.weight,Code.isCreation,Code.isGuard,Code.isCaller,Code.frames,Code.isFrame,guardIds]
def oS {A:FX}:(A.under (.builtin "type.__call__" ⟨.ref C::us,kw⟩)).units=A.units+1:=by
 first|rfl|simp [Around.under,Code.cUnits,Code.frames,Code.isFrame]
def Lc {A:FX}:(A.under (.builtin "type.__call__" ⟨.ref C::us,kw⟩)).guards=A.guards:=by
 first|rfl|simp [Around.under,Code.guards,Code.isGuard,guardIds,pushGuards]
def Ge.make (r:Ge (k+1) A)(C)(us)(kw):Ge k (A.under (.builtin "type.__call__" ⟨.ref C::us,kw⟩)):=
 ⟨λ z=>r.hd (BD z),by have:=r.dp;rw [oW];lia,by have:=r.un;rw [oS];lia,Lc.trans r.gd⟩
theorem Ge.depth (r:Ge k A):A.depth<recursionLimit:=by have:=r.dp;lia
theorem Ge.units (r:Ge k A):A.units+64<cLine:=by have:=r.un;lia
def bF:TA:=λ _ H Q=>Q [] H
def aP (ta:TE)(tr:TA):TA:=λ σ H Q=>ta σ H λ x H1=>tr σ H1 λ xs H2=>Q (x::xs) H2
section
variable {X:Cx}{e:FZ}{es:List FZ}{te:TE}{t:TA}{pos:Pos}
def ac:PA X [] bF:=λ _ _ _ _ H Q I h=>Fx ⟨[],H,I,.nil,h⟩
def aa (ha:PE X e te)(hr:PA X es t)(hs:'k'):PA X (e::es) (aP te t):=by
 intro pos F6 s σ H Q I h;rw [hs];show wpAny _ _ (spliced ((false,eval e X.env)::backTo pos (starEach es X.env))) _ _ s;refine Fp (thn (ha F6 s σ H _ I h) λ u s1 z9=>?_);obtain⟨x,H1,I1,r1,q1⟩:=z9;exact thn (hr pos F6 s1 σ H1 _ I1 q1) λ us s2 z9=>by obtain⟨xs,H2,I2,r2,q2⟩:=z9;exact⟨x::xs,H2,I2,.cons r1 r2,q2⟩
inductive N6 (Q:VK) (xs:List V) (H1:Hp):Prop
 |mk (h0:xs.length≤sizeLine) (h1:∀p,H1 p=none->Q (.ref p) (upd H1 p (.tup xs))):N6 Q xs H1
def iq (t:TA):TE:=λ σ H Q=>t σ H λ xs H1=>N6 Q xs H1
inductive N7 (Q:VK) (xs:List V) (H1:Hp):Prop
 |mk (h0:xs.length≤sizeLine) (h1:∀p,H1 p=none->Q (.ref p) (upd H1 p (.lst xs))):N7 Q xs H1
def gh (t:TA):TE:=λ σ H Q=>t σ H λ xs H1=>N7 Q xs H1
def aO {x1}(h:PA X es t):PE X (.Tuple es x1 pos) (iq t):=by
 intro F6 s σ H Q I hq;refine wpAny_Tuple_spliced (thn (h pos F6 s σ H _ I hq) λ us s1 ⟨xs,H1,I1,r,z,q⟩=>⟨by rw [<-r.length];exact z,?_⟩);have hf:H1 s1.heap.objs.size=none:=I1.hok.fresh (Ak _);refine⟨.ref s1.heap.objs.size,upd H1 s1.heap.objs.size (.tup xs),I1.laid (t':=s1.toks) (λ b u e=>Aj _ e) (Ak _) ?_,rfl,q _ hf⟩;exact⟨z,us,r,⟨_,AN _ rfl,rfl,_,rfl⟩⟩
def aH (h:PA X es t):PE X (.List es pos) (gh t):=by
 intro F6 s σ H Q I hq;refine wpAny_List_spliced (thn (h pos F6 s σ H _ I hq) λ us s1 ⟨xs,H1,I1,r,z,q⟩=>⟨by rw [<-r.length];exact z,?_⟩);have hf:H1 s1.heap.objs.size=none:=I1.hok.fresh (Ak _);refine⟨.ref s1.heap.objs.size,upd H1 s1.heap.objs.size (.lst xs),I1.laid (t':=s1.toks) (λ b u e=>Aj _ e) (Ak _) ?_,rfl,q _ hf⟩;exact⟨z,us,0,r,AN _ rfl⟩
end
abbrev Sp:=List V->Hp->VK->XK->Prop
abbrev Nj:=List Env->Hp->FT->XK->FS->FT->Prop
structure JT (P:FU)(w:FV)(K:Frag)(mg:Str->Option FS)(base:FY)(A:FX)(outer:List Env)(s:FT)(H:Hp):Prop where
 frames:A.frames=some outer
 mod:Mod K mg base
 bs:∀b o,base.get? b='g'->s.heap.get? b='g'/\H b=none
 bsz:base.objs.size≤s.heap.objs.size
 funs:s.heap.FunFrames base outer
 frf:∀b∈frs outer,H b=none
 hok:HK P w H s.heap
 bare:AllBare s.gens
 qt:Qt A H
def CE (outer:List Env)(P:FU)(w:FV)(H:Hp)(s:FT)(Q:VK)(u:FS)(s':FT):Prop:=
 ∃v H',s'.os=s.os/\AllBare s'.gens/\Un (frs outer) [] H H' s.heap s'.heap/\HK P w H' s'.heap/\RelV v u/\Q v H'
def CR (CX:Nj)(outer:List Env)(P:FU)(w:FV)(H:Hp)(s:FT)(Q:VK)(E:XK)(r:Result)(s':FT):Prop:=
 match r with
 | .ok (.ret u)=>CE outer P w H s Q u s'
 | .ok _=>False
 | .error e=>CX outer H s E e s'
structure Gb (P:FU)(w:FV)(K:Frag)(mg:Str->Option FS)(base:FY)(CX:Nj)(k:Nat)(f:FR)(fd:FW)(ps:List Str)(sp:Sp):Prop where
 len:∀vs H Q E,sp vs H Q E->vs.length=ps.length
 run:∀(A:FX) (outer:List Env) (s:FT) (H:Hp) (args:Args) (us:List FS) (vs:List V) (Q:VK) (E:XK),Ge k A->JT P w K mg base A outer s H->BindsTo s fd args (ps.zip us)->Vals vs us->sp vs H Q E->
  codeAny (model P w) A (.call (.ref f) args) (CR CX outer P w H s Q E) s
theorem Gb.mono {P:FU}{K:Frag}(F:'a' CX j f fd ps sp)(h:j≤k):
  Gb P w K mg base CX k f fd ps sp:=⟨F.len,λ A outer s H args us vs Q E hr=>F.run A outer s H args us vs Q E (hr.mono h)⟩
def Gb.imp {P:FU}{K:Frag}(F:'a' CX k f fd ps sp)
  (h:∀vs H Q E,Sa vs H Q E->sp vs H Q E):'a' CX k f fd ps Sa:=
 ⟨λ vs H Q E q=>F.len vs H Q E (h _ _ _ _ q),λ A outer s H args us vs Q E hr he hb hv hs=>F.run A outer s H args us vs Q E hr he hb hv (h _ _ _ _ hs)⟩
def JT.make {K:Frag}(e:JT P w K mg base A outer s H)(C)(us)(kw):
  JT P w K mg base (A.under (.builtin "type.__call__" ⟨.ref C::us,kw⟩)) outer s H:=⟨by first|exact e.frames|(simpa [Around.under,Code.envs,Code.isFrame,pushEnvs] using e.frames),e.mod,e.bs,e.bsz,e.funs,e.frf,e.hok,e.bare,e.qt⟩
theorem JT.in1 {K:Frag}(e:JT P w K mg base A outer s H):
  JT P w K mg base A.in1 outer s H:=⟨e.frames,e.mod,e.bs,e.bsz,e.funs,e.frf,e.hok,e.bare,e.qt⟩
section
variable {X:Cx}{F6:List (FR × F1)}{σ:St}{H:Hp}{s s':FT}
def Inv.env0 (I:'b' s):JT X.prog X.w X.K X.mg X.base X.A X.stack s H:=
 ⟨I.ok.frames,I.ok.mod,I.bs,Ai I.ok.bsz I.sz,I.stack,I.stkFree,I.hok,I.bare,I.qt⟩
def Inv.after {Q:VK}{u:FS}(I:'b' s)(h:CE X.stack X.prog X.w H s Q u s'):EP X F6 σ Q u s':=by
 obtain⟨v,H',os,bare,un,hok,r,q⟩:=h;obtain⟨hh,g,d,t,os'⟩:=s';obtain rfl:os'=s.os:=os;exact⟨v,H',I.call (h':=hh) (g':=g) (d':=d) (t':=t) (ch:=[]) un hok bare (λ b z=>absurd z Z6),r,q⟩
end
def dJ (sp:Sp)(Hl:List V)(E:XK)(t:TA):TE:=λ σ H Q=>t σ H λ vs H1=>sp (vs++Hl) H1 Q E
inductive Mi (C:FR) (m:Str) (sp:Sp) (Hl:List V) (E:XK) (t:TA) (σ:St) (Q:VK) (x:V) (H1:Hp):Prop
 |mk (a:_) (dx:_) (fs:_) (h0:x=.ref a) (h1:H1 a=some (.ins C dx fs)) (h2:fs.lookup m=none) (h3:t σ H1 λ vs H2=>sp (x::(vs++Hl)) H2 Q E):Mi C m sp Hl E t σ Q x H1
def mq (C:FR)(m:Str)(sp:Sp)(Hl:List V)(E:XK)(ta:TE)(t:TA):TE:=λ σ H Q=>ta σ H λ x H1=>Mi C m sp Hl E t σ Q x H1
def uJ (C:FR)(sp:Sp)(Hl:List V)(E:XK)(t:TA):TE:=λ σ H Q=>t σ H λ vs H1=>∀x dx,H1 x=none->H1 dx=none->dx≠x->
 sp (.ref x::(vs++Hl)) (upd (upd H1 dx (.own x)) x (.ins C dx [])) (λ v H2=>v=.non/\Q (.ref x) H2) E
def Binds (K:Frag)(fd:FW)(ps:List Str)(ds:List FS):Prop:=
 ∀s us,K.In s.heap->(us++ds).length=ps.length->BindsTo s fd ⟨us,[]⟩ (ps.zip (us++ds))
def Binds.all {K:Frag}{fd:FW}(h:∀us:List FS,us.length=ps.length->bindArgs fd ⟨us,[]⟩=pure (ps.zip us)):Binds K fd ps []:=λ s us _ hl=>by
 rw [Bv] at hl ⊢;exact .of_eq (h us hl)
def cI (CX:Nj)(X:Cx)(E:XK):Prop:=∀(F6:List (FR×F1)) (σ:St) (H:Hp) s e s','b' s->CX X.stack H s E e s'->X.xe e s'
section
variable {X:Cx}{CX:Nj}{k:Nat}{f C:FR}{fd:FW}{ps:List Str}{sp:Sp}{Hl:List V}{ds:List FS}{E:XK}{x m:Str}{p pos apos:Pos}{e o:FZ}{es:List FZ}{ta:TE}{t:TA}
def lI {F6:List (FR×F1)}{σ:St}{H:Hp}{s:FT}{Q:VK}{us:List FS}(F:Gb X.prog X.w X.K X.mg X.base CX k f fd ps sp)(hr:Ge k X.A)(hb:Binds X.K fd ps ds)(hd:Vals Hl ds)(hx:cI CX X E)
  (I:'b' s) (r:Vals vs us) (h:sp (vs++Hl) H Q E):wpAny 'd' X.A (call (.ref f) us) (EP X F6 σ Q) X.xe s:=by
 have r2:Vals (vs++Hl) (us++ds):=r.append hd;have hl:(us++ds).length=ps.length:=by rw [<-r2.length];exact F.len _ _ _ _ h
 refine Ec (Dj (F.run X.A X.stack s H ⟨us,[]⟩ (us++ds) (vs++Hl) Q E hr I.env0 (hb s us I.kIn hl) r2 h) λ r s' hq=>?_);cases r with
 |error e=>exact hx F6 σ H s e s' I hq
 |ok fl=>
  cases fl with
  |ret u=>exact I.after hq
  |next=>exact False.elim hq
  |brk=>exact False.elim hq
  |cont=>exact False.elim hq
def ap (F:Gb X.prog X.w X.K X.mg X.base CX k f fd ps sp)(hr:Ge k X.A)(hg:Gl X x)(hm:X.mg x=↑f)(hk:keepIn X.K (.ref f)=true)(hb:Binds X.K fd ps ds)(hd:Vals Hl ds)(hx:cI CX X E)
  (ha:PA X (e::es) t) (Ky:'e') (he:'k') (HZ:autoParam ((backTo pos (starEach es X.env)).any (·.1)=false) Z0):
  PE X (.Call (.Name x p) (e::es) [] pos) (dJ sp Hl E t):=by
 intro F6 s σ H Q I h;refine BN (cu I hg hm ?_ Ky);refine C5 (h₀:=X.base) I.ok.mod.kin hk (thn (ha pos F6 s σ H _ I h) λ us s1 ⟨vs,H1,I1,r,q⟩=>⟨I1.kIn,?_⟩) he HZ;exact lI F hr hb hd hx I1 r q
def eT (F:Gb X.prog X.w X.K X.mg X.base CX k f fd ps sp)(hr:Ge k X.A)(hg:Gl X x)(hm:X.mg x=↑f)(hk:keepIn X.K (.ref f)=true)(hb:Binds X.K fd ps ds)(hd:Vals Hl ds)(hx:cI CX X E)
  (Ky:'e'):PE X (.Call (.Name x p) [] [] pos) (dJ sp Hl E bF):=by
 intro F6 s σ H Q I h;refine BN (cu I hg hm ?_ Ky);exact D7 I.kIn hk (lI (us:=[]) F hr hb hd hx I .nil h)
def aN {pl:Sem Bool}(he:PE X o ta)(c:Cls X.K C)(hm:Meth X.K C m f)(F:Gb X.prog X.w X.K X.mg X.base CX k f fd ps sp)(hr:Ge k X.A)(hb:Binds X.K fd ps ds)(hd:Vals Hl ds)(hx:cI CX X E)(ha:PA X (e::es) t)
    (HY:'k') (HZ:autoParam ((backTo pos (starEach es X.env)).any (·.1)=false) Z0)
    (ht:autoParam (eval (.Call (.Attribute o m apos) (e::es) [] pos) X.env=(do
      let ov<-eval o X.env
      standAt apos.atName
      let(f,first)<-holding [ov] (getMethod ov m pl)
      callWith pos f first (backTo pos (starEach (e::es) X.env)) (backToKw pos (keywordEach [] X.env)))) Z0):
    PE X (.Call (.Attribute o m apos) (e::es) [] pos) (mq C m sp Hl E ta t):=by
  intro F6 s σ H Q I h
  refine EK (pl:=pl) (thn (he F6 s σ H _ I h) λ u s1 z9=>?_) ht
  obtain⟨x,H1,I1,rx,a,dx,fs,ex,ea,l,q⟩:=z9
  subst ex
  obtain rfl:u=Value.ref a:=rx
  refine fJ I1 ea c hm l ?_
  refine C5 (first:=[.ref a]) (h₀:=X.base) I.ok.mod.kin hm.kp (thn (ha pos F6 s1 σ H1 _ I1 q) λ us s2 ⟨vs,H2,I2,r,q2⟩=>⟨I2.kIn,?_⟩) HY HZ
  exact lI (us:=.ref a::us) (vs:=.ref a::vs) F hr hb hd hx I2 (.cons rfl r) q2
def cx {pl:Sem Bool}(he:PE X o ta)(c:Cls X.K C)(hm:Meth X.K C m f)(F:Gb X.prog X.w X.K X.mg X.base CX k f fd ps sp)(hr:Ge k X.A)(hb:Binds X.K fd ps ds)(hd:Vals Hl ds)(hx:cI CX X E)
    (ht:autoParam (eval (.Call (.Attribute o m apos) [] [] pos) X.env=(do
      let ov<-eval o X.env
      standAt apos.atName
      let(f,first)<-holding [ov] (getMethod ov m pl)
      callWith pos f first (backTo pos (starEach [] X.env)) (backToKw pos (keywordEach [] X.env)))) Z0):
    PE X (.Call (.Attribute o m apos) [] [] pos) (mq C m sp Hl E ta bF):=by
  intro F6 s σ H Q I h
  refine EK (pl:=pl) (thn (he F6 s σ H _ I h) λ u s1 z9=>?_) ht
  obtain⟨x,H1,I1,rx,a,dx,fs,ex,ea,l,q⟩:=z9
  subst ex
  obtain rfl:u=Value.ref a:=rx
  refine fJ I1 ea c hm l ?_
  exact D7 (first:=[.ref a]) I1.kIn hm.kp (lI (us:=[.ref a]) (vs:=[.ref a]) F hr hb hd hx I1 (.cons rfl .nil) q)
structure Mk (K:Frag)(C f:FR):Prop where
 makes:makesIn K C=true
 init:findIn K (.ref C) "__init__"=some ↑f
 fn:isFn K (.ref f)=true
 kp:keepIn K (.ref C)=true
def lO {F6:List (FR×F1)}{σ:St}{H:Hp}{s:FT}{Q:VK}{us:List FS}(M:Mk X.K C f)(F:Gb X.prog X.w X.K X.mg X.base CX k f fd ps sp)(hr:Ge (k+1) X.A)(hb:Binds X.K fd ps ds)(hd:Vals Hl ds)
  (hx:cI CX X E) (I:'b' s) (r:Vals vs us)
  (h:∀x dx,H x=none->H dx=none->dx≠x->sp (.ref x::(vs++Hl)) (upd (upd H dx (.own x)) x (.ins C dx [])) (λ v H2=>v=.non/\Q (.ref x) H2) E):
  wpAny 'd' X.A (call (.ref C) us) (EP X F6 σ Q) X.xe s:=by
 have hq:=h (s.heap.objs.size+1) s.heap.objs.size (I.hok.fresh (DD _)) (I.hok.fresh (Ak _)) (A7 (Dr _));have I2:=Inv.made (C:=C) I;have r2:Vals (V.ref (s.heap.objs.size+1)::(vs++Hl)) (Value.ref (s.heap.objs.size+1)::(us++ds)):=.cons rfl (r.append hd);have hl:(Value.ref (s.heap.objs.size+1)::us++ds).length=ps.length:=by
  have e:=r2.length;rw [F.len _ _ _ _ hq] at e;exact e.symm
 refine Ec (nk I.kIn M.makes M.init (Ed.mp M.fn) (Dj (F.run _ X.stack _ _ ⟨Value.ref (s.heap.objs.size+1)::us,[]⟩ (Value.ref (s.heap.objs.size+1)::(us++ds)) _ _ E (hr.make C us [])
  (I2.env0.make C us []) (hb _ (Value.ref (s.heap.objs.size+1)::us) I2.kIn hl) r2 hq) λ r s' Lm=>?_))
 cases r with
 |error e=>exact hx F6 σ _ _ e s' I2 Lm
 |ok fl=>
  cases fl with
  |ret u=>
   obtain⟨v,H',I3,rv,ev,q3⟩:=I2.after Lm;subst ev;exact⟨rv,⟨V.ref (s.heap.objs.size+1),H',I3,rfl,q3⟩⟩
  |next=>exact False.elim Lm
  |brk=>exact False.elim Lm
  |cont=>exact False.elim Lm
def pW (M:Mk X.K C f)(F:Gb X.prog X.w X.K X.mg X.base CX k f fd ps sp)(hr:Ge (k+1) X.A)(hg:Gl X x)(hm:X.mg x=↑C)(hb:Binds X.K fd ps ds)(hd:Vals Hl ds)(hx:cI CX X E)
  (ha:PA X (e::es) t) (Ky:'e') (he:'k') (HZ:autoParam ((backTo pos (starEach es X.env)).any (·.1)=false) Z0):
  PE X (.Call (.Name x p) (e::es) [] pos) (uJ C sp Hl E t):=by
 intro F6 s σ H Q I h;refine BN (cu I hg hm ?_ Ky);refine C5 (h₀:=X.base) I.ok.mod.kin M.kp (thn (ha pos F6 s σ H _ I h) λ us s1 ⟨vs,H1,I1,r,q⟩=>⟨I1.kIn,?_⟩) he HZ;exact lO M F hr hb hd hx I1 r q
def jd (M:Mk X.K C f)(F:Gb X.prog X.w X.K X.mg X.base CX k f fd ps sp)(hr:Ge (k+1) X.A)(hg:Gl X x)(hm:X.mg x=↑C)(hb:Binds X.K fd ps ds)(hd:Vals Hl ds)(hx:cI CX X E)
  (Ky:'e'):PE X (.Call (.Name x p) [] [] pos) (uJ C sp Hl E bF):=by
 intro F6 s σ H Q I h;refine BN (cu I hg hm ?_ Ky);exact D7 I.kIn M.kp (lO (us:=[]) M F hr hb hd hx I .nil h)
end
section
variable {X:Cx}{CX:Nj}{k:Nat}{f C:FR}{fd:FW}{ps ks:List Str}{sp:Sp}{E:XK}{x m:Str}{p pos apos kpos:Pos}{e o:FZ}{es:List FZ}{kws:List Keyword}{te ta:TE}{t tk:TA}{nm:Option Str}
variable {g:List FS -> List FS -> List FS}{gV:List V -> List V -> List V}
end
structure y' (N P:List Str)(sc:Scope):Prop where
 kind:sc.kind=.function
 co:sc.isCoroutine=false
 gen:sc.isGenerator=false
 nd:N.Nodup
 pre:N.take P.length=P
 par:∀x∈P,sc.names.lookup x=some .local\/sc.names.lookup x=some .cell
 nofree:∀y∈sc.names,y.2≠ .free
def scB (N P:List Str)(c:Scope):Bool:=decide (c.kind=.function)&& !c.isCoroutine&& !c.isGenerator&&decide N.Nodup&&decide (N.take P.length=P)&&P.all (λ x=>decide (c.names.lookup x=some .local\/c.names.lookup x=some .cell))&&c.names.all λ y=>decide (y.2≠.free)
def Gw {N P:List Str}{c:Scope}(h:scB N P c=true):y' N P c:=by
 simp only [scB,D1,decide_eq_true_eq,Fy,ES] at h;obtain⟨⟨⟨⟨⟨⟨a,b⟩,d⟩,e⟩,f⟩,g⟩,i⟩:=h;exact⟨a,b,d,e,f,g,i⟩
theorem kb {kindOf:Str->Option NameKind}:∀{binds} {m},(∀v,(x,v)∉binds)->bindL kindOf binds m x=m x
 | [],_,_=>rfl
 |(n,v)::r,m,h=>by
  unfold bindL;rw [kb λ w hw=>h w (Az _ hw)]
  split
  ·have:x≠n:=by rintro rfl;exact h v AE
   simp [this]
  ·rfl
theorem kF {kindOf:Str->Option NameKind}:∀{binds} {m},(∀v,(x,v)∉binds)->bindC kindOf binds m x=m x
 | [],_,_=>rfl
 |(n,v)::r,m,h=>by
  unfold bindC;rw [kF λ w hw=>h w (Az _ hw)]
  split
  ·rfl
  ·have:x≠n:=by rintro rfl;exact h v AE
   simp [this]
theorem jT {kindOf:Str->Option NameKind}:∀{P:List Str} {vs} {i:Nat} {m},P.Nodup->P[i]?=some x->vs[i]?=some v->kindOf x=some .local->
  bindL kindOf (P.zip vs) m x=some v
 | [],_,_,_,_,h,_,_=>by simp at h
 |_::_,[],_,_,_,_,h,_=>by simp at h
 |p::P,w::vs,0,m,nd,h1,h2,hk=>by
  simp at h1 h2;subst h1;subst h2;show bindL kindOf ((p,w)::P.zip vs) m p=_;unfold bindL;rw [kb λ v hv=>(Es.mp nd).1 (En hv).1,AK hk];simp
 |p::P,w::vs,i+1,m,nd,h1,h2,hk=>by
  show bindL kindOf ((p,w)::P.zip vs) m x=_;unfold bindL;exact jT (Es.mp nd).2 (by simpa using h1) (by simpa using h2) hk
theorem kB {kindOf:Str->Option NameKind}:∀{P:List Str} {vs} {i:Nat} {m},P.Nodup->P[i]?=some x->vs[i]?=some v->kindOf x≠some .local->
  bindC kindOf (P.zip vs) m x=some v
 | [],_,_,_,_,h,_,_=>by simp at h
 |_::_,[],_,_,_,_,h,_=>by simp at h
 |p::P,w::vs,0,m,nd,h1,h2,hk=>by
  simp at h1 h2;subst h1;subst h2;show bindC kindOf ((p,w)::P.zip vs) m p=_;unfold bindC;rw [kF λ v hv=>(Es.mp nd).1 (En hv).1,AH hk];simp
 |p::P,w::vs,i+1,m,nd,h1,h2,hk=>by
  show bindC kindOf ((p,w)::P.zip vs) m x=_;unfold bindC;exact kB (Es.mp nd).2 (by simpa using h1) (by simpa using h2) hk
noncomputable def start (N:List Str) (vs:List V):St:=vs.map some++List.replicate (N.length-vs.length) none
noncomputable def cxOf (CX:Nj) (P:FU) (w:FV) (K:Frag) (mg:Str->Option FS) (base:FY) (N:List Str) (qual:Str) (scope:Scope) (f:FR) (cd:FS) (A:FX) (outer:List Env) (s:FT) (H:Hp) (E:XK):Cx where
 prog:=P
 w:=w
 K:=K
 mg:=mg
 base:=base
 A:=A.deeper (envOfC qual scope s.heap.objs.size f cd)
 N:=N
 s₀:=s
 H₀:=H
 env:=envOfC qual scope s.heap.objs.size f cd
 outer:=outer
 stack:=envOfC qual scope s.heap.objs.size f cd::outer
 ex:=[]
 calm:=true
 fn:=λ _=>true
 pn:=[]
 xe:=λ e s'=>wpAny (model P w) (A.deeper (envOfC qual scope s.heap.objs.size f cd)) (leaving (envOfC qual scope s.heap.objs.size f cd) e) (λ _ IH=>CX outer H s E e IH) (λ e' IH=>CX outer H s E e' IH) s'
def lX {sc:Scope}(h:sc.names.lookup x=some .cell):∃c,(cellsFrom n sc.names []).lookup x=some c:=by
 have q:=Ez sc.names n [] (.inl h);exact Option.isSome_iff_exists.mp q
def j7 {CX:Nj}{K:Frag}
  (S:y' N ps scope) (e0:JT P w K mg base A outer s H) (hl:vs.length=ps.length) (r:Vals vs us)
  (x:InCallC s s.heap.objs.size (bindL (envOfC qual scope s.heap.objs.size f cd).kindOf (ps.zip us) λ _=>none) (cellsFrom (s.heap.objs.size+1) scope.names []) (bindC (envOfC qual scope s.heap.objs.size f cd).kindOf (ps.zip us) λ _=>none) s1):
  Inv (cxOf CX P w K mg base N qual scope f cd A outer s H E) [] (start N vs) H s1:=by
 have HZ:ps.length≤N.length:=by have:=Bx List.length S.pre;rw [Aq] at this;lia
 obtain⟨h1,tk,rfl,hk⟩:=x.done;have OP:∀b,b∉(cxOf CX P w K mg base N qual scope f cd A outer s H E).ex:=λ b z=>absurd (show b∈([]:List FR) from z) Z6
 refine⟨⟨e0.mod,S.kind,rfl,rfl,Ak _,λ y z c h1 h2=>?_,λ y hy=>?_,λ y c _ h=>?_,e0.qt,Around.frames_deeper e0.frames,.inr ⟨rfl,rfl⟩,λ b z=>absurd z (OP b),e0.bs,e0.bsz,λ b _ _=>OP b,λ b z=>absurd z (OP b),e0.funs,e0.frf⟩,
  rfl,e0.bare,Un.kept hk,⟨_,x.toInCall.ns,λ i y v h1 h2 h3=>?_⟩,λ y c h=>⟨_,x.cell y c h⟩,e0.hok.fresh (Ak _),λ y c h=>?_,λ p hp=>absurd (show p∈([]:List (FR×F1)) from hp) Z6,e0.hok.kept hk,?_⟩
 ·exact name_of_addr x.apart (Bb h1) (Bb h2)
 ·have hy:scope.names.lookup y=some .cell\/scope.names.lookup y=some .free:=hy;rcases hy with hy|hy
  ·exact lX hy
  ·exact absurd rfl (S.nofree _ (Bb hy))
 ·exact B9 (x.above y c (Bb h))
 ·have hi:i<vs.length:=by
   unfold start at h2;by_cases hi:i<vs.length
   ·exact hi
   ·rw [AY (by simpa using hi)] at h2;rw [Dm] at h2
    split at h2<;>cases h2
  have ha:vs[i]?=some v:=by
   unfold start at h2;rw [Bg (by simpa using hi),AU] at h2;cases e:vs[i]? with
   |none=>rw [e] at h2;cases h2
   |some a=>rw [e] at h2;cases h2;rfl
  obtain⟨u,hu,rv⟩:=r.get ha;have hp:ps[i]?=some y:=by
   rw [<-S.pre,List.getElem?_take_of_lt (Av hi hl)];exact h1
  have ZL:ps.Nodup:=by rw [<-S.pre];exact S.nd.sublist (DK _ _)
  refine⟨u,rv,?_⟩;rcases S.par y (AX hp) with k|k
  ·exact .inl ⟨k,jT ZL hp hu k⟩
  ·obtain⟨c,e⟩:=lX k;refine .inr ⟨.inl k,c,e,?_⟩;have q:=x.cell y c e;rw [kB ZL hp hu (by show scope.names.lookup y≠_;rw [k];decide)] at q;exact q
 ·exact e0.hok.fresh (B9 (x.above y c (Bb h)))
 ·unfold start;show _=N.length;rw [Ac,Aa,Al];lia
def o0 {P:FU}{w:FV}{K:Frag}{f:FR}{dV kV doc pm F8 ct oc:FS}
    (lk:K.lookup f=some ⟨oc,od,.func (fnOf name qual params body scope dV kV doc pm an F8 ct),osl⟩) (Jm:codeIn K F8 qual=true) (S:y' N ps scope)
  (len:∀vs H Q E,sp vs H Q E->vs.length=ps.length)
  (Jt:∀(A:FX) (outer:List Env) (s:FT) (H:Hp) (vs:List V) (Q:VK) (E:XK),Ge k (A.deeper (envOfC qual scope s.heap.objs.size f F8))->sp vs H Q E->
   ∃t,PSs (cxOf CX P w K mg base N qual scope f F8 A outer s H E) body t/\t {nx:=λ _ H'=>Q .non H',rt:=Q} (start N vs) H):
  Gb P w K mg base CX (k+1) f (fnOf name qual params body scope dV kV doc pm an F8 ct) ps sp:=by
 refine⟨len,λ A outer s H args us vs Q E hr e0 hb r JN=>?_⟩;have hl:=len _ _ _ _ JN;have KX:K.In s.heap:=e0.mod.kin.keeps λ b o e=>(e0.bs b o e).1
 have lim:s.heap.NoLimit:=e0.mod.nolimit.keeps λ b o e=>(e0.bs b o e).1
 have Hm:∀y∈ps.zip us,scope.names.lookup y.1=some .local\/(scope.names.lookup y.1=some .cell/\((cellsFrom (s.heap.objs.size+1) scope.names []).lookup y.1).isSome=true):=λ⟨n,v⟩ hy=>by
  rcases S.par n (En hy).1 with q|q
  ·exact .inl q
  ·exact .inr ⟨q,Ez _ _ _ (.inl q)⟩
 refine codeAny_call_function hr.depth (KX _ _ lk) rfl S.co S.gen rfl (codeRec_of KX Jm) (hb _ _ _ _ ?_);refine wpAny_newFunctionEnv_cells S.kind Hm λ env he s1 x=>?_
 subst he;refine⟨lim.keeps x.toInCall.keep,codeAny_func ?_⟩;obtain⟨t,ht,hq⟩:=Jt A outer s H vs Q E (hr.deeper _) JN;have I:Inv (cxOf CX P w K mg base N qual scope f F8 A outer s H E) [] (start N vs) H s1:=j7 S e0 hl r x;refine Br (ht [] s1 (start N vs) H _ I hq) (λ fl s' hs=>?_) λ e s' hs=>hs
 have fin:∀{σ'} {H'} {v} {u},Inv (cxOf CX P w K mg base N qual scope f F8 A outer s H E) [] σ' H' s'->RelV v u->Q v H'->CE outer P w H s Q u s':=
  λ {σ' H' v u} J rv q=>⟨v,H',J.os,J.bare,J.base,J.hok,rv,q⟩
 cases fl with
 |ret u=>
  obtain⟨v,σ',H',J,rv,q⟩:=hs;exact fin J rv q
 |next=>
  obtain⟨σ',H',J,q⟩:=hs;exact fin (v:=V.non) J rfl q
 |brk=>
  obtain⟨_,_,_,q⟩:=hs;exact False.elim q
 |cont=>
  obtain⟨_,_,_,q⟩:=hs;exact False.elim q
section
variable {X:Cx}{x:Str}{p pos:Pos}{e:FZ}{es:List FZ}{t:TA}{id T:String}{r:List V -> Hp -> VK -> Prop}
def Qe (r:List V->Hp->VK->Prop)(t:TA):TE:=λ σ H Q=>t σ H λ vs H1=>r vs H1 Q
def ay (hc:dU X (.builtin id) r)(hg:Gl X x)(hm:X.mg x=none)(hv:bootBuiltins x=some (.builtin id))(ha:PA X (e::es) t)(hn:autoParam (x≠ "__name__") ZZ)(Ky:'e')
  (he:'k') (HZ:autoParam ((backTo pos (starEach es X.env)).any (·.1)=false) Z0):PE X (.Call (.Name x p) (e::es) [] pos) (Qe r t):=by
 intro F6 s σ H Q I h;refine BN (eF I hg hm hv ?_ hn Ky);exact PyProof.Rows.callWith_builtin1 (thn (ha pos F6 s σ H _ I h) λ us s1 z9=>by obtain⟨vs,H1,I1,r1,q1⟩:=z9;exact hc F6 s1 σ H1 vs us Q I1 r1 q1) he HZ
def cK (hc:dU X (.type T) r)(hg:Gl X x)(hm:X.mg x=none)(hv:bootBuiltins x=some (.type T))(ha:PA X (e::es) t)(hn:autoParam (x≠ "__name__") ZZ)(Ky:'e')
  (he:'k') (HZ:autoParam ((backTo pos (starEach es X.env)).any (·.1)=false) Z0):PE X (.Call (.Name x p) (e::es) [] pos) (Qe r t):=by
 intro F6 s σ H Q I h;refine BN (eF I hg hm hv ?_ hn Ky);exact Ct (thn (ha pos F6 s σ H _ I h) λ us s1 z9=>by obtain⟨vs,H1,I1,r1,q1⟩:=z9;exact hc F6 s1 σ H1 vs us Q I1 r1 q1) he HZ
end
end L2
namespace HT
open PySem PyProof.Rows
section
open PySem.SeqAt
open PySem.AutoSeq1 (wpAny_loadPart')
open PySem.MeetsSeq PySem.MeetsSeq2 PySem.MeetsSeq3
end
section
variable {prog:FU}{w:FV}{A:FX}{E:FS -> FT -> Prop}{s:FT}
noncomputable def Ku (n d:Nat):Option Int->Nat
 |none=>d
 |some v=>if v<0 then(v+(n:Int)).toNat else min v.toNat n
def K8 (n d:Nat):Ku n d none=d:=rfl
def HP (n d k:Nat):Ku n d (some (k:Int))=min k n:=by
 show(if(k:Int)<0 then((k:Int)+(n:Int)).toNat else min (k:Int).toNat n)=min k n;rw [AH Z5,AM]
end
end HT
namespace L2
open PySem PySem.Spec PyProof.Rows
abbrev TO:=St->Hp->(Option Int->Hp->Prop)->Prop
def PO (X:Cx)(e:Option FZ)(t:TO):Prop:=
 ∀(F6:List (FR×F1)) (s:FT) (σ:St) H Q,'b' s->t σ H Q->
  wpAny 'd' X.A (evalPart e X.env) (λ u s'=>∃o H',Inv X F6 σ H' s'/\IsPart u o/\Q o H') X.xe s
def gK:TO:=λ _ H Q=>Q none H
inductive Mf (Q:Option Int->Hp->Prop) (x:V) (H1:Hp):Prop
 |mk (i:_) (h0:x=.int i) (h1:Q (some i) H1):Mf Q x H1
def iY (t:TE):TO:=λ σ H Q=>t σ H λ x H1=>Mf Q x H1
def jz:∀{us},Vals (ns.map V.int) us->IntsAre us ns:=by
 induction ns with
 |nil=>intro us r;rw [Fk] at r;cases r;exact .nil
 |cons n ns ih=>
  intro us r;rw [Bz] at r;cases r with
  |cons r1 r2=>
   obtain⟨t,e⟩:=r1;subst e;exact .cons n t (ih r2)
section
variable {X:Cx}{e:FZ}{te:TE}{lo hi:Option FZ}{tl th:TO}{pos p2:Pos}
def fu:PO X none gK:=by
 intro F6 s σ H Q I h;rw [evalPart_none];exact AG ⟨none,H,I,.none,h⟩
def bM (h:PE X e te):PO X (some e) (iY te):=by
 intro F6 s σ H Q I hw;rw [evalPart_some];refine thn (h F6 s σ H _ I hw) λ u s1 z9=>?_
 obtain⟨x,H1,I1,r1,q1⟩:=z9;obtain⟨i,rfl,q⟩:=q1;obtain⟨t,rfl⟩:=r1;exact⟨some i,H1,I1,.int i t,q⟩
def Yg (X:Cx)(r:V->Option Int->Option Int->Hp->VK->Prop):Prop:=
 ∀(F6:List (FR×F1)) (s:FT) (σ:St) (H:Hp) x v vl vu lo hi sl Q,'b' s->RelV x v->s.heap.IsSliceOf sl vl vu .none->IsPart vl lo->IsPart vu hi->r x lo hi H Q->
  ∃T id,typeLookup (.type T) "__getitem__"=pure (some (.builtin id))/\s.TypeIs v T/\wpAny 'd' X.A (getItem v (.ref sl)) (EP X F6 σ Q) X.xe s
def Q0 (r:V->Option Int->Option Int->Hp->VK->Prop)(te:TE)(tl th:TO):TE:=λ σ H Q=>te σ H λ x H1=>tl σ H1 λ l H2=>th σ H2 λ u H3=>r x l u H3 Q
def cf {r:V->Option Int->Option Int->Hp->VK->Prop}(hr:Yg X r)(he:PE X e te)(hl:PO X lo tl)(hu:PO X hi th):PE X (.Subscript e (.Slice lo hi none p2) pos) (Q0 r te tl th):=by
 intro F6 s σ H Q I h;refine Subscript_ (thn (he F6 s σ H _ I h) λ v s1 z9=>?_);obtain⟨x,H1,I1,r1,q1⟩:=z9;refine wpAny_Slice (thn (hl F6 s1 σ H1 _ I1 q1) λ vl s2 ⟨l,H2,I2,pl,q2⟩=>thn (hu F6 s2 σ H2 _ I2 q2) λ vu s3 z9=>?_);obtain⟨u,H3,I3,pu,q3⟩:=z9;rw [evalPart_none];refine AG ?_;have I4:Inv X F6 σ H3 {s3 with heap:=s3.heap.push {cls:=.type "slice",data:=.fields #[vl,vu,.none]}}:=I3.kept (t':=s3.toks) λ b ob q=>Aj _ q
 obtain⟨T,id,hT,ht,hg⟩:=hr F6 {s3 with heap:=s3.heap.push {cls:=.type "slice",data:=.fields #[vl,vu,.none]}} σ H3 x v vl vu l u s3.heap.objs.size Q I4 r1 (Heap.IsSliceOf.new ..) pl pu q3;show wpAny 'd' X.A (subscriptTail e (.Slice lo hi none p2) v (.ref s3.heap.objs.size)) (EP X F6 σ Q) X.xe {s3 with heap:=s3.heap.push {cls:=.type "slice",data:=.fields #[vl,vu,.none]}};exact tail_any ht hT hg (by with_unfolding_all rfl)
def cutV (xs:List V)(lo hi:Option Int):List V:=(xs.drop (HT.Ku xs.length 0 lo)).take (HT.Ku xs.length xs.length hi-HT.Ku xs.length 0 lo)
def lR (xs:List V)(lo hi):(cutV xs lo hi).length≤xs.length:=by
 unfold cutV;rw [Aq,Au];exact Ai (BQ _ _) (EF _ _)
end
noncomputable def ixN (n:Nat) (i:Int):Option Nat:=if 0≤i then(if i<n then some i.toNat else none) else if-(n:Int)≤i then some (i+n).toNat else none
noncomputable def O5 {α:Type} (xs:List α) (i:Int):Option α:=(ixN xs.length i).bind λ j=>xs[j]?
def pH {n:Nat}(h:ixN n i=some j):seqIndex? i n=some j/\j<n/\-(n:Int)≤i/\i<n:=by
 unfold ixN at h;by_cases h0:0≤i
 ·rw [AK h0] at h;by_cases h1:i<n
  ·rw [AK h1] at h;have e:i.toNat=j:=AJ h;exact⟨by rw [seqIndex_of h0 h1,e],Z5,Z5,h1⟩
  ·rw [AH h1] at h;cases h
 ·rw [AH h0] at h;by_cases h1:-(n:Int)≤i
  ·rw [AK h1] at h;have e:(i+n).toNat=j:=AJ h;exact⟨by rw [seqIndex_neg (D2 h0) h1,e],Z5,h1,Z5⟩
  ·rw [AH h1] at h;cases h
def kO {α:Type}{xs:List α}{v:α}(h:O5 xs i=some v):∃j,seqIndex? i xs.length=some j/\xs[j]?=some v/\j<xs.length/\-(xs.length:Int)≤i/\i<xs.length:=by
 unfold O5 at h;cases e:ixN xs.length i with
 |none=>rw [e] at h;cases h
 |some j=>
  rw [e] at h;obtain⟨h1,h2,h3,h4⟩:=pH e;exact⟨j,h1,h,h2,h3,h4⟩
def aD {j:Nat}{v:α}(h:xs[j]?=some v):O5 xs (j:Int)=some v:=by
 have hj:j<xs.length:=(Af.mp h).1;have e:ixN xs.length (j:Int)=some j:=by
  unfold ixN;rw [AK Z5,AK (D8.mpr hj)];simp
 unfold O5;rw [e];exact h
def qb (b:FZ):Prop:=∀o i,subscripted b false o i=operate [o,i] (getItem o i)
def T3 (X:Cx)(r:R2):Prop:=
 ∀(value slice:FZ) (F6:List (FR×F1)) (s:FT) (σ:St) H x y v u Q,'b' s->RelV x v->RelV y u->r x y H Q->
  subscripted slice false v u=operate [v,u] (getItem v u)->wpAny 'd' X.A (subscriptTail value slice v u) (EP X F6 σ Q) X.xe s
def MtR (X:Cx)(id:String)(r:V->List V->Hp->VK->Prop):Prop:=
 ∀(F6:List (FR×F1)) (s:FT) (σ:St) (H:Hp) x xs v us Q,'b' s->RelV x v->Vals xs us->r x xs H Q->
  wpAny 'd' X.A (call (.builtin id) (v::us)) (EP X F6 σ Q) X.xe s
section
variable {X:Cx}{a b:FZ}{ta tb:TE}{pos:Pos}
def aU {r:R2}(hr:T3 X r)(ha:PE X a ta)(hb:PE X b tb)(hs:qb b):PE X (.Subscript a b pos) (Im r ta tb):=by
 intro F6 s σ H Q I h;exact Subscript_ (binT ha hb I h λ v u s2 x y H2 I2 rx ry q=>hr a b F6 s2 σ H2 x y v u Q I2 rx ry q (hs _ _))
inductive KH (K:Frag) (x:V) (y:V) (H:Hp) (Q:VK):Prop
 |mk (p:_) (xs:_) (i:_) (v:_) (h0:x=.ref p) (h1:y=.int i) (h2:Gf K H p xs) (h3:O5 xs i=some v) (h4:Q v H):KH K x y H Q
inductive Ui (K:Frag) (x:V) (y:V) (H:Hp) (Q:VK):Prop
 |mk (p:_) (xs:_) (i:_) (v:_) (h0:x=.ref p) (h1:y=.int i) (h2:GF K H p xs) (h3:O5 xs i=some v) (h4:Q v H):Ui K x y H Q
inductive Uj (x:V) (y:V) (H:Hp) (Q:VK):Prop
 |mk (z:_) (i:_) (c:_) (h0:x=.str z) (h1:y=.int i) (h2:z.length≤sizeLine) (h3:O5 z.cps.toList i=some c) (h4:Q (.str ⟨#[c]⟩) H):Uj x y H Q
def aW:T3 X (KH X.K):=by
 intro value slice F6 s σ H x y v u Q I rx ry h hs;obtain⟨p,xs,i,z,rfl,rfl,hq,he,q⟩:=h;cases rx;obtain⟨t,rfl⟩:=ry;obtain⟨Gd,r,pl,hz⟩:=I.list hq;obtain⟨j,h1,h2,h3,h4,h5⟩:=kO he;obtain⟨w,ew,ON⟩:=r.get h2;have hl:=r.length;have hn:=hV;have fin:EP X F6 σ Q w s:=⟨z,H,I,ON,q⟩;by_cases h0:0≤i
 ·have hj:i.toNat=j:=by
   rw [seqIndex_of h0 h5] at h1;exact AJ h1
  exact item_listR pl.isList h0 Z5 (by rw [hj];simpa using ew) fin hs
 ·have hj:(i+(Gd.toArray.size:Int)).toNat=j:=by
   rw [seqIndex_neg (D2 h0) h4] at h1;rw [AC,<-hl];exact AJ h1
  exact subscriptTail_builtinR pl.isList.typeIs slot_list_getitem.lookup
   (wpAny_getItem_list_neg pl.isList (D2 h0) (by rw [AC]<;>exact Cq (Bx Neg.neg (Bx Nat.cast hl.symm)) h4) Z5 (by rw [hj];simpa using ew) ⟨rfl,fin⟩) hs
def bL:T3 X (Ui X.K):=by
 intro value slice F6 s σ H x y v u Q I rx ry h hs;obtain⟨p,xs,i,z,rfl,rfl,hq,he,q⟩:=h;cases rx;obtain⟨t,rfl⟩:=ry;obtain⟨Gd,r,pl,hz⟩:=I.tuple hq;obtain⟨j,h1,h2,h3,h4,h5⟩:=kO he;obtain⟨w,ew,ON⟩:=r.get h2;have hl:=r.length;have hn:=hV;have fin:EP X F6 σ Q w s:=⟨z,H,I,ON,q⟩;exact subscriptTail_builtinR pl.typeIs slot_tuple_getitem.lookup
  (getItem_tuple pl Z4 Z4 (by rw [AC,<-hl];exact h1) (by simpa using ew) ⟨rfl,fin⟩) hs
def x9:T3 X Uj:=by
 intro value slice F6 s σ H x y v u Q I rx ry h hs;obtain⟨z,i,c,rfl,rfl,hz,he,q⟩:=h;obtain⟨t,rfl⟩:=rx;obtain⟨t',rfl⟩:=ry;obtain⟨j,h1,h2,h3,h4,h5⟩:=kO he;have hl:z.cps.toList.length=z.length:=by simp [Str.length]
 rw [hl] at h1 h4 h5;have hn:=hV;exact tail_any (typeIs_str s z t) slot_str_getitem.lookup (getItem_str (by
  have e1:decide (i< -(2^63:Int))=false:=Bt Z4;have e2:decide (i≥2^63)=false:=Bt Z4;rw [e1,e2,Bool.or_false]) (by rw [h1];simpa using h2) ⟨.str ⟨#[c]⟩,H,I.tok _,⟨_,rfl⟩,q⟩) hs
def nZ (Gd:List FS)(n j)(u):Obj.mapSeq (·.setIfInBounds j u) {cls:=.type "list",data:=.seq Gd.toArray n}={cls:=.type "list",data:=.seq (Gd.set j u).toArray n}:=by
 simp [Obj.mapSeq]
theorem Inv.lst {F6:List (FR×F1)}{σ:St}(I:'b' s)(h:H p=↥xs):
  ∃Gd n,Vals xs Gd/\s.heap.get? p=some {cls:=.type "list",data:=.seq Gd.toArray n}/\xs.length≤sizeLine:=by
 obtain⟨z,Gd,n,r,e⟩:=I.hok p _ h;exact⟨Gd,n,r,e,z⟩
def Inv.lstUpd {F6:List (FR×F1)}{σ:St}{Gd its':List FS}(I:'b' s)(h:H p=↥xs)
  (ho:s.heap.get? p=some {cls:=.type "list",data:=.seq Gd.toArray n}) (hf:f {cls:=.type "list",data:=.seq Gd.toArray n}={cls:=.type "list",data:=.seq its'.toArray n'}) (r:Vals ys its') (hz:ys.length≤sizeLine) (t):
  Inv X F6 σ (upd H p (.lst ys)) {s with heap:=s.heap.update p f,toks:=t}:=by
 have e:(s.heap.update p f).get? p=some {cls:=.type "list",data:=.seq its'.toArray n'}:=by
  rw [A9 f ho (by rw [hf]<;>rfl),hf]
 refine I.write (by rw [h];trivial) (.inl rfl) (λ b u hb q=>(AI _ _ (B7 hb)).trans q) ⟨_,e⟩ ?_;exact⟨hz,its',n',r,e⟩
inductive P8 (o:V) (i:V) (v:V) (H:Hp) (Q:Hp->Prop):Prop
 |mk (p:_) (xs:_) (k:_) (j:_) (h0:o=.ref p) (h1:i=.int k) (h2:H p=↥xs) (h3:ixN xs.length k=some j) (h4:Q (upd H p (.lst (xs.set j v)))):P8 o i v H Q
def eg:zm X P8:=by
 intro F6 s σ H o i v ov iv u Q I ro ri rv h;obtain⟨p,xs,k,j,rfl,rfl,hp,hj,q⟩:=h;cases ro;obtain⟨t,rfl⟩:=ri;obtain⟨Gd,n,r,ho,hz⟩:=I.lst hp;obtain⟨h1,h2,h3,h4⟩:=pH hj;have hl:=r.length;have hn:=hV;have I':Inv X F6 σ (upd H p (.lst (xs.set j v))) {s with heap:=s.heap.update p (Obj.mapSeq (·.setIfInBounds j u))}:=
  I.lstUpd hp ho (nZ Gd n j u) (r.set rv j) (by rw [Ek];exact hz) s.toks
 by_cases h0:0≤k
 ·have hk:k.toNat=j:=by
   rw [seqIndex_of h0 h4] at h1;exact AJ h1
  exact PySem.W.ki_setAt ho h0 Z4 (by rw [AC,<-hl];exact h4) (by rw [hk];exact⟨_,I',q⟩)
 ·have hk:(k+(Gd.toArray.size:Int)).toNat=j:=by
   rw [seqIndex_neg (D2 h0) h3] at h1;rw [AC,<-hl];exact AJ h1
  exact PySem.W.ki_setBack ho (D2 h0) (by rw [AC,<-hl];exact h3) Z4 (by rw [hk];exact⟨_,I',q⟩)
def sbP {i:Int}{n:Nat}(h:¬i<0):max 0 (min i n)=⇑(min i.toNat n):=by
 obtain⟨k,rfl⟩:=Int.eq_ofNat_of_zero_le (Int.not_lt.1 h);rw [AM,Int.max_eq_right (Int.le_min.2 ⟨BG _,BG _⟩)];rcases Nat.le_total k n with e|e
 ·rw [Bu e,Int.min_eq_left (Int.ofNat_le.2 e)]
 ·rw [CJ e,Int.min_eq_right (Int.ofNat_le.2 e)]
def sbN {i:Int}{n:Nat}(h:i<0):max 0 (min (i+n) n)=((i+n).toNat:Int):=by
 rw [Int.min_eq_left (Int.le_trans (Int.add_le_add_right (Int.le_of_lt h) n) (Int.le_of_eq (Int.zero_add _))),Int.toNat_eq_max,Int.max_comm]
def lr (lo hi:Option Int)(n):(sliceBounds lo hi none n).1=⇑(HT.Ku n 0 lo)/\(sliceBounds lo hi none n).2.1=⇑(HT.Ku n n hi)/\(sliceBounds lo hi none n).2.2=1:=by
 refine⟨?_,?_,rfl⟩
 ·cases lo with
  |none=>simp [sliceBounds,HT.Ku]
  |some i=>
   simp only [sliceBounds,HT.Ku,Option.getD_none,show(1:Int)>0 by decide,if_true];by_cases h:i<0
   ·simp only [h,if_true,sbN h]
   ·simp only [h,if_false,sbP h]
 ·cases hi with
  |none=>simp [sliceBounds,HT.Ku]
  |some i=>
   simp only [sliceBounds,HT.Ku,Option.getD_none,show(1:Int)>0 by decide,if_true];by_cases h:i<0
   ·simp only [h,if_true,sbN h]
   ·simp only [h,if_false,sbP h]
def jG (Gd:List FS)(lo hi):slicePick Gd.toArray lo hi none=((Gd.drop (HT.Ku Gd.length 0 lo)).take (HT.Ku Gd.length Gd.length hi-HT.Ku Gd.length 0 lo)).toArray:=by
 obtain⟨h1,h2,h3⟩:=lr lo hi Gd.toArray.size;unfold slicePick;rw [h1,h2,h3];simp only [sliceRange_one,pick_run,AC]<;>rfl
inductive MW (K:Frag) (x:V) (lo:Option Int) (hi:Option Int) (H:Hp) (Q:VK):Prop
 |mk (a:_) (xs:_) (h0:x=.ref a) (h1:Gf K H a xs) (h2:∀p,H p=none->Q (.ref p) (upd H p (.lst (cutV xs lo hi)))):MW K x lo hi H Q
def dI:Yg X (MW X.K):=by
 intro F6 s σ H x v vl vu lo hi sl Q I rx hs pl pu h;obtain⟨a,xs,rfl,hx,q⟩:=h;cases rx;obtain⟨Gd,r,ht,hz⟩:=I.list hx;have hlen:=r.length;refine⟨"list",_,slot_list_getitem.lookup,ht.isList.typeIs,?_⟩;refine wpAny_getItem_list_slice ht.isList hs pl pu .none Z6 ?_ (by rw [AC]<;>lia);rw [jG,<-hlen];refine⟨.ref s.heap.objs.size,_,I.laid (t':=s.toks) (λ b ob q=>Aj _ q) (Ak _) ?_,rfl,q _ (I.hok.fresh (Ak _))⟩;exact⟨Ai (lR xs lo hi) hz,_,0,(r.drop (HT.Ku xs.length 0 lo)).take (HT.Ku xs.length xs.length hi-HT.Ku xs.length 0 lo),AN _ rfl⟩
def flatV:V->Bool
 | .non=>true
 | .bl _=>true
 | .int _=>true
 | .str _=>true
 |_=>false
def OI:V->V->Bool
 | .non,.non=>true
 | .bl a,.bl b=>a==b
 | .bl a,.int b=>(if a then 1 else 0)==b
 | .int a,.bl b=>a==(if b then 1 else 0)
 | .int a,.int b=>a==b
 | .str a,.str b=>a==b
 |_,_=>false
def tZ (ry:RelV y u)(rx:RelV x v)(fy:flatV y=true)(fx:flatV x=true):SeqAt.EqAt A s u v (OI y x):=by
 cases y with
 |non=>
  cases ry;cases x with
  |non=>cases rx;exact SeqAt.EqAt.same _
  |bl b=>cases rx;exact SeqAt.EqAt.none_bool b
  |int b=>obtain⟨t,rfl⟩:=rx;exact SeqAt.EqAt.none_int b t
  |str b=>obtain⟨t,rfl⟩:=rx;exact SeqAt.EqAt.none_str b t
  |_=>exact absurd (show false=true from fx) Ax
 |bl a=>
  cases ry;cases x with
  |non=>cases rx;exact SeqAt.EqAt.bool_none a
  |bl b=>cases rx;exact SeqAt.EqAt.bool_bool a b
  |int b=>obtain⟨t,rfl⟩:=rx;exact SeqAt.EqAt.bool_int a b t
  |str b=>obtain⟨t,rfl⟩:=rx;exact SeqAt.EqAt.bool_str a b t
  |_=>exact absurd (show false=true from fx) Ax
 |int a=>
  obtain⟨t',rfl⟩:=ry;cases x with
  |non=>cases rx;exact SeqAt.EqAt.int_none a t'
  |bl b=>cases rx;exact SeqAt.EqAt.int_bool a t' b
  |int b=>obtain⟨t,rfl⟩:=rx;exact SeqAt.EqAt.int_int a t' b t
  |str b=>obtain⟨t,rfl⟩:=rx;exact SeqAt.EqAt.int_str a t' b t
  |_=>exact absurd (show false=true from fx) Ax
 |str a=>
  obtain⟨t',rfl⟩:=ry;cases x with
  |non=>cases rx;exact SeqAt.EqAt.str_none a t'
  |bl b=>cases rx;exact SeqAt.EqAt.str_bool a t' b
  |int b=>obtain⟨t,rfl⟩:=rx;exact SeqAt.EqAt.str_int a t' b t
  |str b=>obtain⟨t,rfl⟩:=rx;exact SeqAt.EqAt.str_str a t' b t
  |_=>exact absurd (show false=true from fx) Ax
 |_=>exact absurd (show false=true from fy) Ax
def OJ (x:V)(u:FS):Bool:=match u with
 | .none=>OI .non x
 | .bool b=>OI (.bl b) x
 | .int i _=>OI (.int i) x
 | .str z _=>OI (.str z) x
 |_=>false
def tI {u:FS}(r:RelV y u)(f:flatV y=true):OJ x u=OI y x:=by
 cases y with
 |non=>cases r;rfl
 |bl b=>cases r;rfl
 |int i=>obtain⟨t,rfl⟩:=r;rfl
 |str z=>obtain⟨t,rfl⟩:=r;rfl
 |_=>exact absurd (show false=true from f) Ax
theorem lj:∀{xs} {us},Vals xs us->xs.all flatV=true->us.any (OJ x)=xs.any λ y=>OI y x
 |_,_,.nil,_=>rfl
 |y::xs,u::us,.cons r t,f=>by
  rw [List.all_cons,D1] at f;rw [E5,E5,tI r f.1,lj t f.2]
theorem gj (rx:RelV x v)(fx:flatV x=true):∀{xs} {us},Vals xs us->xs.all flatV=true->∀u∈us,SeqAt.EqAt A s u v (OJ x u)
 |_,_,.nil,_=>λ u hu=>by cases hu
 |y::xs,u::us,.cons r t,f=>λ u' hu=>by
  rw [List.all_cons,D1] at f;rcases AB.mp hu with rfl|hu
  ·rw [tI r f.1];exact tZ r rx f.1 fx
  ·exact gj rx fx t f.2 u' hu
def VA (x:V)(xs:List V):Bool:=xs.any λ y=>OI y x
inductive rIn (K:Frag) (neg:Bool) (x:V) (y:V) (H:Hp) (Q:VK):Prop
 |mk (p:_) (xs:_) (h0:y=.ref p) (h1:(Gf K H p xs\/GF K H p xs)) (h2:flatV x=true) (h3:xs.all flatV=true) (h4:Q (.bl (if neg then !VA x xs else VA x xs)) H):rIn K neg x y H Q
def kK:Ig X (compareOp .NotIn) (rIn X.K true):=by
 intro F6 s σ H x y v u Q I rx ry h;obtain⟨p,xs,rfl,hq,fx,fs,q⟩:=h;cases ry;rcases hq with hq|hq
 ·obtain⟨Gd,r,pl,hz⟩:=I.list hq;refine SeqAt.notIn_listAt (OJ x) pl.isList (λ w hw=>gj rx fx r fs w (by simpa using hw)) ⟨.bl _,H,I,rfl,?_⟩;rw [show Gd.toArray.any (OJ x)=Gd.any (OJ x) by simp,lj r fs];exact q
 ·obtain⟨Gd,r,pl,hz⟩:=I.tuple hq;refine SeqAt.notIn_tupleAt (OJ x) pl (λ w hw=>gj rx fx r fs w (by simpa using hw)) ⟨.bl _,H,I,rfl,?_⟩;rw [show Gd.toArray.any (OJ x)=Gd.any (OJ x) by simp,lj r fs];exact q
def ax:dU X (.builtin "len") (λ xs H Q=>∃p ys,xs=[.ref p]/\(Gf X.K H p ys\/GF X.K H p ys)/\Q (.int ys.length) H):=by
 intro F6 s σ H xs us Q I r h;obtain⟨p,ys,rfl,hq,q⟩:=h;obtain⟨u,rfl,rx⟩:=fg r;cases rx;have hn:=hV;rcases hq with hq|hq
 ·obtain⟨Gd,r',pl,hz⟩:=I.list hq;have hlen:=r'.length;exact Calls.call_len_list pl.isList (by simp only [AC]<;>lia) ⟨.int ys.length,H,I.tok _,⟨s.toks+1,by rw [AC,hlen]⟩,q⟩
 ·obtain⟨Gd,r',pl,hz⟩:=I.tuple hq;have hlen:=r'.length;exact len_tuple pl (by simp only [AC]<;>omega) ⟨.int ys.length,H,I.tok _,⟨s.toks+1,by rw [AC,hlen]⟩,q⟩
def cq:dU X (.builtin "len") (λ xs H Q=>∃z,xs=[.str z]/\z.length≤sizeLine/\Q (.int z.length) H):=by
 intro F6 s σ H xs us Q I r h;obtain⟨z,rfl,hz,q⟩:=h;obtain⟨u,rfl,t,rfl⟩:=fg r;have hn:=hV;exact len_str Z4 ⟨.int z.length,H,I.tok _,⟨_,rfl⟩,q⟩
def dt:dU X (.type "list") (λ xs H Q=>∃p ys,xs=[.ref p]/\(Gf X.K H p ys\/GF X.K H p ys)/\∀l,H l=none->Q (.ref l) (upd H l (.lst ys))):=by
 intro F6 s σ H xs us Q I r h;obtain⟨p,ys,rfl,hq,q⟩:=h;obtain⟨u,rfl,rx⟩:=fg r;cases rx;have fin:∀(Gd:List FS),Vals ys Gd->ys.length≤sizeLine->∀(h':FY) (c':Nat),(∀b o',s.heap.get? b=some o'->h'.get? b=some o')->
   h'.get? s.heap.objs.size=some {cls:=.type "list",dict:=none,data:=.seq Gd.toArray c',slots:=#[]}->EP X F6 σ Q (.ref s.heap.objs.size) {s with heap:=h'}:=λ Gd r' hz h' c' kp e=>
  ⟨.ref s.heap.objs.size,_,I.laid kp (Ak _) (show Gp X.prog X.w _ h' _ (.lst ys) from⟨hz,Gd,c',r',e⟩),rfl,q _ (I.hok.fresh (Ak _))⟩
 rcases hq with hq|hq
 ·obtain⟨Gd,r',pl,hz⟩:=I.list hq;have hlen:=r'.length;obtain⟨o,ho,hc,n,hd⟩:=pl.isList;exact call_list_seq p (.inl rfl) ho hc hd (λ h' c' kp e=>fin Gd r' hz h' c' kp e) (by simp only [AC]<;>exact Cq hlen.symm hz)
 ·obtain⟨Gd,r',pl,hz⟩:=I.tuple hq;have hlen:=r'.length;obtain⟨o,ho,hc,n,hd⟩:=pl;exact call_list_seq p (.inr rfl) ho hc hd (λ h' c' kp e=>fin Gd r' hz h' c' kp e) (by simp only [AC]<;>exact Cq hlen.symm hz)
def dS:dU X (.type "tuple") (λ xs H Q=>∃p ys,xs=[.ref p]/\((Gf X.K H p ys/\∀l,H l=none->Q (.ref l) (upd H l (.tup ys)))\/(GF X.K H p ys/\Q (.ref p) H))):=by
 intro F6 s σ H xs us Q I r h;obtain⟨p,ys,rfl,h⟩:=h;obtain⟨u,rfl,rx⟩:=fg r;cases rx;rcases h with⟨hq,q⟩|⟨hq,q⟩
 ·obtain⟨Gd,r',pl,hz⟩:=I.list hq;have hlen:=r'.length;refine call_tuple_list pl.isList (λ h' kp=>?_) (by simp only [AC]<;>exact Cq hlen.symm hz);have I1:'b' {s with heap:=h'}:=I.kept (t':=s.toks) kp;have I2:Inv X F6 σ (upd H h'.objs.size (.tup ys)) {s with heap:=h'.push {cls:=.type "tuple",data:=.seq Gd.toArray}}:=
   I1.laid (t':=s.toks) (λ b o e=>Aj _ e) (Ak _) (show Gp X.prog X.w _ _ _ (.tup ys) from⟨hz,Gd,r',IsTup.new _ _⟩)
  exact⟨.ref h'.objs.size,_,I2,rfl,q _ (I1.hok.fresh (Ak _))⟩
 ·obtain⟨Gd,r',pl,hz⟩:=I.tuple hq;exact call_tuple_same pl ⟨.ref p,H,I,rfl,q⟩
def tyV (K:Frag)(T:String)(x:V)(H:Hp):Prop:=match x with
 | .str _=>T="str"
 | .int _=>T="int"
 | .ref p=>(T="list"/\∃xs,Gf K H p xs)\/(T="tuple"/\∃o,K.lookup p='g'/\o.cls=.type "tuple"/\o.dict=none)\/
   (T="dict"/\((∃Gg,H p=some (.dK Gg))\/∃Gg,H p=some (.dT Gg)))\/(T="set"/\∃S n,H p=some (.set S n))
 |_=>False
def xO {F6:List (FR×F1)}{σ:St}{H:Hp}(I:'b' s)(r:RelV x v)(ty:tyV X.K T x H):
  s.TypeIs v T/\∀a,v=.ref a->∃ob,s.heap.get? a=some ob/\ob.dict=none:=by
 cases x with
 |str z=>
  obtain⟨t,rfl⟩:=r;cases(show T="str" from ty);exact⟨typeIs_str s z t,λ _ e=>nomatch e⟩
 |int i=>
  obtain⟨t,rfl⟩:=r;cases(show T="int" from ty);exact⟨typeIs_int s i t,λ _ e=>nomatch e⟩
 |ref p=>
  cases r;rcases ty with⟨rfl,xs,hq⟩|⟨rfl,o,hk,hc,hd⟩|⟨rfl,hk⟩|⟨rfl,S,n,hk⟩
  ·obtain⟨Gd,_,pl,_⟩:=I.list hq;refine⟨pl.isList.typeIs,λ a e=>?_⟩;cases e;obtain⟨o,n,e,c,hd,_⟩:=pl;exact⟨o,e,hd⟩
  ·refine⟨⟨o,I.kIn p o hk,hc⟩,λ a e=>?_⟩;cases e;exact⟨o,I.kIn _ o hk,hd⟩
  ·have z:∃o,s.heap.get? p='g'/\o.ExactDict:=by
    rcases hk with⟨Gg,hk⟩|⟨Gg,hk⟩
    ·obtain⟨_,_,_,_,o,_,_,e,ex,_⟩:=I.hok p _ hk;exact⟨o,e,ex⟩
    ·obtain⟨_,_,_,_,o,_,_,e,ex,_⟩:=I.hok p _ hk;exact⟨o,e,ex⟩
   obtain⟨o,e,ex⟩:=z;refine⟨⟨o,e,ex.1⟩,λ a e2=>?_⟩;cases e2;exact⟨o,e,ex.2.1⟩
  ·obtain⟨o,_,_,_,e,ex,_⟩:=I.hok p _ hk;refine⟨⟨o,e,ex.1⟩,λ a e2=>?_⟩;cases e2;exact⟨o,e,ex.2.1⟩
 |_=>exact False.elim ty
inductive P6 (K:Frag) (T:String) (r:V->List V->Hp->VK->Prop) (t:TA) (σ:St) (Q:VK) (x:V) (H1:Hp):Prop
 |mk (h0:tyV K T x H1) (h1:t σ H1 λ xs H2=>r x xs H2 Q):P6 K T r t σ Q x H1
def Wm (K:Frag)(T:String)(r:V->List V->Hp->VK->Prop)(to:TE)(t:TA):TE:=λ σ H Q=>to σ H λ x H1=>P6 K T r t σ Q x H1
variable {o e:FZ}{es:List FZ}{to:TE}{t:TA}{name:Str}{apos Hj:Pos}{T id:String}{r:V -> List V -> Hp -> VK -> Prop}
def d8 (pa:PlainAttrs T)(slot:Slot T name id)(hty:typeOf (.builtin id)=pure (.type "method_descriptor"))(hm:MtR X id r)(ho:PE X o to)(ha:PA X (e::es) t)
  (Ho:autoParam (attributeBase o name X.env (eval o X.env)=eval o X.env) Z0)
  (QS:autoParam (((backTo Hj (starEach (e::es) X.env)).all (λ x=> !x.1)&&(backToKw Hj (keywordEach [] X.env)).all (λ x=>x.1.isSome)
   &&decide ((e::es).length+([]:List Keyword).length+(if([]:List Keyword).isEmpty then 0 else 1)<30))=true) Z0)
  (N1:autoParam ((apos.endLine==Hj.line)=true) Z0) (hs:'k') (Ik:autoParam ((backTo Hj (starEach es X.env)).any (·.1)=false) Z0):
  PE X (.Call (.Attribute o name apos) (e::es) [] Hj) (Wm X.K T r to t):=by
 intro F6 s σ H Q I h;refine wpAny_Call_method_late Ho QS N1 rfl (thn (ho F6 s σ H _ I h) λ v s1 z9=>?_);obtain⟨x,H1,I1,r1,ty,q1⟩:=z9;obtain⟨h1,h2⟩:=xO I1 r1 ty;refine⟨T,id,pa,slot,hty,h1,h2,?_⟩;have hA:=ha Hj F6 s1 σ H1 _ I1 q1;rw [hs] at hA ⊢;refine Calls.callWith_builtin (by show(false||(backTo Hj (starEach es X.env)).any (·.1))=false;rw [Ik]<;>rfl) (EY ?_);exact thn hA λ us s2 z9=>by obtain⟨vs,H2,I2,r2,q2⟩:=z9;exact hm F6 s2 σ H2 x vs v us Q I2 r1 r2 q2
end
def MtM (X:Cx)(id:String)(r:V->List V->Hp->VK->Prop):Prop:=
 ∀(F6:List (FR×F1)) (s:FT) (σ:St) (H:Hp) x xs v us Q,'b' s->RelV x v->Vals xs us->r x xs H Q->
  wpAny 'd' X.A (call (.builtin id) (v::us)) (EP X F6 σ Q) X.xe s
theorem Vals.one:∀{x} {us},Vals [x] us->∃u,us=[u]/\RelV x u
 |_,_,.cons r .nil=>⟨_,rfl,r⟩
theorem Vals.rep (h:Vals xs us):∀k,Vals (List.replicate k xs).flatten (List.replicate k us).flatten
 |0=>.nil
 |k+1=>by
  rw [Bh,Bh,CQ,CQ];exact Vals.append h (Vals.rep h k)
theorem kh (Gd:List FS):∀k acc,
  List.foldl (λ x1 x2=>x1++x2) acc.toArray (List.replicate k Gd.toArray)=(acc++(List.replicate k Gd).flatten).toArray
 |0,acc=>by simp
 |k+1,acc=>by
  have e:acc.toArray++Gd.toArray=(acc++Gd).toArray:=Z6;have e2:(acc++Gd)++(List.replicate k Gd).flatten=acc++(List.replicate (k+1) Gd).flatten:=by
   rw [Bh,CQ,An]
  rw [<-e2,<-kh Gd k (acc++Gd),<-e,Bh,List.foldl_cons]
section
variable {X:Cx}{F6:List (FR × F1)}{σ:St}{H:Hp}{s:FT}{l b:FR}{xs ys zs:List V}
def Inv.lset {Gd its':List FS}{n:Nat}{f:Array FS->Array FS}(I:'b' s)(hH:H l=↥xs)
  (e:s.heap.get? l=some {cls:=.type "list",data:=.seq Gd.toArray n}) (hf:f Gd.toArray=its'.toArray) (hv:Vals ys its') (hz:ys.length≤sizeLine):
  Inv X F6 σ (upd H l (.lst ys)) {s with heap:=s.heap.update l (Obj.mapSeq f),toks:=t'}:=by
 have q:=PySem.IsL.update e f;rw [hf] at q;refine I.write (by rw [hH];exact trivial) (.inl rfl) (λ b' u hb hu=>(AI s.heap (Obj.mapSeq f) (B7 hb)).trans hu) ⟨_,q⟩ ?_;exact⟨hz,its',_,hv,q⟩
def Inv.lnew {Gd:List FS}{t':Nat}(I:'b' s)(hv:Vals ys Gd)(hz:ys.length≤sizeLine):
  Inv X F6 σ (upd H s.heap.objs.size (.lst ys)) {s with heap:=s.heap.push {cls:=.type "list",data:=.seq Gd.toArray},toks:=t'}:=
 I.laid (λ _ _ q=>Aj _ q) (Ak _) ⟨hz,Gd,0,hv,AN _ rfl⟩
theorem Inv.fresh (I:'b' s):H s.heap.objs.size=none:=I.hok.fresh (Ak _)
def Inv.lstM (I:'b' s)(hH:H l=↥xs):xs.length≤sizeLine/\∃(Gd:List FS) (n:Nat),Vals xs Gd/\xs.length=Gd.length/\s.heap.get? l=some {cls:=.type "list",data:=.seq Gd.toArray n}:=by
 obtain⟨z,Gd,n,r,e⟩:=I.hok l _ hH;exact⟨z,Gd,n,r,r.length,e⟩
def m5 (h:n≤sizeLine):Builtin.List.listTooLong n=false:=by
 unfold Builtin.List.listTooLong;exact Bt (FN.mpr h)
end
section
variable {X:Cx}
inductive MA (x:V) (vs:List V) (H:Hp) (Q:VK):Prop
 |mk (l:_) (xs:_) (y:_) (h0:x=.ref l) (h1:vs=[y]) (h2:H l=↥xs) (h3:xs.length<sizeLine) (h4:Q .non (upd H l (.lst (xs++[y])))):MA x vs H Q
def bO:MtM X "list.append" MA:=by
 intro F6 s σ H x vs v us Q I rx rv h;obtain⟨l,xs,y,rfl,rfl,hH,hz,q⟩:=h;cases rx;obtain⟨u,rfl,ru⟩:=rv.one;obtain⟨z,Gd,n,r,hl,e⟩:=I.lstM hH;refine call_meets Bp ⟨_,e,rfl⟩ F.entry_list_append (F.args_list_append_2 _ _) (PySem.list_append l Gd.toArray n u (by rw [AC];exact Ai (A5 hl.symm) (B9 hz))) ⟨e,?_⟩;refine⟨.non,_,I.lset (its':=Gd++[u]) hH e Z6 (r.append (.cons ru .nil)) ?_,rfl,q⟩;rw [Ac,List.length_singleton]
 assumption
inductive Mz (x:V) (vs:List V) (H:Hp) (Q:VK):Prop
 |mk (l:_) (b:_) (xs:_) (zs:_) (h0:x=.ref l) (h1:vs=[.ref b]) (h2:H l=↥xs) (h3:H b=↥zs) (h4:xs.length+zs.length≤sizeLine) (h5:Q .non (upd H l (.lst (xs++zs)))):Mz x vs H Q
def jW:MtM X "list.extend" Mz:=by
 intro F6 s σ H x vs v us Q I rx rv h;obtain⟨l,b,xs,zs,rfl,rfl,hH,hB,hz,q⟩:=h;cases rx;obtain⟨u,rfl,ru⟩:=rv.one;cases ru;obtain⟨z,Gd,n,r,hl,e⟩:=I.lstM hH;obtain⟨z2,II,n2,r2,G5,e2⟩:=I.lstM hB;have hsz:Gd.toArray.size+II.toArray.size≤sizeLine:=by rw [AC,AC];lia
 have NZ:¬(!Gd.toArray.isEmpty&&Builtin.List.listTooLong (Gd.toArray.size+II.toArray.size))=true:=by
  rw [m5 hsz,Bool.and_false];exact Ax
 refine call_meets Ey ⟨_,e,rfl⟩ F.entry_list_extend (F.args_list_extend_2 _ _)
  (AutoSeq1.list_extend_list_list_0 l Gd.toArray n b II.toArray n2 NZ (by rw [AC];exact Cq hl.symm z) (BD hsz)) ⟨e,e2,?_⟩
 refine⟨.non,_,I.lset (its':=Gd++II) hH e Z6 (r.append r2) ?_,rfl,q⟩;rw [Ac]
 assumption
inductive MX (x:V) (y:V) (H:Hp) (Q:VK):Prop
 |mk (l:_) (b:_) (xs:_) (zs:_) (h0:x=.ref l) (h1:y=.ref b) (h2:H l=↥xs) (h3:H b=↥zs) (h4:xs.length+zs.length≤sizeLine) (h5:∀p,H p=none->Q (.ref p) (upd H p (.lst (xs++zs)))):MX x y H Q
def bz:Ig X (binaryOp .Add) MX:=by
 intro F6 s σ H x y v u Q I rx ry h;obtain⟨l,b,xs,zs,rfl,rfl,hH,hB,hz,q⟩:=h;cases rx;cases ry;obtain⟨z,Gd,n,r,hl,e⟩:=I.lstM hH;obtain⟨z2,II,n2,r2,G5,e2⟩:=I.lstM hB;refine PySem.P.add_list e e2 ?_ (by rw [AC,AC];omega);have ea:Gd.toArray++II.toArray=(Gd++II).toArray:=Z6;rw [ea];exact⟨.ref _,_,I.lnew (r.append r2) (by rw [Ac];assumption),rfl,q _ I.fresh⟩
inductive O8 (x:V) (y:V) (H:Hp) (Q:VK):Prop
 |mk (l:_) (k:_) (xs:_) (h0:x=.ref l) (h1:y=.int k) (h2:H l=↥xs) (h3:-(2^63)≤k) (h4:k<2^63) (h5:xs.length*k.toNat≤sizeLine) (h6:∀p,H p=none->Q (.ref p) (upd H p (.lst (List.replicate k.toNat xs).flatten))):O8 x y H Q
def vY {α:Type}(xs:List α)(k):(List.replicate k xs).flatten.length=k*xs.length:=by
 induction k with
 |zero=>simp
 |succ k ih=>rw [Bh,CQ,Ac,ih,Nat.succ_mul,EL]
def cU:Ig X (binaryOp .Mult) O8:=by
 intro F6 s σ H x y v u Q I rx ry h;obtain⟨l,k,xs,rfl,rfl,hH,h1,h2,hz,q⟩:=h;cases rx;obtain⟨t,rfl⟩:=ry;obtain⟨z,Gd,n,r,hl,e⟩:=I.lstM hH;have hlen:Gd.toArray.size*k.toNat≤sizeLine:=by rw [AC,<-hl];exact hz
 have Y1:¬Gd.toArray.size*k.toNat>(2^63-1)/8:=by
  have:(sizeLine:Nat)≤(2^63-1)/8:=Z9;lia
 have Pk:¬(!Builtin.List.listFitsIndex k)=true:=by
  rw [fitsIndex_both h1 h2];exact Ax
 have NZ:¬Builtin.List.listTooLong (Gd.toArray.size*k.toNat)=true:=by
  rw [m5 hlen];exact Ax
 have YN:List.foldl (λ x1 x2=>x1++x2) #[] (List.replicate (if Gd.toArray.isEmpty=true then 0 else k.toNat) Gd.toArray)=(List.replicate k.toNat Gd).flatten.toArray:=by
  have f0:∀m,List.foldl (λ x1 x2=>x1++x2) #[] (List.replicate m Gd.toArray)=(List.replicate m Gd).flatten.toArray:=λ m=>by
   have:=kh Gd m [];rw [Bj] at this;exact this
  rw [f0];cases Gd with
  |nil=>simp
  |cons a r'=>rw [AH Z6]
 refine wpAny_binaryOp_repeat_ref Z9 ⟨_,e,rfl⟩ (λ s'=>typeIs_int s' k t) noFill_list_mul F.fills_int_mul F.slot_int_rmul repeat_list F.slot_int_index.lookup
  (call_meets F.slot_int_rmul (typeIs_int s k t) F.entry_int_rmul (F.args_int_rmul_2 _ _) (int___rmul___int_list k t l Gd.toArray n)
   ⟨e,rfl,⟨_,e,rfl⟩,call_meets F.slot_list_mul ⟨_,e,rfl⟩ F.entry_list_mul (F.args_list_mul_2 _ _) (AutoListH.list___mul___list_int_3 l Gd.toArray n k t Pk Y1 NZ) ⟨e,?_⟩⟩)
 rw [YN];exact⟨.ref _,_,I.lnew (r.rep k.toNat) (by rw [vY,BE];exact hz),rfl,q _ I.fresh⟩
end
section
variable {prog:FU}{w:FV}{A:FX}{E:FS -> FT -> Prop}{s:FT}
set_option maxRecDepth 100000 in
end
section
variable {X:Cx}
end
end L2
namespace Att
open PySem PySem.W PySem.Calls PyProof.Rows
def ir:∀ns vs,WellAll P h vs (ns.map WData.int)->IntsAre vs ns:=by
 intro ns
 induction ns with
 |nil=>
  intro vs w;rw [Fk] at w;cases w;exact .nil
 |cons n ns ih=>
  intro vs w;rw [Bz] at w;cases w with
  |cons a b=>
   cases a;exact .cons _ _ (ih _ b)
def sh {l:OpenLaw}(hn:l.most=some n)
  (Pf:l.row.toRowW.claim.pre args=true) (VD:WellAll P h vals args):
  ∃a vs ns,vals=[Value.ref a]/\args=[WData.list (ns.map WData.int)]/\h.get? a=some {cls:=.type "list",data:=.seq vs.toArray}/\IntsAre vs ns/\ns.length≤n:=by
 have VF:WShape.hasAll [] args [.list .int]=true:=(pre_splitW Pf).1;have hc:l.pre.holds [] {args:=args}=true:=(pre_splitW Pf).2;obtain⟨d,r,rfl,h1,h2⟩:=hasAllW_cons VF;obtain rfl:=hasAllW_nil h2;obtain⟨xs,rfl,h3⟩:=hasW_list h1;obtain⟨ns,rfl⟩:=items_int h3;have hlen:ns.length≤n:=by
  unfold OpenLaw.pre at hc;have h4:(WTm.not (.lt (.lit (.int (n:Int))) (.len (.arg 0)))).holds [] {args:=[.list (ns.map .int)]}=true:=by
   have h4:=(holds_andW hc).1;rw [hn] at h4;exact h4
  have h5:=condW_of h4 (w_not (w_lt w_lit (w_len_list (w_arg rfl))));rw [Aa] at h5;refine BF λ q=>?_
  have q':(n:Int)<(ns.length:Int):=Z4
  first
   |(rw [Ae q'] at h5;exact absurd h5 Z9)
   |(simp at h5;omega)
 cases VD with
 |cons w1 w2=>
  cases w2;cases w1 with
  |list ho Hc=>exact⟨_,_,ns,rfl,rfl,ho,ir ns _ Hc,hlen⟩
def rE (l:OpenLaw)(args:List WData):l.row.toRowW.claim.post args (.bool true) args=true:=
 postW_of
  (show WShape.has [] (.bool true) .bool=true by first|rfl|decide|simp [WShape.has,WShape.arms,WShape.armsAll])
  (show(WTm.eq .res (.lit (.bool true))).value [] {args:=args,res:=some (.bool true),after:=args}=some (.bool (true==true)) from w_eq_bool (w_res rfl) w_lit) rfl
def Ld {l:OpenLaw}
  (hn:l.most=some n) (Tu:d.params.defaults=[])
  (call:∀(w:FV) (s₀ s₁:FT) (mg mb:Str->Option FS) (fa:FR) (o:F1) (pm cd doc:FS) (a:FR) (vs:List FS) (ns:List Int),
   Ground q loose [] XP w s₀ mg mb s₁.heap->YP w s₁.heap->
   s₁.heap.get? fa='g'->o.data=.func (docDef d.name d.params d.body d.scope pm cd doc)->s₁.heap.CodeRec cd d.name->mg d.name=↑fa->
   s₁.heap.get? a=some {cls:=.type "list",data:=.seq vs.toArray}->IntsAre vs ns->ns.length≤n->s₁.gens=#[]->
   codeAny (model l.prog w) callerA (.call (.ref fa) ⟨[.ref a],[]⟩) (λ r s'=>r=.ok (.ret (.bool true))/\OldK s₁.heap s'.heap/\s'.os=s₁.os/\AllBare s'.gens) s₁):
  WalkO q loose XP YP l.row.toRowW d [] (λ f vs=>PySem.call f vs):=by
 intro w s₀ s₁ mg mb G Y fa o pm cd doc dV kV ho hd Jm hD hmg hg args vals as Pf hlay hrd VD LY;obtain rfl:dV=.none:=Dflts.none hD Tu;obtain rfl:kV=.none:=Dflts.noKw hD;obtain⟨a,vs,ns,rfl,rfl,QN,hints,hlen⟩:=sh hn Pf VD;refine enter_call (Dj (call w s₀ s₁ mg mb fa o pm cd doc a vs ns G Y ho (fd_plain hd) Jm hmg QN hints hlen hg) λ r s' hq=>?_);obtain⟨rfl,h2,h3,h4⟩:=hq;exact⟨.inl ⟨.bool true,.bool true,[],rfl,λ _=>rfl,.bool true,rE l _,λ _=>⟨List.Pairwise.nil,λ _ hm=>(nomatch hm)⟩⟩,h2,h3,h4⟩
section
variable {prog:FU}{w:FV}{A:FX}{E:FS -> FT -> Prop}{s:FT}{K:Frag}
end
end Att
namespace L2
open PySem PySem.Spec PyProof.Rows
def qG (h:IntsAre vs ns):Vals (ns.map V.int) vs:=by
 induction h with
 |nil=>exact .nil
 |cons n t _ ih=>exact .cons ⟨t,rfl⟩ ih
noncomputable def bq (s:F5) (j:Nat):F5:=match s with
 | .ClassDef _ _ _ body _ _ _ _ _ _ _=>body.getD j (.Pass ⟨0,0,0,0⟩)
 |_=>.Pass ⟨0,0,0,0⟩
noncomputable def bx (s:F5):Arguments:=match s with
 | .FunctionDef _ a _ _ _ _ _ _ _ _=>a
 |_=>{posonlyargs:=[],args:=[],vararg:=none,kwonlyargs:=[],kw_defaults:=[],kwarg:=none,defaults:=[]}
noncomputable def bj (s:F5):List F5:=match s with
 | .FunctionDef _ _ b _ _ _ _ _ _ _=>b
 |_=>[]
noncomputable def am (s:F5):Scope:=match s with
 | .FunctionDef _ _ _ _ _ _ sc _ _ _=>sc
 |_=>{kind:=.function,names:=[],isGenerator:=false,isCoroutine:=false}
abbrev Gn:Nj:=λ _ _ _ _ _ _=>False
abbrev E0:XK:=λ _ _ _=>False
def az {X:Cx}:cI Gn X E0:=λ _ _ _ _ _ _ _ h=>h.elim
structure Hb (K:Frag)(x qual:Str)(st:F5)(f:FR)(fd:FW):Prop where
 ex:∃(oc:FS) (od:Option FR) (kV doc pm:FS) (an:Option FR) (F8 ct:FS) (osl:Array (Option FS)),
  fd=fnOf x qual (bx st) (bj st) (am st) .none kV doc pm an F8 ct/\K.lookup f=some ⟨oc,od,.func fd,osl⟩/\codeIn K F8 qual=true
 kp:keepIn K (.ref f)=true
section
variable {P:FU}{w:FV}{K:Frag}{mg:Str -> Option FS}{base:FY}
def Hb.ok {x qual:Str}{st:F5}(F:Hb K x qual st f fd)(S:y' N ps (am st))
  (Jt:∀(F8:FS) (A:FX) (outer:List Env) (s:FT) (H:Hp) (vs:List V) (Q:VK) (E:XK),Ge k (A.deeper (envOfC qual (am st) s.heap.objs.size f F8))->sp vs H Q E->
   let X:=(cxOf Gn P w K mg base N qual (am st) f F8 A outer s H E).nox;∃t,PSs X (bj st) t/\t {nx:=λ _ H'=>Q .non H',rt:=Q} (start N vs) H) (len:autoParam (∀vs H Q E,sp vs H Q E->vs.length=ps.length) ZV):'a' Gn (k+1) f fd ps sp:=by
 obtain⟨oc,od,kV,doc,pm,an,F8,ct,osl,rfl,lk,Jm⟩:=F.ex;refine o0 lk Jm S len λ A outer s H vs Q E hr JN=>?_
 obtain⟨t,h,q⟩:=Jt F8 A outer s H vs Q E hr JN;exact⟨t,h.nox,q⟩
def fun_mk {st:F5}{kV doc pm F8 ct:FS}(l:K.lookup f=some ⟨oc,od,.func (fnOf x qual (bx st) (bj st) (am st) .none kV doc pm an F8 ct),osl⟩)
  (c:codeIn K F8 qual=true) (k:keepIn K (.ref f)=true):Hb K x qual st f (fnOf x qual (bx st) (bj st) (am st) .none kV doc pm an F8 ct):=⟨⟨oc,od,kV,doc,pm,an,F8,ct,osl,rfl,l,c⟩,k⟩
end
def rO (h:n≤1000):n<sizeLine:=Be h Z9
section
variable {X:Cx}
def pv (i){x:Str}{pos:Pos}(hN:autoParam (X.N[i]?=some x) Z0)(hv:autoParam (V5 X.env.scope x) ZT)(hd:'e')
  (Jm:autoParam ((x==("__classdict__":Str))=false) ZZ):PE X (.Name x pos) (Gs i):=tW hN hv hd Jm
end
def cV {A B:Prop}(h:B):if false=true then A else B:=by
 rw [AH Ax];exact h
def eQ {A B:Prop}(h:A):if true=true then A else B:=by
 rw [AK rfl];exact h
def bc {c A B:Prop} [Decidable c] (h1:c->A)(h2:¬c->B):if c then A else B:=by
 by_cases h:c
 ·rw [AK h];exact h1 h
 ·rw [AH h];exact h2 h
def yL {c A B:Prop} [Decidable c] (hc:c)(h:B):if(!decide c)=true then A else B:=by
 rw [Ae hc];exact cV h
def C' (H H':Hp):Prop:=∀b o,H b='g'->H' b='g'
def C'.refl (H:Hp):C' H H:=λ _ _ h=>h
def C'.trans {H H1 H2:Hp}(a:C' H H1)(b:C' H1 H2):C' H H2:=λ c o h=>b c o (a c o h)
def nD (n:Nat)(wi:TI)(g:TG)(te:TE):TE:=λ σ H Q=>wi σ H λ J H1=>∀l,H1 l=none->∃W:Nat->Nat->List V->St->Hp->Prop,
 (∃m,W 0 m [] (List.replicate n none) (upd H1 l (.lst [])))/\∀i m ys σ' H',W i m ys σ' H'->
  (J.stop i H'/\Q (.ref l) H')\/(J.go i H'/\∀x H2,J.yld i H' x H2->g x σ' H2 λ σ3 H3=>te σ3 H3 λ y H4=>
   H4 l=↥ys/\ys.length<sizeLine/\∃m',m'<m/\W (i+1) m' (ys++[y]) σ3 (upd H4 l (.lst (ys++[y]))))
def qc (i:Nat)(t:TE):TS:=λ D σ H=>t σ H λ v H1=>D.nx (σ.set i (some v)) H1
def iK {K:Frag}{g:TG}{te:TE}{R:Hp->Prop}(Pv:Nat->List V->Hp->Prop)(h0:Pv 0 [] (upd H1 l (.lst [])))(hl:∀i ys H,i≤xs.length->Pv i ys H->Gf K H a xs)
  (hs:∀i x ys σ H,xs[i]?=some x->Pv i ys H->σ.length=n->g x σ H λ σ3 H3=>te σ3 H3 λ y H4=>H4 l=↥ys/\ys.length<sizeLine/\σ3.length=n/\Pv (i+1) (ys++[y]) (upd H4 l (.lst (ys++[y]))))
  (hd:∀ys H,Pv xs.length ys H->R H) (mg:∀x σ H (A B:St->Hp->Prop),(∀σ' H',A σ' H'->B σ' H')->g x σ H A->g x σ H B) (mt:∀σ H (A B:VK),(∀v H',A v H'->B v H')->te σ H A->te σ H B):
  ∃W:Nat->Nat->List V->St->Hp->Prop,(∃m,W 0 m [] (List.replicate n none) (upd H1 l (.lst [])))/\∀i m ys σ' H',W i m ys σ' H'->
   ((L7 K a).stop i H'/\R H')\/((L7 K a).go i H'/\∀x H2,(L7 K a).yld i H' x H2->g x σ' H2 λ σ3 H3=>te σ3 H3 λ y H4=>
    H4 l=↥ys/\ys.length<sizeLine/\∃m',m'<m/\W (i+1) m' (ys++[y]) σ3 (upd H4 l (.lst (ys++[y])))):=by
 refine⟨λ i m ys σ H=>m=xs.length-i/\i≤xs.length/\σ.length=n/\Pv i ys H,⟨xs.length,Z6,A1 _,Al,h0⟩,?_⟩;rintro i m ys σ H ⟨rfl,hi,hn,p⟩;have q:=hl i ys H hi p;by_cases F9:i<xs.length
 ·refine .inr ⟨⟨xs,xs[i],q,by simp [F9]⟩,λ x H' y=>?_⟩;obtain⟨e,y⟩:=y;subst e;exact mg _ _ _ _ _ (λ σ3 H3 z=>mt _ _ _ _ (λ y H4 z9=>by obtain⟨z1,z2,z3,z4⟩:=z9;exact⟨z1,z2,xs.length-(i+1),Bs _ _ F9,rfl,F9,z3,z4⟩) z) (hs i x ys σ _ (y xs q) p hn)
 ·have e:i=xs.length:=A8 hi (Nat.not_lt.1 F9);subst e;exact .inl ⟨⟨xs,q,Ak _⟩,hd ys H p⟩
def uI (hc:X.A.handled=none):dU X (.builtin "sum") (λ xs H Q=>∃(p:FR) (ns:List Int),xs=[.ref p]/\Gf X.K H p (ns.map V.int)/\Q (.int ns.sum) H):=by
 intro F6 s σ H xs us Q I r h;obtain⟨p,ns,rfl,hq,q⟩:=h;obtain⟨u,rfl,rx⟩:=fg r;cases rx;obtain⟨Gd,rv,pl,hz⟩:=I.list hq;have hi:=jz rv;obtain⟨ys,hx⟩:=hi.allInts.items;have hl:s.heap.IsList p (intItems ys):=hx▸pl.isList;refine sum_intListG hc hl λ h' tk t' hk=>?_
 have e1:ns=ys.toList.map (·.1):=by
  rw [<-nums_intItems,<-hx];exact(show numsOf Gd.toArray.toList=ns from hi.numsOf).symm
 have e2:preSum (numAt ys) ys.size=ns.sum:=by
  rw [preSum_eq,A3 Z6,e1]
 rw [e2];exact⟨.int ns.sum,H,I.kept hk,⟨_,rfl⟩,q⟩
def dX:dU X (.builtin "isinstance") (λ xs H Q=>∃x c t b,xs=[x,.ty c]/\GU X.K H x t/\kitOne X.K t (.type c)=some b/\Q (.bl b) H):=by
 intro F6 s σ H xs us Q I r h;obtain⟨x,c,t,b,rfl,ty,e,q⟩:=h;obtain⟨u,v,rfl,ru,rv⟩:=pp r;cases rv;exact qX I ru ty e λ tk=>⟨.bl b,H,I.tok tk,rfl,q⟩
noncomputable def aL (X:Cx) (N:List Str) (scope:Scope) (cl:List (Str×FR)) (fp:List FR) (s:FT) (H:Hp):Cx where
 prog:=X.prog
 w:=X.w
 K:=X.K
 mg:=X.mg
 base:=X.base
 A:=X.A
 N:=N
 s₀:=s
 H₀:=H
 env:=compEnvC scope cl s.heap.objs.size X.env
 outer:=X.stack
 stack:=X.stack
 ex:=fp
 fn:=λ _=>false
 calm:=X.calm
 pn:=[]
 xe:=λ _ _=>False
def cap (js:List (Option Nat))(σ:St):St:=js.map λ o=>match o with
 |none=>none
 |some j=>(σ[j]?).getD none
structure Kh (X:Cx)(N:List Str)(scope:Scope)(cl:List (Str×FR))(js:List (Option Nat)):Prop where
 kind:scope.kind=.function
 nocell:∀x∈scope.names,x.2≠ .cell
 names:∀x∈scope.names,x.2=.local->scope.names.lookup x.1=some .local
 clos:closureFor scope X.env=pure cl
 sub:∀x c,cl.lookup x=some c->X.env.cells.lookup x=some c
 has:∀x,((relabel scope X.env).names.lookup x=some .cell\/(relabel scope X.env).names.lookup x=some .free)->∃c,cl.lookup x=some c
 len:js.length=N.length
 slot:∀(i:Nat) (x:Str) (j:Nat),N[i]?=some x->js[i]?=some (some j)->X.N[j]?=some x/\X.env.scope.names.lookup x=some .cell/\(relabel scope X.env).names.lookup x=some .cell/\∀c,X.env.cells.lookup x=some c->cl.lookup x=some c
def qK {σ:St}{fp:List FR}(I:'b' s)(C:Kh X N scope cl js)
  (hf:∀b∈fp,G0 X F6 H b) (F9:∀b∈fp,b<s.heap.objs.size) (hn:h'.Ns s.heap.objs.size m) (hk:∀b o,s.heap.get? b='g'->h'.get? b='g'):
  Inv (aL X N scope cl fp s H) [] (cap js σ) H {s with heap:=h',toks:=t'}:=by
 have sub:∀{x} {c},(aL X N scope cl fp s H).env.cells.lookup x=some c->X.env.cells.lookup x=some c:=λ {x c} e=>C.sub x c e
 refine⟨⟨I.ok.mod,C.kind,I.ok.glob,I.ok.blt,Ak _,λ x y c e1 e2=>I.ok.inj x y c (sub e1) (sub e2),λ x hx=>C.has x hx,λ x c e _=>(by cases e),I.qt,I.ok.frames,.inl rfl,
  λ b hb=>⟨A7 (F9 b hb),λ x c e=>(hf b hb).2.2.2.2.1 x c (sub e)⟩,I.bs,Ai I.ok.bsz I.sz,λ b o e hb=>?_,λ b hb hs=>?_,I.stack,I.stkFree⟩,
  rfl,I.bare,Un.kept hk,⟨m,hn,λ i x v h1 h2 h3=>?_⟩,λ x c e=>?_,I.hok.fresh (Ak _),λ x c e=>I.freeC x c (sub e),λ p hp=>?_,I.hok.kept hk,by unfold cap;rw [Aa];exact C.len⟩
 ·rcases(hf b hb).2.2.2.1 with z|z
  ·exact I.ok.noex b o e z
  ·exact absurd (Ap (AA e) (Ai I.ok.bsz z)) (BK _)
 ·rcases AB.mp (I.stkSub b hs) with z|z
  ·exact(hf b hb).2.1 z
  ·exact(hf b hb).2.2.1 z
 ·unfold cap at h2;rw [AU] at h2;cases ej:js[i]? with
  |none=>rw [ej] at h2;cases h2
  |some o=>
   rw [ej] at h2;cases o with
   |none=>cases h2
   |some j=>
    have JU:(σ[j]?).getD none=some v:=AJ h2;obtain⟨Xj,Qm,ND,hc⟩:=C.slot i x j h1 ej;have Xi:σ[j]?=some (some v):=by
     cases e:σ[j]? with
     |none=>rw [e] at JU;cases JU
     |some w'=>rw [e] at JU;exact Bx some JU
    obtain⟨mo,W8,hl⟩:=I.loc;obtain⟨u,r,l⟩:=hl j x v Xj Xi (.inr (.inl Qm));refine⟨u,r,?_⟩;rcases l with⟨q,_⟩|⟨_,c,ec,o,ho,hd⟩
    ·have q':X.env.scope.names.lookup x=some .local:=q;rw [Qm] at q';cases q'
    ·exact .inr ⟨.inl ND,c,hc c ec,o,hk c o ho,hd⟩
 ·obtain⟨v,o,ho,hd⟩:=I.cell x c (sub e);exact⟨v,o,hk c o ho,hd⟩
 ·exact absurd (show p∈([]:List (FR×F1)) from hp) Z6
def i7 {σ:St}{σ':St}(I:'b' s)(hf:∀b∈fp,G0 X F6 H b)(I':Inv (aL X N scope cl fp s H) G2 σ' H' s'):Inv X F6 σ H' s':=
 I.call' I'.os I'.base I'.hok I'.bare λ b hb=>⟨(hf b hb).2.2.2.1,(hf b hb).2.1,(hf b hb).2.2.2.2.1,(hf b hb).2.2.2.2.2⟩
def jF (js:List (Option Nat))(wi:TI)(g:TG)(te:TE):TE:=λ σ H Q=>wi σ H λ J H1=>∀l,H1 l=none->∃W:Nat->Nat->List V->St->Hp->Prop,
 (∃m,W 0 m [] (cap js σ) (upd H1 l (.lst [])))/\∀i m ys σ' H',W i m ys σ' H'->
  (J.stop i H'/\Q (.ref l) H')\/(J.go i H'/\∀x H2,J.yld i H' x H2->g x σ' H2 λ σ3 H3=>te σ3 H3 λ y H4=>
   H4 l=↥ys/\ys.length<sizeLine/\∃m',m'<m/\W (i+1) m' (ys++[y]) σ3 (upd H4 l (.lst (ys++[y]))))
def dH (js:List (Option Nat))(wi:TI)(g:TG)(tt:TT)(te:TE):TE:=λ σ H Q=>wi σ H λ J H1=>∀l,H1 l=none->∃W:Nat->Nat->List V->St->Hp->Prop,
 (∃m,W 0 m [] (cap js σ) (upd H1 l (.lst [])))/\∀i m ys σ' H',W i m ys σ' H'->
  (J.stop i H'/\Q (.ref l) H')\/(J.go i H'/\∀x H2,J.yld i H' x H2->g x σ' H2 λ σ3 H3=>tt σ3 H3 λ c H5=>if c=true then te σ3 H5 λ y H4=>
   H4 l=↥ys/\ys.length<sizeLine/\∃m',m'<m/\W (i+1) m' (ys++[y]) σ3 (upd H4 l (.lst (ys++[y]))) else∃m',m'<m/\W (i+1) m' ys σ3 H5)
def oN (n:Nat)(wi:TI)(g:TG)(tt:TT)(te:TE):TE:=λ σ H Q=>wi σ H λ J H1=>∀l,H1 l=none->∃W:Nat->Nat->List V->St->Hp->Prop,
 (∃m,W 0 m [] (List.replicate n none) (upd H1 l (.lst [])))/\∀i m ys σ' H',W i m ys σ' H'->
  (J.stop i H'/\Q (.ref l) H')\/(J.go i H'/\∀x H2,J.yld i H' x H2->g x σ' H2 λ σ3 H3=>tt σ3 H3 λ c H5=>if c=true then te σ3 H5 λ y H4=>
   H4 l=↥ys/\ys.length<sizeLine/\∃m',m'<m/\W (i+1) m' (ys++[y]) σ3 (upd H4 l (.lst (ys++[y]))) else∃m',m'<m/\W (i+1) m' ys σ3 H5)
def qo (prog:FU)(w:FV)(A:FX)(elt Ga iter:FZ)(cs:List FZ)(scope:Scope)(pos:Pos)(tw:Env->(Bool->FT->Prop)->(FS->FT->Prop)->FT->Prop):Prop:=
 ∀(R:Result->FT->Prop) (s:FT) (it acc:FS) (env:Env) (J:Nat->FT->Prop),(∀n z,J n z->wpAny 'l' A (pyNext it) (λ r z1=>match r with
   |none=>R (.ok .next) z1
   |some v=>wpAny 'l' A (letOwnedTupleGo Ga it v) (λ _ z2=>wpAny 'l' A (assign Ga env v) (λ _ z3=>tw env (λ b z6=>if b=true then wpAny 'l' A (eval elt env) (λ x z4=>
     wpAny 'l' A (call (.builtin "list.append") [acc,x]) (λ _ z5=>∃m,m<n/\J m z5)
      (notedBy 'l' A env λ e s'=>R (.error e) s') z4) (notedBy 'l' A env λ e s'=>R (.error e) s') z6 else∃m,m<n/\J m z6) (notedBy 'l' A env λ e s'=>R (.error e) s') z3)
      (notedBy 'l' A env λ e s'=>R (.error e) s') z2) (notedBy 'l' A env λ e s'=>R (.error e) s') z1) (notedBy 'l' A env λ e s'=>R (.error e) s') z)->
  ∀n,J n s->codeAny 'l' A (.compLoop (.ListComp elt [⟨Ga,iter,cs,0⟩] scope pos) 0 it acc env) R s
def twI (prog:FU)(w:FV)(A:FX)(Lo:FZ):Env->(Bool->FT->Prop)->(FS->FT->Prop)->FT->Prop:=λ env Q E z=>wpAny 'l' A (isTrue Lo env (eval Lo env)) Q E z
def tw0:Env->(Bool->FT->Prop)->(FS->FT->Prop)->FT->Prop:=λ _ Q _ z=>Q true z
def im
    (h:(∃Lo,cs=[Lo]/\tw=twI prog w A Lo)\/(cs=[]/\tw=tw0)):qo prog w A elt Ga iter cs scope pos tw:=by
  intro R s it acc env J turn n h0
  refine codeAny_loop rfl J (λ k z hz=>?_) n h0
  show wpAny _ _ ((compTurn (.ListComp elt [⟨Ga,iter,cs,0⟩] scope pos) 0 it acc env).onRaise (λ q=>do noteFrame q env;theTreesLotGoes q)) _ _ z
  refine wpAny_noted ?_
  rw [compTurn_list]
  refine Ab (Dp (Ab (Br (turn k z hz) (λ r z1 g1=>?_) λ _ _ q=>q)))
  cases r with
  |none=>exact AG g1
  |some v=>
    refine Ab (Br g1 (λ _ z2 g2=>Ab (Br g2 (λ _ z3 g3=>?_) λ _ _ q=>q)) λ _ _ q=>q)
    rcases h with⟨Lo,rfl,rfl⟩|⟨rfl,rfl⟩
    · refine Ab (wpAny_tests_one (Br g3 (λ b z6 g6=>?_) λ _ _ q=>q))
      cases b with
      |false=>exact AG ⟨rfl,g6⟩
      |true=>exact Ab (Ab (Br g6 (λ x z4 g4=>Ab (Br g4 (λ _ z5 g5=>AG (AG ⟨rfl,g5⟩)) λ _ _ q=>q)) λ _ _ q=>q))
    · exact Ab (AG (Ab (Ab (Br g3 (λ x z4 g4=>Ab (Br g4 (λ _ z5 g5=>AG (AG ⟨rfl,g5⟩)) λ _ _ q=>q)) λ _ _ q=>q))))
def T1 (X:Cx)(tw:Env->(Bool->FT->Prop)->(FS->FT->Prop)->FT->Prop)(tt:TT):Prop:=∀F6 s σ H Q Q' E,'b' s->tt σ H Q->(∀b s',(∃H',Inv X F6 σ H' s'/\Q b H')->Q' b s')->tw X.env Q' E s
def ttT:TT:=λ _ H Q=>Q true H
def lU:T1 X tw0 ttT:=λ _ _ _ H _ _ _ I h k=>k _ _ ⟨H,I,h⟩
def sy (ht:PT X Lo tt)(hx:∀e s,X.xe e s->False):T1 X (twI X.prog X.w X.A Lo) tt:=
 λ F6 s σ H Q Q' E I h k=>Br (ht F6 s σ H Q I h) (λ b s' z=>k b s' z) λ _ _ z=>(hx _ _ z).elim
def lQ {N:List Str}{σ:St}:cap (N.map λ _=>none) σ=List.replicate N.length none:=by
 unfold cap;rw [BO];exact FK
def pk (Hm:scope.kind=.function)(Hf:∀x∈scope.names,x.2≠ .free)(Hn:∀x∈scope.names,x.2≠ .cell)(HC:∀x∈scope.names,x.2=.local->scope.names.lookup x.1=some .local):Kh X N scope [] (N.map λ _=>none):=by
 have rl:∀x∈(relabel scope X.env).names,x∈scope.names:=by
  intro x hx;obtain⟨⟨n,k⟩,m,e⟩:=BH.mp hx;have hk:k≠ .free:=Hf _ m;have:(k==NameKind.free)=false:=by simpa using hk
  simp [this] at e;rw [<-e];exact m
 refine⟨Hm,Hn,HC,closureFor_none Hf,λ x c h=>(by cases h),λ x h=>?_,Aa ..,λ i x j h1 h2=>?_⟩
 ·rcases h with h|h
  ·exact absurd rfl (Hn _ (rl _ (Bb h)))
  ·exact absurd rfl (Hf _ (rl _ (Bb h)))
 ·rw [AU] at h2;cases e:N[i]? with
  |none=>rw [e] at h2;cases h2
  |some y=>rw [e] at h2;cases h2
def xa {N:List Str}{te:TE}{σ:St}{H:Hp}(h:nD N.length wi g te σ H Q):dH (N.map λ _=>none) wi g ttT te σ H Q:=by
 unfold dH;rw [lQ];exact h
def w8 {N:List Str}{wi:TI}{g:TG}{tt:TT}(h:oN N.length wi g tt te σ H Q):dH (N.map λ _=>none) wi g tt te σ H Q:=by
 unfold dH;rw [lQ];exact h
def fG {X:Cx}{N:List Str}{scope:Scope}{σ:St}{RR:FS->FR->Result->FT->Prop}{Wx:List FR->FT->Hp->FS->FT->Prop}
  (hc:X.calm=true) (Cp:Kh X N scope cl js)
  (hi:PI X Ga iter wi) (hg:∀fp s H,PG (aL X N scope cl fp s H) Ga g) (LR:qo X.prog X.w X.A elt Ga iter cs scope pos tw) (ht:∀fp s H,T1 (aL X N scope cl fp s H) tw tt) (he:∀fp s H,PE ((aL X N scope cl fp s H).wish (Wx fp s H)) elt te)
  (I:'b' s) (h:dH js wi g tt te σ H Q)
  (hR:∀(l C:FR) (H':Hp) (s':FT),Inv X F6 σ H' s'->G0 X F6 H' C->(∃m,s'.heap.Ns C m)->Q (.ref l) H'->RR (.ref l) C (.ok .next) s')
  (hE:∀(l:FR) (fp:List FR) (s3:FT) (H3:Hp) (e:FS) (s':FT),Inv X F6 σ H3 s3->(∀b∈fp,G0 X F6 H3 b)->Wx fp s3 H3 e s'->wpAny 'd' X.A (noteFrame e X.env) (λ _ s'=>RR (.ref l) s3.heap.objs.size (.error e) s') (λ e s'=>RR (.ref l) s3.heap.objs.size (.error e) s') s'):
  wpAny 'd' X.A (eval iter X.env) (λ x s₁=>wpAny 'd' X.A (pyIter x) (λ it s₂=>wpAny 'd' X.A (newList []) (λ acc s₃=>
   wpAny 'd' X.A (newFunctionEnv scope X.env.globals cl [] X.env.qual none .none (some X.env)) (λ QW s₄=>
    codeAny 'd' X.A (.compStart (.ListComp elt [⟨Ga,iter,cs,0⟩] scope pos) 0 it acc {QW with scope:=relabel scope X.env}) (RR acc QW.locals) s₄) X.xe s₃) X.xe s₂) X.xe s₁) X.xe s:=by
 refine thn (hi F6 s σ H _ I h) λ v s1 h1=>thn h1 λ WU s2 h2=>?_
 obtain⟨it,fp,tn,J,H2,e,I2,T,LQ,f2,hw⟩:=h2;subst e;have G5:H2 s2.heap.objs.size=none:=I2.hok.fresh (Ak _);obtain⟨W,⟨m0,w0⟩,turn⟩:=hw s2.heap.objs.size G5;have ZQ:∀b∈fp,b<s2.heap.objs.size:=λ b hb=>let⟨o,e,_⟩:=T.obj _ _ LQ b hb;AA e
 refine wpAny_newList ?_;have I3:Inv X F6 σ (upd H2 s2.heap.objs.size (.lst [])) {s2 with heap:=s2.heap.push {cls:=.type "list",data:=.seq ([]:List FS).toArray}}:=
  I2.laid (t':=s2.toks) (λ b u e=>Aj _ e) (Ak _) ⟨A1 _,[],0,.nil,AN _ rfl⟩
 have HW:tn 0 (s2.heap.push {cls:=.type "list",data:=.seq ([]:List FS).toArray}):=T.keep _ _ _ LQ λ b hb o e=>Aj _ e
 have WS:∀b∈fp,b<(s2.heap.push {cls:=.type "list",data:=.seq ([]:List FS).toArray}).objs.size:=λ b hb=>by rw [DW];exact Fu (ZQ b hb)
 have f3:∀b∈fp,G0 X F6 (upd H2 s2.heap.objs.size (.lst [])) b:=λ b hb=>⟨by rw [aj (A7 (ZQ b hb))];exact(f2 b hb).1,(f2 b hb).2⟩
 generalize s2.heap.objs.size=l at*;generalize upd H2 l (.lst [])=H3 at*;have Qi:∃s3:FT,s3={s2 with heap:=s2.heap.push {cls:=.type "list",data:=.seq ([]:List FS).toArray}}:=⟨_,rfl⟩;obtain⟨s3,e3⟩:=Qi;rw [<-e3] at I3;rw [<-e3];have HW:tn 0 s3.heap:=by rw [e3];exact HW
 have WS:∀b∈fp,b<s3.heap.objs.size:=by rw [e3];exact WS
 clear e3;refine wpAny_newFunctionEnv Cp.nocell (by intro y hy;simp at hy) (λ h4 Rm VG=>?_) Cp.kind;have kp:∀b o,s3.heap.get? b='g'->h4.get? b='g':=λ b o e=>VG.extBut b o (A7 (AA e)) (Aj _ e)
 have I4:=qK (N:=N) (t':=s3.toks+([]:List (Str×FS)).length) I3 Cp f3 WS Rm kp;have RZ:tn 0 h4:=T.keep _ _ _ HW λ b hb o e=>kp b o e
 have Lq:∀{H':Hp},(∀b∈fp,H' b=none)->∀b∈fp,G0 (aL X N scope cl fp s3 H3) [] H' b:=λ hn b hb=>
  ⟨hn b hb,(I4.ok.exf b hb).1,I4.ok.exfs b hb,.inl hb,(I4.ok.exf b hb).2,λ p hp=>absurd (show p∈([]:List (FR×F1)) from hp) Z6⟩
 have loop:codeAny 'd' X.A (.compLoop (.ListComp elt [⟨Ga,iter,cs,0⟩] scope pos) 0 (.ref it) (.ref l) (compEnvC scope cl s3.heap.objs.size X.env)) (RR (.ref l) s3.heap.objs.size)
   {s3 with heap:=h4,toks:=s3.toks+([]:List (Str×FS)).length}:=by
  refine LR _ _ _ _ _ (λ n s'=>∃i ys σ' H',Inv (aL X N scope cl fp s3 H3) [] σ' H' s'/\tn i s'.heap/\(∀b∈fp,H' b=none)/\W i n ys σ' H') ?_ m0 ⟨0,[],_,_,I4,RZ,λ b hb=>(f3 b hb).1,w0⟩;rintro n s5 ⟨i,ys,σ5,H5,I5,Q1,V1,w5⟩;rcases turn i n ys σ5 H5 w5 with⟨stop,q⟩|⟨go,step⟩
  ·refine thn (T.done (aL X N scope cl fp s3 H3) rfl rfl rfl hc i [] s5 σ5 H5 _ I5 (Lq V1) Q1 stop) λ r s6 z9=>?_
   obtain⟨hr,I6⟩:=z9;subst hr;exact hR _ _ _ _ (i7 I3 f3 I6) (I3.fpOk (Ak _) I6.free) (let⟨m,hn,_⟩:=I6.loc;⟨m,hn⟩) q
  ·refine thn (T.item (aL X N scope cl fp s3 H3) rfl rfl rfl hc i [] s5 σ5 H5 _ I5 (Lq V1) Q1 go) λ r s6 z9=>?_
   obtain⟨u,hr,h6⟩:=z9;subst hr;refine thn h6 λ _ s7 z9=>?_
   obtain⟨x,H7,I7,r7,y7,RW,fr7⟩:=z9;have I7':=I7.pinned (Lq fr7) (T.obj _ _ RW);refine Br (hg fp s3 H3 _ s7 σ5 H7 x u _ I7' r7 (step x H7 y7)) (λ _ s8 z9=>?_) (λ _ _ z=>False.elim z);obtain⟨σ8,H8,I8,q8⟩:=z9;refine ht fp s3 H3 _ s8 σ8 H8 _ _ _ I8 q8 λ bb s85 z85=>?_
   obtain⟨H85,Wa,Vr⟩:=z85;cases bb with
   |false=>
    rw [AH Ax] at Vr ⊢;obtain⟨m',W9,w9⟩:=Vr;refine⟨m',W9,i+1,ys,σ8,H85,Wa.unpinned,T.keep _ _ _ RW λ b hb o e=>(Wa.pin (b,o) (AD _ (AD _ (bS hb e)))).1,λ b hb=>?_,w9⟩;obtain⟨o,e,d⟩:=T.obj _ _ RW b hb;exact(Wa.pin (b,o) (AD _ (AD _ (bS hb e)))).2.1
   |true=>
   rw [AK rfl] at Vr ⊢;refine Br (he fp s3 H3 _ s85 σ8 H85 _ (Wa.wish _) Vr) (λ v s9 z9=>?_) λ e s' z=>hE l fp s3 H3 e s' I3 f3 z
   obtain⟨y,H9,I9',r9,hl9,hz9,m',W9,w9⟩:=z9;have I9:=I9'.unwish;refine Br (bO (X:=aL X N scope cl fp s3 H3) _ s9 σ8 H9 (.ref l) [y] (.ref l) [v] (λ z Hz=>Hz=upd H9 l (.lst (ys++[y]))) I9 rfl (.cons r9 .nil) ⟨l,ys,y,rfl,rfl,hl9,hz9,rfl⟩)
    (λ _ Vp ⟨z,Hz,Ym,_,eH⟩=>?_) (λ _ _ z=>False.elim z)
   subst eH;refine⟨m',W9,i+1,ys++[y],σ8,_,Ym.unpinned,T.keep _ _ _ RW λ b hb o e=>(Ym.pin (b,o) (AD _ (AD _ (bS hb e)))).1,λ b hb=>?_,w9⟩;obtain⟨o,e,d⟩:=T.obj _ _ RW b hb;exact(Ym.pin (b,o) (AD _ (AD _ (bS hb e)))).2.1
 exact codeAny_compStart_list loop (T.self X.A 0 _ _ _ RZ loop)
def gz {X:Cx}{N:List Str}{scope:Scope}{cl:List (Str×FR)}(hc:X.calm=true)(Cp:Kh X N scope cl js)
  (hi:PI X Ga iter wi) (hg:∀fp s H,PG (aL X N scope cl fp s H) Ga g) (LR:qo X.prog X.w X.A elt Ga iter cs scope pos tw) (ht:∀fp s H,T1 (aL X N scope cl fp s H) tw tt) (he:∀fp s H,PE (aL X N scope cl fp s H) elt te)
  (hs:autoParam (∀x,foldedSetIterable iter X.env x=pure x) ZX):PE X (.ListComp elt [⟨Ga,iter,cs,0⟩] scope pos) (dH js wi g tt te):=by
 intro F6 s σ H Q I h;rw [eval_ListComp];refine Ee rfl hs Cp.clos Cp.kind Cp.names
  (fG hc Cp hi hg LR ht he I h ?_ λ _ _ _ _ _ _ _ _ z=>False.elim z)
 rintro l C H' s' I' fC ⟨m,hn⟩ q;exact⟨m,hn,λ h' Se=>⟨.ref l,H',I'.turned (λ b o hb e=>(Se.2 b hb).trans e) fC.1 fC.2.1 fC.2.2.2.1 fC.2.2.2.2.1 fC.2.2.2.2.2,rfl,q⟩⟩
def kY {X:Cx}{N:List Str}{scope:Scope}{cl:List (Str×FR)}{i:Nat}{y:Str}{py Jq:Pos}(hN:X.N.Nodup)(Qn:X.N[i]?=some y)(hy:Loc X.env.scope y)
    (hc:X.calm=true) (Cp:Kh X N scope cl js)
    (hi:PI X Ga iter wi) (hg:∀fp s H,PG (aL X N scope cl fp s H) Ga g) (LR:qo X.prog X.w X.A elt Ga iter cs scope pos tw) (ht:∀fp s H,T1 (aL X N scope cl fp s H) tw tt) (he:∀fp s H,PE (aL X N scope cl fp s H) elt te)
    (Qh:swapsWith (.ListComp elt [⟨Ga,iter,cs,0⟩] scope pos) (some (.Name y py)) Jq.line X.env=pure true)
    (hs:autoParam (∀x,foldedSetIterable iter X.env x=pure x) ZX) (hf:autoParam (X.fn y=true\/X.env.scope.names.lookup y=some .local) ZW):
    PS X (.Assign [.Name y py] (.ListComp elt [⟨Ga,iter,cs,0⟩] scope pos) Jq) (qc i (dH js wi g tt te)):=by
  intro F6 s σ H D I h
  rw [exec_Assign_Name_used _ _ _ _ Qh]
  refine Ab (Dp (Ab ?_))
  show wpAny _ X.A (do let _<-comprehension (.ListComp elt [⟨Ga,iter,cs,0⟩] scope pos) scope X.env _ (newList []) false (eval iter X.env) (some (assign (.Name y py) X.env))) _ _ s
  refine Ab (Br (Ee rfl hs Cp.clos Cp.kind Cp.names
    (fG hc Cp hi hg LR ht he I h ?_ λ _ _ _ _ _ _ _ _ z=>False.elim z)) (λ _ s' hq=>AG (AG hq)) λ _ _ e=>e)
  rintro l C H' s' I' fC ⟨m,hn⟩ q
  show wpAny _ X.A (assign (.Name y py) X.env (.ref l)) _ _ _
  refine wpAny_assign_Name (ku I' hN Qn hy (show RelV (.ref l) (.ref l) from rfl) (λ s2 I2 z9=>?_) hf)
  obtain⟨a,sb,ha⟩:=z9
  have hCa:C≠a:=by
    rcases ha with ha|ha
    · rw [ha];exact fC.2.1
    · exact B7 (fC.2.2.2.2.1 y a ha)
  exact⟨m,hn.sameBut sb hCa,λ h' Se=>⟨_,H',I2.turned (λ b o hb e=>(Se.2 b hb).trans e) fC.1 fC.2.1 fC.2.2.2.1 fC.2.2.2.2.1 fC.2.2.2.2.2,q⟩⟩
def iB (hc:X.calm=true)(Hm:scope.kind=.function)(Hf:∀x∈scope.names,x.2≠ .free)(Hn:∀x∈scope.names,x.2≠ .cell)(HC:∀x∈scope.names,x.2=.local->scope.names.lookup x.1=some .local)(hi:PI X Ga iter wi)(hg:∀fp s H,PG (aL X N scope [] fp s H) Ga g)(he:∀fp s H,PE (aL X N scope [] fp s H) elt te)(hs:autoParam (∀x,foldedSetIterable iter X.env x=pure x) ZX):
  PE X (.ListComp elt [⟨Ga,iter,[],0⟩] scope pos) (nD N.length wi g te):=
 λ F6 s σ H Q I h=>gz hc (pk Hm Hf Hn HC) hi hg (im (.inr ⟨rfl,rfl⟩)) (λ _ _ _=>lU) he hs F6 s σ H Q I (xa h)
def vV {py Jq:Pos}(hN:X.N.Nodup)(Qn:X.N[i]?=some y)(hy:Loc X.env.scope y)(hc:X.calm=true)(Hm:scope.kind=.function)(Hf:∀x∈scope.names,x.2≠ .free)(Hn:∀x∈scope.names,x.2≠ .cell)(HC:∀x∈scope.names,x.2=.local->scope.names.lookup x.1=some .local)(hi:PI X Ga iter wi)(hg:∀fp s H,PG (aL X N scope [] fp s H) Ga g)(he:∀fp s H,PE (aL X N scope [] fp s H) elt te)(Qh:swapsWith (.ListComp elt [⟨Ga,iter,[],0⟩] scope pos) (some (.Name y py)) Jq.line X.env=pure true)(hs:autoParam (∀x,foldedSetIterable iter X.env x=pure x) ZX)(hf:autoParam (X.fn y=true\/X.env.scope.names.lookup y=some .local) ZW):
  PS X (.Assign [.Name y py] (.ListComp elt [⟨Ga,iter,[],0⟩] scope pos) Jq) (qc i (nD N.length wi g te)):=
 λ F6 s σ H D I h=>kY hN Qn hy hc (pk Hm Hf Hn HC) hi hg (im (.inr ⟨rfl,rfl⟩)) (λ _ _ _=>lU) he Qh hs hf F6 s σ H D I (xa h)
def iM {X:Cx}{N:List Str}{scope:Scope}{elt:FZ}(hc:X.calm=true)(Hm:scope.kind=.function)(Hf:∀x∈scope.names,x.2≠ .free)(Hn:∀x∈scope.names,x.2≠ .cell)(HC:∀x∈scope.names,x.2=.local->scope.names.lookup x.1=some .local)(hi:PI X Ga iter wi)(hg:∀fp s H,PG (aL X N scope [] fp s H) Ga g)(ht:∀fp s H,PT (aL X N scope [] fp s H) Lo tt)(he:∀fp s H,PE (aL X N scope [] fp s H) elt te)(hs:autoParam (∀x,foldedSetIterable iter X.env x=pure x) ZX):
  PE X (.ListComp elt [⟨Ga,iter,[Lo],0⟩] scope pos) (oN N.length wi g tt te):=
 λ F6 s σ H Q I h=>gz hc (pk Hm Hf Hn HC) hi hg (im (.inl ⟨_,rfl,rfl⟩)) (λ _ _ _=>sy (ht _ _ _) λ _ _ z=>z) he hs F6 s σ H Q I (w8 h)
def sX {X:Cx}{N:List Str}{scope:Scope}{py Jq:Pos}(hN:X.N.Nodup)(Qn:X.N[i]?=some y)(hy:Loc X.env.scope y)(hc:X.calm=true)(Hm:scope.kind=.function)(Hf:∀x∈scope.names,x.2≠ .free)(Hn:∀x∈scope.names,x.2≠ .cell)(HC:∀x∈scope.names,x.2=.local->scope.names.lookup x.1=some .local)(hi:PI X Ga iter wi)(hg:∀fp s H,PG (aL X N scope [] fp s H) Ga g)(ht:∀fp s H,PT (aL X N scope [] fp s H) Lo tt)(he:∀fp s H,PE (aL X N scope [] fp s H) elt te)(Qh:swapsWith (.ListComp elt [⟨Ga,iter,[Lo],0⟩] scope pos) (some (.Name y py)) Jq.line X.env=pure true)(hs:autoParam (∀x,foldedSetIterable iter X.env x=pure x) ZX)(hf:autoParam (X.fn y=true\/X.env.scope.names.lookup y=some .local) ZW):
  PS X (.Assign [.Name y py] (.ListComp elt [⟨Ga,iter,[Lo],0⟩] scope pos) Jq) (qc i (oN N.length wi g tt te)):=
 λ F6 s σ H D I h=>kY hN Qn hy hc (pk Hm Hf Hn HC) hi hg (im (.inl ⟨_,rfl,rfl⟩)) (λ _ _ _=>sy (ht _ _ _) λ _ _ z=>z) he Qh hs hf F6 s σ H D I (w8 h)
def mf {X:Cx}{N:List Str}{scope:Scope}(hc:X.calm=true)(Cp:Kh X N scope cl js)(hi:PI X Ga iter wi)(hg:∀fp s H,PG (aL X N scope cl fp s H) Ga g)(he:∀fp s H,PE (aL X N scope cl fp s H) elt te)(hs:autoParam (∀x,foldedSetIterable iter X.env x=pure x) ZX):
  PE X (.ListComp elt [⟨Ga,iter,[],0⟩] scope pos) (jF js wi g te):=
 λ F6 s σ H Q I h=>gz hc Cp hi hg (im (.inr ⟨rfl,rfl⟩)) (λ _ _ _=>lU) he hs F6 s σ H Q I (h)
def uT {X:Cx}{N:List Str}{scope:Scope}{py Jq:Pos}(hN:X.N.Nodup)(Qn:X.N[i]?=some y)(hy:Loc X.env.scope y)(hc:X.calm=true)(Cp:Kh X N scope cl js)(hi:PI X Ga iter wi)(hg:∀fp s H,PG (aL X N scope cl fp s H) Ga g)(he:∀fp s H,PE (aL X N scope cl fp s H) elt te)(Qh:swapsWith (.ListComp elt [⟨Ga,iter,[],0⟩] scope pos) (some (.Name y py)) Jq.line X.env=pure true)(hs:autoParam (∀x,foldedSetIterable iter X.env x=pure x) ZX)(hf:autoParam (X.fn y=true\/X.env.scope.names.lookup y=some .local) ZW):
  PS X (.Assign [.Name y py] (.ListComp elt [⟨Ga,iter,[],0⟩] scope pos) Jq) (qc i (jF js wi g te)):=
 λ F6 s σ H D I h=>kY hN Qn hy hc Cp hi hg (im (.inr ⟨rfl,rfl⟩)) (λ _ _ _=>lU) he Qh hs hf F6 s σ H D I (h)
def qS {X:Cx}{N:List Str}{scope:Scope}(hc:X.calm=true)(Cp:Kh X N scope cl js)(hi:PI X Ga iter wi)(hg:∀fp s H,PG (aL X N scope cl fp s H) Ga g)(ht:∀fp s H,PT (aL X N scope cl fp s H) Lo tt)(he:∀fp s H,PE (aL X N scope cl fp s H) elt te)(hs:autoParam (∀x,foldedSetIterable iter X.env x=pure x) ZX):
  PE X (.ListComp elt [⟨Ga,iter,[Lo],0⟩] scope pos) (dH js wi g tt te):=
 λ F6 s σ H Q I h=>gz hc Cp hi hg (im (.inl ⟨_,rfl,rfl⟩)) (λ _ _ _=>sy (ht _ _ _) λ _ _ z=>z) he hs F6 s σ H Q I (h)
def kj {lo:Int}{g:TG}{te:TE}{R:Hp->Prop}(Pv:Nat->List V->St->Hp->Prop)(h0:Pv 0 [] σ0 (upd H1 l (.lst [])))
  (hs:∀i ys σ H,i<k->Pv i ys σ H->g (.int (lo+(i:Nat))) σ H λ σ3 H3=>te σ3 H3 λ y H4=>H4 l=↥ys/\ys.length<sizeLine/\Pv (i+1) (ys++[y]) σ3 (upd H4 l (.lst (ys++[y]))))
  (hd:∀ys σ H,Pv k ys σ H->R H) (mg:∀x σ H (A B:St->Hp->Prop),(∀σ' H',A σ' H'->B σ' H')->g x σ H A->g x σ H B) (mt:∀σ H (A B:VK),(∀v H',A v H'->B v H')->te σ H A->te σ H B):
  ∃W:Nat->Nat->List V->St->Hp->Prop,(∃m,W 0 m [] σ0 (upd H1 l (.lst [])))/\∀i m ys σ' H',W i m ys σ' H'->
   ((MU lo k).stop i H'/\R H')\/((MU lo k).go i H'/\∀x H2,(MU lo k).yld i H' x H2->g x σ' H2 λ σ3 H3=>te σ3 H3 λ y H4=>
    H4 l=↥ys/\ys.length<sizeLine/\∃m',m'<m/\W (i+1) m' (ys++[y]) σ3 (upd H4 l (.lst (ys++[y])))):=by
 refine⟨λ i m ys σ H=>m=k-i/\i≤k/\Pv i ys σ H,⟨k,Z6,A1 _,h0⟩,?_⟩;rintro i m ys σ H ⟨rfl,hi,p⟩;by_cases F9:i<k
 ·refine .inr ⟨F9,λ x H' y=>?_⟩;obtain⟨e,y⟩:=y;subst e y;exact mg _ _ _ _ _ (λ σ3 H3 z=>mt _ _ _ _ (λ y H4 z9=>by obtain⟨z1,z2,z4⟩:=z9;exact⟨z1,z2,k-(i+1),Bs _ _ F9,rfl,F9,z4⟩) z) (hs i ys σ _ F9 p)
 ·have e:i=k:=A8 hi (Nat.not_lt.1 F9);subst e;exact .inl ⟨Ak _,hd ys σ H p⟩
structure KO (K:Frag)(x qual:Str)(st:F5)(dV:FS)(f:FR)(fd:FW):Prop where
 ex:∃(oc:FS) (od:Option FR) (kV doc pm:FS) (an:Option FR) (F8 ct:FS) (osl:Array (Option FS)),
  fd=fnOf x qual (bx st) (bj st) (am st) dV kV doc pm an F8 ct/\K.lookup f=some ⟨oc,od,.func fd,osl⟩/\codeIn K F8 qual=true
 kp:keepIn K (.ref f)=true
def KO.ok {K:Frag}{st:F5}(F:KO K x qual st dV f fd)(S:y' N ps (am st))
  (hb:∀(F8:FS) (A:FX) (outer:List Env) (s:FT) (H:Hp) (vs:List V) (Q:VK) (E:XK),Ge k (A.deeper (envOfC qual (am st) s.heap.objs.size f F8))->sp vs H Q E->
   let X:=(cxOf Gn P w K mg base N qual (am st) f F8 A outer s H E).nox;∃t,PSs X (bj st) t/\t {nx:=λ _ H'=>Q .non H',rt:=Q} (start N vs) H) (len:autoParam (∀vs H Q E,sp vs H Q E->vs.length=ps.length) ZV):'a' Gn (k+1) f fd ps sp:=by
 obtain⟨oc,od,kV,doc,pm,an,F8,ct,osl,rfl,lk,Jm⟩:=F.ex;refine o0 lk Jm S len λ A outer s H vs Q E hr JN=>?_
 obtain⟨t,h,q⟩:=hb F8 A outer s H vs Q E hr JN;exact⟨t,h.nox,q⟩
end L2
namespace QQ
open PySem
def ni {os:OsState}
  (hC:h.get? C=some (excClassObj nm q C N bs bm hdct sn sub ab col dd k0 k1 k2 k3 k5 newId)) (hD:h.get? D=some (excClassObj WE q' D N' X7 QD N2 Wr QH Ya QV P0 j0 j1 j2 j3 j5 newId'))
  (he:h.get? e=some oe) (Kg:oe.cls=.ref C) (Ho:QD.contains (.type "BaseException")=true) (hm:(Value.ref C::bm).contains (.ref D)=true) (ne:C≠D)
  (hq:Q true ⟨h,g,d,t,os⟩):wpAny M A (excMatches (.ref e) (.ref D)) Q E ⟨h,g,d,t,os⟩:=by
 have Qq:(Value.ref D::QD).contains (.type "BaseException")=true:=by rw [Eu,Ho,FM]
 have f:=tc_notTuple;unfold excMatches
 repeat (first|(with_reducible refine CC he ?_;rw [Kg])|with_reducible refine CC hD ?_|(with_reducible refine CD hD ?_;rw [Qq])|(with_reducible refine CD hC ?_;rw [hm])|wp_step)
 exact hq
end QQ
set_option maxHeartbeats 8000000
namespace L2
open PySem PySem.Spec PyProof.Rows QQ
def Gp.there (x:Gp P w H h a o):∃ob,h.get? a=some ob:=by
 cases o with
 |lst xs=>obtain⟨_,_,_,_,e⟩:=x;exact⟨_,e⟩
 |tup xs=>obtain⟨_,_,_,ob,e,_⟩:=x;exact⟨_,e⟩
 |dK Gg=>obtain⟨_,_,_,_,o,_,_,e,_⟩:=x;exact⟨_,e⟩
 |dT Gg=>obtain⟨_,_,_,_,o,_,_,e,_⟩:=x;exact⟨_,e⟩
 |set S n=>obtain⟨o,_,_,_,e,_⟩:=x;exact⟨_,e⟩
 |ins C dx fs=>obtain⟨_,_,_,e,_⟩:=x;exact⟨_,e⟩
 |own y=>exact x
 |xd fs=>obtain⟨_,⟨_,_,_,e,_⟩,_⟩:=x;exact⟨_,e⟩
 |rng lo hi=>obtain⟨_,_,_,e⟩:=x;exact⟨_,e⟩
 |frz ob u=>obtain⟨e,_⟩:=x;exact⟨_,e⟩
 |tbl ps=>exact⟨_,show h.get? a=some _ from x⟩
 |met f y=>exact⟨_,show h.get? a=some _ from x⟩
 |ext φ=>obtain⟨_,e,_⟩:=x;exact e
def HK.gone (x:HK P w H h)(e:h.get? a=none):H a=none:=by
 cases q:H a with
 |none=>rfl
 |some u=>
  obtain⟨ob,r⟩:=(x a u q).there;rw [e] at r;cases r
def Bk (h0:FY)(H:Hp)(e:FR)(c:FS):Prop:=OL H e c/\∀b,c=.ref b->h0.get? b=none
def Iu (D:FS->Prop)(P:FU)(w:FV):Nj:=λ outer H s E e s'=>∃ea cls fp H',e=.ref ea/\s'.os=s.os/\AllBare s'.gens/\Un (frs outer) [] H H' s.heap s'.heap/\HK P w H' s'.heap/\
 (∃c,D c/\Jn s'.heap ea cls fp c/\Bk s.heap H' ea c)/\(∀b∈fp,s.heap.get? b=none/\H' b=none)/\E cls none H'
abbrev Jo:FU->FV->Nj:=Iu λ _=>True
abbrev Lp:FU->FV->Nj:=Iu λ c=>c=.none
structure M3 (X:Cx)(F6:List (FR×F1))(b:FR):Prop where
 s0:X.s₀.heap.get? b=none
 loc:b≠X.env.locals
 cel:∀x c,X.env.cells.lookup x=some c->c≠b
 pin:∀p∈X.pn++F6,p.1≠b
def Wf (X:Cx)(F6:List (FR×F1))(H:Hp)(e:FR)(c:FS):Prop:=OL H e c/\∀b,c=.ref b->M3 X F6 b
structure JK (X:Cx)(F6:List (FR×F1))(H:Hp)(b:FR):Prop where
 s0:X.s₀.heap.get? b=none
 h:H b=none
 loc:b≠X.env.locals
 cel:∀x c,X.env.cells.lookup x=some c->c≠b
 pin:∀p∈X.pn++F6,p.1≠b
def Inv.newA {σ:St}(I:'b' s)(e:s.heap.get? b=none)(hx:b∉X.ex):M3 X F6 b:=by
 refine⟨?_,λ z=>?_,λ x c ec z=>?_,λ p hp z=>?_⟩
 ·cases q:X.s₀.heap.get? b with
  |none=>rfl
  |some o=>
   obtain⟨o',r⟩:=I.base.there b o q hx;rw [e] at r;cases r
 ·obtain⟨m,⟨o,_,_,ho,_⟩,_⟩:=I.loc;rw [<-z,e] at ho;cases ho
 ·obtain⟨v,o,ho,_⟩:=I.cell x c ec;rw [z,e] at ho;cases ho
 ·have:=(I.pin p hp).1;rw [z,e] at this;cases this
def Inv.new {σ:St}(I:'b' s)(e:s.heap.get? b=none)(n:H' b=none)(hx:b∉X.ex):JK X F6 H' b:=
 let a:=I.newA e hx
 ⟨a.s0,n,a.loc,a.cel,a.pin⟩
def JK.ch (n:JK X F6 H b):(b∈X.ex\/X.s₀.heap.get? b=none)/\b≠X.env.locals/\(∀x c,X.env.cells.lookup x=some c->c≠b)/\∀p∈X.pn++F6,p.1≠b:=⟨.inr n.s0,n.loc,n.cel,n.pin⟩
def Inv.landed {σ:St}{fp:List FR}(I:'b' s)(hn:∀b∈fp,JK X F6 H b)(k:∀b o,s.heap.get? b='g'->b∉fp->b∉X.stack.filterMap (·.frame)->h'.get? b='g')
  (sl:∀b o,s.heap.get? b='g'->b∉fp->∃z,h'.get? b=some {o with slots:=z}) (th:∀b o,s.heap.get? b=some o->∃o',h'.get? b=some o'):Inv X F6 σ H {s with heap:=h'}:=by
 have nf:∀b,b∉X.fs->b≠X.env.locals->b∉X.stack.filterMap (·.frame):=λ b h1 h2 z=>by
  rcases AB.mp (I.stkSub b z) with q|q
  ·exact h2 q
  ·exact h1 q
 have tr:∀b u,H b=some u->∀o,s.heap.get? b='g'->h'.get? b='g':=λ b u e o g=>by
  refine k b o g (λ z=>?_) λ z=>?_
  ·rw [(hn b z).h] at e;cases e
  ·rw [I.stkFree b z] at e;cases e
 refine I.step0 (λ b hb=>(hn b hb).ch) (λ b o h1 h2 h3 g _=>k b o g h3 (nf b h2 h1)) (λ b o _ _ h3 g _=>sl b o g h3) (λ _ _ _ _ n=>n) (λ b o _ g=>th b o g)
  (λ _ _ e=>e) (λ _ _ _ e=>e) (λ b ps e=>⟨#[],by rw [e];simp⟩) (λ m hm=>?_) (λ a o e=>?_) I.bare
 ·obtain⟨o,es,ep,ho,r⟩:=hm;obtain⟨z,q⟩:=sl _ o ho λ y=>(hn _ y).loc rfl
  exact⟨_,es,ep,q,r⟩
 ·refine(I.hok a o e).stay (λ c v hc q=>?_) (λ _ q=>q) λ _ _ q=>q
  rcases hc with z|z
  ·subst z;exact tr c _ e v q
  ·exact tr c _ z v q
def Inv.thrown {σ:St}(I:'b' s)(hx:Iu D X.prog X.w X.stack H s E e s')(hX:X.ex=[]):∃ea cls fp H',e=.ref ea/\Inv X F6 σ H' s'/\(∃c,D c/\Jn s'.heap ea cls fp c/\Wf X F6 H' ea c)/\(∀b∈fp,JK X F6 H' b)/\E cls none H':=by
 obtain⟨ea,cls,fp,H',rfl,os,bare,un,hok,⟨c,dc,F,bk,bn⟩,fr,q⟩:=hx;exact⟨ea,cls,fp,H',rfl,I.call' os un hok bare (λ b z=>absurd z Z6),⟨c,dc,F,bk,λ b e=>I.newA (bn b e) (by rw [hX];simp)⟩,λ b hb=>I.new (fr b hb).1 (fr b hb).2 (by rw [hX];simp),q⟩
def bu {K:Frag}:
  cI (Iu D P w) (cxOf (Iu D P w) P w K mg base N qual scope f cd A outer s₀ H₀ E) E:=by
 intro F6 σ H s e s' I hx;obtain⟨ea,cls,fp,H',rfl,I',⟨c,dc,F,bk,bn⟩,fr,q⟩:=I.thrown hx rfl;show wpAny (model P w) _ (leaving _ (.ref ea)) _ _ _;unfold leaving;refine Ab (land I'.ok.frames I'.stack rfl F λ h' T F' hT f3 f4 f5=>?_);have J:=I'.landed fr f3 f4 f5;refine⟨ea,cls,[ea,T],H',rfl,J.os,J.bare,J.base,J.hok,⟨c,dc,F',bk,λ b e=>(bn b e).s0⟩,λ b hb=>?_,q⟩;rcases AB.mp hb with hb|hb
 ·subst hb;have z:=fr b F.here;exact⟨z.s0,z.h⟩
 ·rw [As] at hb;subst hb;refine⟨?_,I'.hok.fresh hT⟩;cases z:s₀.heap.get? b with
  |none=>rfl
  |some o=>
   obtain⟨o',r⟩:=I'.base.there b o z (by simp [cxOf]);exact absurd (Ap (AA r) hT) (BK _)
def jU:cI (Iu D P w) X E0:=by
 intro _ _ _ _ _ _ _ h;obtain⟨_,_,_,_,_,_,_,_,_,_,_,q⟩:=h;exact q.elim
def Hb.okE {K:Frag}{st:F5}(F:Hb K x qual st f fd)(S:y' N ps (am st))
  (hb:∀(F8:FS) (A:FX) (outer:List Env) (s:FT) (H:Hp) (vs:List V) (Q:VK) (E:XK),Ge k (A.deeper (envOfC qual (am st) s.heap.objs.size f F8))->sp vs H Q E->
   let X:=(cxOf (Iu D P w) P w K mg base N qual (am st) f F8 A outer s H E);∃t,PSs X (bj st) t/\t {nx:=λ _ H'=>Q .non H',rt:=Q} (start N vs) H) (len:autoParam (∀vs H Q E,sp vs H Q E->vs.length=ps.length) ZV):'a' (Iu D P w) (k+1) f fd ps sp:=by
 obtain⟨oc,od,kV,doc,pm,an,F8,ct,osl,rfl,lk,Jm⟩:=F.ex;exact o0 lk Jm S len λ A outer s H vs Q E hr JN=>hb F8 A outer s H vs Q E hr JN
noncomputable abbrev bmV:List FS:=[.type "ValueError",.type "Exception",.type "BaseException",.type "object"]
def ExC (K:Frag)(C:FR):Prop:=excIn K C bmV "ValueError.__new__"=true
def eD {K:Frag}(c:ExC K C):∃bm N nm q bs hdct sn sub ab col dd k0 k1 k2 k3 k5,K.lookup C=some (excClassObj nm q C N bs bm hdct sn sub ab col dd k0 k1 k2 k3 k5 "ValueError.__new__")/\
  clsIn K C=some ⟨nm,bs,.ref C::bm,N,q,hdct,sn,sub,ab,col,false⟩/\∀h,K.In h->(∃mN,h.Ns N mN/\mN "__init__"=none)/\OwnTail h bmV bm:=by
 unfold ExC excIn at c
 split at c
 ·rename_i dd cd sl hl
  split at c
  ·rename_i C1 bm k0 k1 k2 k3 n k5 hm hs
   simp only [D1,beq_iff_eq,Fy] at c;obtain⟨⟨⟨⟨⟨e1,e2⟩,US⟩,ht⟩,hok⟩,Pz⟩:=c;subst e1 e2;obtain⟨nm,bs,mro,ns,qn,hd,sn,sub,ab,col,del⟩:=cd;dsimp only at hm US hok Pz;subst hm US;have hsl:sl=#[k0,k1,k2,k3,some (.builtin "ValueError.__new__"),k5]:=by
    obtain⟨l⟩:=sl;simp only at hs;rw [hs]
   subst hsl;refine⟨bm,ns,nm,qn,bs,hd,sn,sub,ab,col,dd,k0,k1,k2,k3,k5,hl,by unfold clsIn;rw [hl],λ h X=>⟨⟨_,.of_isNs (PySem.W.isNs_of_in X hok),PySem.W.nsMap_none_of_in X hok Pz⟩,PySem.W.tail_of_in X ht⟩⟩
  ·cases c
 ·cases c
def uK (C:FR)(E:XK)(te:TE):TS:=λ _ σ H=>te σ H λ _ H1=>E (.ref C) none H1
def cj {D:FS->Prop}{X:Cx}{np Hj pos:Pos}(hx:cI (Iu D X.prog X.w) X E)(hh:X.A.handled=none)(hg:Gl X x)(hm:X.mg x=↑C)(c:ExC X.K C)(he:PE X e te)
  (HY:autoParam (starEach [e] X.env=(false,eval e X.env)::starEach [] X.env) Z0) (hd:'e') (hD:D .none:=by trivial):PS X (.Raise (some (.Call (.Name x np) [e] [] Hj)) none pos) (uK C E te):=by
 intro F6 s σ H D I h;obtain⟨bm,N,nm,q,bs,hdct,sn,sub,ab,col,dd,k0,k1,k2,k3,k5,hl,_,hf⟩:=eD c;obtain⟨⟨mN,hN,Pz⟩,T⟩:=hf X.base I.mod.kin;refine wpAny_Raise_call_subT (nm:=nm) (q:=q) (N:=N) (bs:=bs) (hdct:=hdct) (sn:=sn) (sub:=sub) (ab:=ab) (col:=col) (dd:=dd) (k0:=k0) (k1:=k1) (k2:=k2) (k3:=k3) (k5:=k5)
  Fj (mN:=mN) (T.hasType Z8) hh (by rw [HY];rfl) Pz (cu I hg hm ⟨rfl,?_⟩ hd)
 rw [HY];refine EY (Fp (thn (he F6 s σ H _ I h) λ u s1 ⟨y,H1,I1,r1,q1⟩=>Fx ?_));refine⟨rfl,by show 1≤sizeLine;decide,I1.kIn C _ hl,hN.keeps I1.bk,T.keeps I1.bk,λ h' ea md=>?_⟩;exact hx F6 σ H1 s1 _ _ I1 ⟨ea,_,[ea],H1,rfl,rfl,I1.bare,Un.kept md.keeps,I1.hok.kept md.keeps,⟨_,hD,Jn.made md,.inl rfl,λ b e=>nomatch e⟩,λ b hb=>by
  rw [As] at hb;subst hb;exact⟨md.new,I1.hok.gone md.new⟩,q1⟩
noncomputable def ma (X:Cx) (pn:List (FR×F1)) (σ0:St) (E:XK) (D:FS->Prop:=λ _=>True):Cx:={X with
 pn:=pn
 xe:=λ e s'=>∃ea cls fp H',e=.ref ea/\Inv {X with pn:=pn} [] σ0 H' s'/\(∃c,D c/\Jn s'.heap ea cls fp c/\Wf {X with pn:=pn} [] H' ea c)/\(∀b∈fp,JK {X with pn:=pn} [] H' b)/\E cls none H'}
noncomputable def cxHand (X:Cx) (e:FR) (G:Hp):Cx:={X with
 A:=X.A.mark ↑e
 H₀:=G
 xe:=λ _ _=>False}
def d6 (CX:Nj)(X:Cx)(E:XK)(σ0:St):Prop:=∀F6 H s e s',Inv X F6 σ0 H s->CX X.stack H s E e s'->X.xe e s'
def Cx.Ok.repn {X:Cx}(ok:X.Ok)(pn)(W):Cx.Ok {X with pn:=pn,xe:=W}:=
 ⟨ok.mod,ok.kind,ok.glob,ok.blt,ok.above,ok.inj,ok.has,ok.cab,ok.hd,ok.frames,ok.stk,ok.exf,ok.bs,ok.bsz,ok.noex,ok.exfs,ok.funs,ok.frf⟩
def Cx.Ok.unpn {X:Cx}{pn:List (FR×F1)}(ok:Cx.Ok {X with pn:=pn,xe:=W}):X.Ok:=
 ⟨ok.mod,ok.kind,ok.glob,ok.blt,ok.above,ok.inj,ok.has,ok.cab,ok.hd,ok.frames,ok.stk,ok.exf,ok.bs,ok.bsz,ok.noex,ok.exfs,ok.funs,ok.frf⟩
def Inv.lift {σ:St}(I:'b' s)(W):Inv {X with pn:=X.pn++F6,xe:=W} [] σ H s:=
 ⟨I.ok.repn _ W,I.os,I.bare,I.base,I.loc,I.cell,I.free,I.freeC,λ p hp=>I.pin p (by simpa using hp),I.hok,I.len⟩
def Inv.unlift {σ:St}(I:Inv {X with pn:=X.pn++F6,xe:=W} G2 σ H s):Inv X F6 σ H s:=
 ⟨I.ok.unpn,I.os,I.bare,I.base,I.loc,I.cell,I.free,I.freeC,λ p hp=>I.pin p (Bm _ hp),I.hok,I.len⟩
theorem Inv.repn {X:Cx}{σ:St}(I:Inv {X with pn:=pn,xe:=W} F6 σ H s):Inv {X with pn:=pn,xe:=W'} [] σ H s:=
 ⟨I.ok.unpn.repn _ W',I.os,I.bare,I.base,I.loc,I.cell,I.free,I.freeC,λ p hp=>I.pin p (by simp at hp;exact Bm _ hp),I.hok,I.len⟩
theorem SP.unlift (h:SP {X with pn:=X.pn++F6,xe:=W} [] D f s'):SP X F6 D f s':=by
 cases f with
 |next=>obtain⟨σ',H',I,q⟩:=h;exact⟨σ',H',I.unlift,q⟩
 |brk=>obtain⟨σ',H',I,q⟩:=h;exact⟨σ',H',I.unlift,q⟩
 |cont=>obtain⟨σ',H',I,q⟩:=h;exact⟨σ',H',I.unlift,q⟩
 |ret u=>obtain⟨v,σ',H',I,r,q⟩:=h;exact⟨v,σ',H',I.unlift,r,q⟩
def eh {X:Cx}{pn:List (FR×F1)}{σ0:St}(hX:X.ex=[])(hD:∀c,D c->D' c:=by intros;trivial):d6 (Iu D X.prog X.w) (ma X pn σ0 E D') E σ0:=by
 intro F6 H s e s' I hx;obtain⟨ea,cls,fp,H',rfl,I',F,fr,q⟩:=I.thrown hx hX;obtain⟨c,dc,F,bk,bn⟩:=F;exact⟨ea,cls,fp,H',rfl,I'.repn,⟨c,hD c dc,F,bk,λ b e=>let n:=bn b e;⟨n.s0,n.loc,n.cel,λ p hp=>n.pin p (by simp at hp;exact Bm _ hp)⟩⟩,λ b hb=>let n:=fr b hb;⟨n.s0,n.h,n.loc,n.cel,λ p hp=>n.pin p (by simp at hp;exact Bm _ hp)⟩,q⟩
def Wo (σ0:St)(t:TE):TE:=λ σ H Q=>σ=σ0/\t σ H Q
def qz (F:Gb X.prog X.w X.K X.mg X.base CX k f fd ps sp)(hr:Ge k X.A)(hb:Binds X.K fd ps ds)(hd:Vals Hl ds)(hx:d6 CX X E σ0)
  (I:Inv X F6 σ0 H s) (r:Vals vs us) (h:sp (vs++Hl) H Q E):wpAny 'd' X.A (call (.ref f) us) (EP X F6 σ0 Q) X.xe s:=by
 have r2:Vals (vs++Hl) (us++ds):=r.append hd;have hl:(us++ds).length=ps.length:=by rw [<-r2.length];exact F.len _ _ _ _ h
 refine Ec (Dj (F.run X.A X.stack s H ⟨us,[]⟩ (us++ds) (vs++Hl) Q E hr I.env0 (hb s us I.kIn hl) r2 h) λ r s' hq=>?_);cases r with
 |error e=>exact hx F6 H s e s' I hq
 |ok fl=>
  cases fl with
  |ret u=>exact I.after hq
  |next=>exact False.elim hq
  |brk=>exact False.elim hq
  |cont=>exact False.elim hq
def eZ {p:Pos}{pos:Pos}(F:Gb X.prog X.w X.K X.mg X.base CX k f fd ps sp)(hr:Ge k X.A)(hg:Gl X x)(hm:X.mg x=↑f)(hk:keepIn X.K (.ref f)=true)(hb:Binds X.K fd ps ds)(hd:Vals Hl ds)(hx:d6 CX X E σ0)
  (ha:PA X (e::es) t) (Ky:'e') (he:'k') (HZ:autoParam ((backTo pos (starEach es X.env)).any (·.1)=false) Z0):
  PE X (.Call (.Name x p) (e::es) [] pos) (Wo σ0 (dJ sp Hl E t)):=by
 intro F6 s σ H Q I h;obtain⟨rfl,h⟩:=h;refine BN (cu I hg hm ?_ Ky);refine C5 I.ok.mod.kin hk (thn (ha pos F6 s σ H _ I h) λ us s1 ⟨vs,H1,I1,r,q⟩=>⟨I1.kIn,?_⟩) he HZ;exact qz F hr hb hd hx I1 r q
def eW {pos:Pos}{apos:Pos}{pl:Sem Bool}(he:PE X o ta)(c:Cls X.K C)(hm:Meth X.K C m f)(F:Gb X.prog X.w X.K X.mg X.base CX k f fd ps sp)(hr:Ge k X.A)(hb:Binds X.K fd ps ds)(hd:Vals Hl ds)(hx:d6 CX X E σ0)(ha:PA X (e::es) t)
    (HY:'k') (HZ:autoParam ((backTo pos (starEach es X.env)).any (·.1)=false) Z0)
    (ht:autoParam (eval (.Call (.Attribute o m apos) (e::es) [] pos) X.env=(do
      let ov<-eval o X.env
      standAt apos.atName
      let(f,first)<-holding [ov] (getMethod ov m pl)
      callWith pos f first (backTo pos (starEach (e::es) X.env)) (backToKw pos (keywordEach [] X.env)))) Z0):
    PE X (.Call (.Attribute o m apos) (e::es) [] pos) (Wo σ0 (mq C m sp Hl E ta t)):=by
  intro F6 s σ H Q I h
  obtain⟨rfl,h⟩:=h
  refine EK (thn (he F6 s σ H _ I h) λ u s1 z9=>?_) ht
  obtain⟨x,H1,I1,rx,a,dx,fs,ex,ea,l,q⟩:=z9
  subst ex
  obtain rfl:u=Value.ref a:=rx
  refine fJ I1 ea c hm l ?_
  refine C5 I.ok.mod.kin hm.kp (thn (ha pos F6 s1 σ H1 _ I1 q) λ us s2 ⟨vs,H2,I2,r,q2⟩=>⟨I2.kIn,?_⟩) HY HZ
  exact qz (vs:=.ref a::vs) F hr hb hd hx I2 (.cons rfl r) q2
def rR (M:Mk X.K C f)(F:Gb X.prog X.w X.K X.mg X.base CX k f fd ps sp)(hr:Ge (k+1) X.A)(hb:Binds X.K fd ps ds)(hd:Vals Hl ds)
  (hx:d6 CX X E σ0) (I:Inv X F6 σ0 H s) (r:Vals vs us)
  (h:∀x dx,H x=none->H dx=none->dx≠x->sp (.ref x::(vs++Hl)) (upd (upd H dx (.own x)) x (.ins C dx [])) (λ v H2=>v=.non/\Q (.ref x) H2) E):
  wpAny 'd' X.A (call (.ref C) us) (EP X F6 σ0 Q) X.xe s:=by
 have hq:=h (s.heap.objs.size+1) s.heap.objs.size (I.hok.fresh (DD _)) (I.hok.fresh (Ak _)) (A7 (Dr _));have I2:=Inv.made (C:=C) I;have r2:Vals (V.ref (s.heap.objs.size+1)::(vs++Hl)) (Value.ref (s.heap.objs.size+1)::(us++ds)):=.cons rfl (r.append hd);have hl:(Value.ref (s.heap.objs.size+1)::us++ds).length=ps.length:=by
  have e:=r2.length;rw [F.len _ _ _ _ hq] at e;exact e.symm
 refine Ec (nk (f:=f) I.kIn M.makes M.init (Ed.mp M.fn) (Dj (F.run _ X.stack _ _ ⟨Value.ref (s.heap.objs.size+1)::us,[]⟩ (Value.ref (s.heap.objs.size+1)::(us++ds)) _ _ E (hr.make C us [])
  (I2.env0.make C us []) (hb _ (Value.ref (s.heap.objs.size+1)::us) I2.kIn hl) r2 hq) λ r s' Lm=>?_))
 cases r with
 |error e=>exact hx F6 _ _ e s' I2 Lm
 |ok fl=>
  cases fl with
  |ret u=>
   obtain⟨v,H',I3,rv,ev,q3⟩:=I2.after Lm;subst ev;exact⟨rv,⟨V.ref (s.heap.objs.size+1),H',I3,rfl,q3⟩⟩
  |next=>exact False.elim Lm
  |brk=>exact False.elim Lm
  |cont=>exact False.elim Lm
def iU {p:Pos}{pos:Pos}(M:Mk X.K C f)(F:Gb X.prog X.w X.K X.mg X.base CX k f fd ps sp)(hr:Ge (k+1) X.A)(hg:Gl X x)(hm:X.mg x=↑C)(hb:Binds X.K fd ps ds)(hd:Vals Hl ds)(hx:d6 CX X E σ0)
  (ha:PA X (e::es) t) (Ky:'e') (he:'k') (HZ:autoParam ((backTo pos (starEach es X.env)).any (·.1)=false) Z0):
  PE X (.Call (.Name x p) (e::es) [] pos) (Wo σ0 (uJ C sp Hl E t)):=by
 intro F6 s σ H Q I h;obtain⟨rfl,h⟩:=h;refine BN (cu I hg hm ?_ Ky);refine C5 I.ok.mod.kin M.kp (thn (ha pos F6 s σ H _ I h) λ us s1 ⟨vs,H1,I1,r,q⟩=>⟨I1.kIn,?_⟩) he HZ;exact rR M F hr hb hd hx I1 r q
def Inv.know {σ:St}(I:'b' s)(n:M3 X F6 b)(hb:H b=some (.frz ob (.own b))):Inv {X with H₀:=upd X.H₀ b (.frz ob (.own b))} F6 σ H s:=by
 have WJ:∀c∈X.fs,c≠b:=λ c hc z=>by
  obtain⟨_,o,ho,_⟩:=I.ok.funs.mem hc;rw [z,n.s0] at ho;cases ho
 have JM:∀c o,X.s₀.heap.get? c='g'->c≠b:=λ c o q z=>by rw [z,n.s0] at q;cases q
 have WK:∀c o,X.base.get? c='g'->c≠b:=λ c o q=>JM c o (I.ok.bs c o q).1
 refine⟨⟨I.ok.mod,I.ok.kind,I.ok.glob,I.ok.blt,I.ok.above,I.ok.inj,I.ok.has,I.ok.cab,?_,I.ok.frames,I.ok.stk,I.ok.exf,λ c o q=>⟨(I.ok.bs c o q).1,?_⟩,I.ok.bsz,I.ok.noex,I.ok.exfs,I.ok.funs,λ c hc=>?_⟩,
  I.os,I.bare,⟨λ c o q z hc hx=>?_,λ c o q z hc hx=>?_,λ c o q z hx=>?_,I.base.there,λ c xs q=>?_,λ c o u q=>?_,λ c ps q=>?_⟩,I.loc,I.cell,I.free,I.freeC,I.pin,I.hok,I.len⟩
 ·rcases I.ok.hd with q|⟨a,o,vs,c,e,f,d,z,k⟩
  ·exact .inl q
  ·have up:∀x o u,X.H₀ x=some (.frz o u)->upd X.H₀ b (.frz ob (.own b)) x=some (.frz o u):=λ x o u g=>by
    by_cases hx:x=b
    ·have:=I.base.frzs _ _ _ g;rw [hx,hb] at this;rw [hx,af];exact this
    ·rw [aj hx];exact g
   exact .inr ⟨a,o,vs,c,e,up _ _ _ f,d,z,k.keep up⟩
 ·show upd X.H₀ b _ c=none;rw [aj (WK c o q)];exact(I.ok.bs c o q).2
 ·show upd X.H₀ b _ c=none;rw [aj (WJ c hc)];exact I.ok.frf c hc
 ·have z':upd X.H₀ b (.frz ob (.own b)) c=none:=z;rw [aj (JM c o q)] at z';exact I.base.keep c o q z' hc hx
 ·have z':upd X.H₀ b (.frz ob (.own b)) c=none:=z;rw [aj (JM c o q)] at z';exact I.base.slot c o q z' hc hx
 ·have z':upd X.H₀ b (.frz ob (.own b)) c=none:=z;rw [aj (JM c o q)] at z';exact I.base.free c o q z' hx
 ·have q':upd X.H₀ b (.frz ob (.own b)) c=some (.tup xs):=q;by_cases hc:c=b
  ·rw [hc,af] at q';cases q'
  ·rw [aj hc] at q';exact I.base.tups c xs q'
 ·have q':upd X.H₀ b (.frz ob (.own b)) c=some (.frz o u):=q;by_cases hc:c=b
  ·rw [hc] at q' ⊢;rw [af] at q';rw [hb];exact q'
  ·rw [aj hc] at q';exact I.base.frzs c o u q'
 ·have q':upd X.H₀ b (.frz ob (.own b)) c=some (.tbl ps):=q;by_cases hc:c=b
  ·rw [hc,af] at q';cases q'
  ·rw [aj hc] at q';exact I.base.tbls c ps q'
def Inv.unknow {σ:St}{σ1:St}(I0:'b' s)(n:M3 X F6 b)(hb:H b=some (.frz ob (.own b)))(I:Inv {X with H₀:=upd X.H₀ b (.frz ob (.own b))} F6 σ1 H1 s1):Inv X F6 σ1 H1 s1:=by
 have JM:∀c u,X.s₀.heap.get? c=some u->c≠b:=λ c u q z=>by rw [z,n.s0] at q;cases q
 have tr:∀c,c≠b->upd X.H₀ b (.frz ob (.own b)) c=X.H₀ c:=λ c hc=>aj hc
 refine⟨I0.ok,I.os,I.bare,⟨λ c u q z hc hx=>I.base.keep c u q ((tr c (JM c u q)).trans z) hc hx,λ c u q z hc hx=>I.base.slot c u q ((tr c (JM c u q)).trans z) hc hx,λ c u q z hx=>I.base.free c u q ((tr c (JM c u q)).trans z) hx,I.base.there,λ c xs q=>?_,λ c u v q=>?_,λ c ps q=>?_⟩,I.loc,I.cell,I.free,I.freeC,I.pin,I.hok,I.len⟩
 ·refine I.base.tups c xs ((tr c λ z=>?_).trans q);have:=I0.base.tups c xs q;rw [z,hb] at this;cases this
 ·by_cases hc:c=b
  ·have:=I0.base.frzs c u v q;rw [hc,hb] at this;refine I.base.frzs c u v ?_;show upd X.H₀ b (.frz ob (.own b)) c=_;rw [hc,af];exact this
  ·exact I.base.frzs c u v ((tr c hc).trans q)
 ·refine I.base.tbls c ps ((tr c λ z=>?_).trans q);obtain⟨m,this⟩:=I0.base.tbls c ps q;rw [z,hb] at this;cases this
def Inv.ready {σ:St}(I:'b' s)(bk:Wf X F6 H e c):∃G,Inv {X with H₀:=G} F6 σ H s/\OL G e c/\∀σ1 H1 s1,Inv {X with H₀:=G} F6 σ1 H1 s1->Inv X F6 σ1 H1 s1:=by
 obtain⟨bk,bn⟩:=bk;rcases bk with bk|⟨b,ob,us,rfl,n,f,r⟩
 ·exact⟨X.H₀,I,.inl bk,λ _ _ _ z=>z⟩
 ·exact⟨_,I.know (bn b rfl) f,.inr ⟨b,ob,us,rfl,n,af,r⟩,λ _ _ _ z=>I.unknow (bn b rfl) f z⟩
def Inv.hand {σ:St}(I:'b' s)(n:JK X F6 H e)(g:s.heap.get? e=some (exO cls vs))(h2:vs[2]?=some c/\6≤vs.size)(bk:OL X.H₀ e c):
  Inv (cxHand X e (upd X.H₀ e (.frz (exO cls vs) (.own e)))) F6 σ (upd H e (.frz (exO cls vs) (.own e))) s:=by
 have WJ:∀b∈X.fs,b≠e:=λ b hb z=>by
  obtain⟨_,o,ho,_⟩:=I.ok.funs.mem hb;rw [z,n.s0] at ho;cases ho
 have JM:∀b o,X.s₀.heap.get? b='g'->b≠e:=λ b o q z=>by rw [z,n.s0] at q;cases q
 have WK:∀b o,X.base.get? b='g'->b≠e:=λ b o q=>JM b o (I.ok.bs b o q).1
 have bk':OL (upd X.H₀ e (.frz (exO cls vs) (.own e))) e c:=by
  rcases bk with bk|⟨b,ob,us,e1,n1,f1,r⟩
  ·exact .inl bk
  ·exact .inr ⟨b,ob,us,e1,n1,(aj n1).trans f1,r⟩
 refine⟨⟨I.ok.mod,I.ok.kind,I.ok.glob,I.ok.blt,I.ok.above,I.ok.inj,I.ok.has,I.ok.cab,.inr ⟨e,_,vs,c,rfl,af,rfl,h2,bk'⟩,I.ok.frames,I.ok.stk,I.ok.exf,λ b o q=>⟨(I.ok.bs b o q).1,?_⟩,I.ok.bsz,I.ok.noex,I.ok.exfs,I.ok.funs,λ b hb=>?_⟩,
  I.os,I.bare,⟨λ b o q z hb hx=>?_,λ b o q z hb hx=>?_,λ b o q z hx=>?_,I.base.there,λ b xs q=>?_,λ b o u q=>?_,λ b ps q=>?_⟩,I.loc,I.cell,?_,λ x c ec=>?_,λ p hp=>?_,λ a o q=>?_,I.len⟩
 ·show upd X.H₀ e _ b=none;rw [aj (WK b o q)];exact(I.ok.bs b o q).2
 ·show upd X.H₀ e _ b=none;rw [aj (WJ b hb)];exact I.ok.frf b hb
 ·have z':upd X.H₀ e (.frz (exO cls vs) (.own e)) b=none:=z;rw [aj (JM b o q)] at z';exact I.base.keep b o q z' hb hx
 ·have z':upd X.H₀ e (.frz (exO cls vs) (.own e)) b=none:=z;rw [aj (JM b o q)] at z';exact I.base.slot b o q z' hb hx
 ·have z':upd X.H₀ e (.frz (exO cls vs) (.own e)) b=none:=z;rw [aj (JM b o q)] at z' ⊢;exact I.base.free b o q z' hx
 ·have q':upd X.H₀ e (.frz (exO cls vs) (.own e)) b=some (.tup xs):=q;by_cases hb:b=e
  ·rw [hb,af] at q';cases q'
  ·rw [aj hb] at q' ⊢;exact I.base.tups b xs q'
 ·have q':upd X.H₀ e (.frz (exO cls vs) (.own e)) b=some (.frz o u):=q;by_cases hb:b=e
  ·rw [hb] at q' ⊢;rw [af] at q' ⊢;exact q'
  ·rw [aj hb] at q' ⊢;exact I.base.frzs b o u q'
 ·have q':upd X.H₀ e (.frz (exO cls vs) (.own e)) b=some (.tbl ps):=q;by_cases hb:b=e
  ·rw [hb,af] at q';cases q'
  ·rw [aj hb] at q' ⊢;exact I.base.tbls b ps q'
 ·show upd H e _ X.env.locals=none;rw [aj (B7 n.loc)];exact I.free
 ·rw [aj (n.cel x c ec)];exact I.freeC x c ec
 ·obtain⟨a1,a2,a3⟩:=I.pin p hp;exact⟨a1,by rw [aj (n.pin p hp)];exact a2,a3⟩
 ·by_cases ha:a=e
  ·subst ha;rw [af] at q;cases q;exact⟨g,_,g⟩
  ·rw [aj ha] at q;have nt:∀b u,H b=some u->b≠e:=λ b u r z=>by rw [z,n.h] at r;cases r
   exact(I.hok a o q).stay (λ b u _ r=>r) (λ b r=>by rw [aj (nt b _ r)];exact r) λ b xs r=>by rw [aj (nt b _ r)];exact r
def Inv.unhand {σ:St}{σ1:St}(I0:'b' s)(n:JK X F6 H e)(I:Inv (cxHand X e (upd X.H₀ e (.frz o (.own e)))) F6 σ1 H1 s1):Inv X F6 σ1 H1 s1:=by
 have JM:∀b u,X.s₀.heap.get? b=some u->b≠e:=λ b u q z=>by rw [z,n.s0] at q;cases q
 have tr:∀b,b≠e->(cxHand X e (upd X.H₀ e (.frz o (.own e)))).H₀ b=X.H₀ b:=λ b hb=>aj hb
 refine⟨I0.ok,I.os,I.bare,⟨λ b u q z hb hx=>I.base.keep b u q ((tr b (JM b u q)).trans z) hb hx,λ b u q z hb hx=>I.base.slot b u q ((tr b (JM b u q)).trans z) hb hx,λ b u q z hx=>I.base.free b u q ((tr b (JM b u q)).trans z) hx,I.base.there,λ b xs q=>?_,λ b u v q=>?_,λ b ps q=>?_⟩,I.loc,I.cell,I.free,I.freeC,I.pin,I.hok,I.len⟩
 ·refine I.base.tups b xs ((tr b λ z=>?_).trans q);have:=I0.base.tups b xs q;rw [z,n.h] at this;cases this
 ·refine I.base.frzs b u v ((tr b λ z=>?_).trans q);have:=I0.base.frzs b u v q;rw [z,n.h] at this;cases this
 ·refine I.base.tbls b ps ((tr b λ z=>?_).trans q);obtain⟨m,this⟩:=I0.base.tbls b ps q;rw [z,n.h] at this;cases this
def Inv.nameGoes {σ:St}(I:'b' s)(hN:X.N.Nodup)(hi:X.N[i]?=some y)(hl:X.env.scope.names.lookup y=some .local)
    (h:∀s',Inv X F6 (σ.set i none) H s'->Q () s'):wpAny M A (do bindName X.env y .none;unbindBehindTheSuite X.env y pos) Q E s:=by
  have Td:i<σ.length:=by rw [I.len];exact(Af.mp hi).1
  have Kg:(X.env.scope.kind== .class||(X.env.scope.kind== .module&&X.env.locals !=X.env.globals))=false:=by rw [I.ok.kind];rfl
  have hk:X.env.kindOf y=some .local:=hl
  refine Ab (wpAny_bindName (gE (v:=.non) I hN hi (.inl hl) rfl (λ s1 I1=>?_) (.inr hl)))
  unfold unbindBehindTheSuite
  refine wpAny_onRaise ?_
  unfold unbindName
  refine Ab (wpAny_point (Ab ?_))
  unfold deleteName
  simp only [hk,Kg]
  rw [AH Z9]
  obtain⟨m,hn,hm⟩:=id I1.loc
  obtain⟨u,ru,lk⟩:=hm i y .non hi (by rw [Ca Td]) (.inl hl)
  have hmy:m y=some u:=by
    rcases lk with⟨_,q⟩|⟨q,_⟩
    · exact q
    · rw [hk] at q
      rcases q with q|q<;>cases q
  refine Ab (wpAny_nsDel_keeps hn λ h2 v Jl Io=>?_)
  rw [hmy]
  simp only [if_true,Option.isSome_some,Bool.not_true,CH,if_false]
  refine AG (wpAny_point (h _ ?_))
  obtain⟨oL,_,_,SN,_⟩:=id hn
  have JM:∀b o,X.s₀.heap.get? b='g'->b≠X.env.locals:=λ b o e=>A7 (Ap (AA e) I1.ok.above)
  refine⟨I1.ok,I1.os,I1.bare,⟨λ b o e n hb hx=>(Io.2 b (JM b o e)).trans (I1.base.keep b o e n hb hx),λ b o e n hb hx=>?_,I1.base.free,λ b o e hx=>?_,I1.base.tups,I1.base.frzs,I1.base.tbls⟩,⟨_,Jl,λ j z v' e1 e2 e3=>?_⟩,λ z c e=>?_,I1.free,I1.freeC,λ p hp=>?_,λ b ob e=>?_,by simpa using I.len⟩
  · obtain⟨sl,e1⟩:=I1.base.slot b o e n hb hx
    exact⟨sl,(Io.2 b (JM b o e)).trans e1⟩
  · obtain⟨o',e1⟩:=I1.base.there b o e hx
    exact⟨o',(Io.2 b (JM b o e)).trans e1⟩
  · have hj:j≠i:=λ q=>by rw [q,Ca Td] at e2;cases e2
    rw [CM (B7 hj)] at e2
    obtain⟨u',r',q⟩:=hm j z v' e1 (by rw [CM (B7 hj)];exact e2) e3
    refine⟨u',r',?_⟩
    rcases q with⟨kk,e⟩|⟨kk,c,e,zz⟩
    · refine .inl ⟨kk,?_⟩
      have:z≠y:=λ q=>hj (iO hN e1 (q▸hi))
      simp [this,e]
    · exact .inr ⟨kk,c,e,zz.sameBut Io (I1.cne z c e)⟩
  · obtain⟨w',q⟩:=I1.cell z c e
    exact⟨w',q.sameBut Io (I1.cne z c e)⟩
  · obtain⟨e,n,ne,nf,d⟩:=I1.pin p hp
    exact⟨(Io.2 p.1 ne).trans e,n,ne,nf,d⟩
  · refine(I1.hok b ob e).stay (λ c w' hc q=>(Io.2 c λ z=>?_).trans q) (λ _ q=>q) λ _ _ q=>q
    rcases hc with hc|hc
    · rw [<-hc,z,I1.free] at e;cases e
    · rw [z,I1.free] at hc;cases hc
def Dx (i:Nat)(D:Ends):Ends:=⟨λ σ H=>D.nx (σ.set i none) H,D.rt,λ σ H=>D.bk (σ.set i none) H,λ σ H=>D.ct (σ.set i none) H⟩
def zC (K:Frag)(D0:FR)(i:Nat)(tb:St->XK->TS)(th:TS):TS:=λ D σ H=>
 tb σ (λ cls _ H'=>∃C,cls=.ref C/\ExC K C/\C≠D0/\mroIn K C (.ref D0)=some true/\
  ∀e vs,H' e=none->th (Dx i D) (σ.set i ↑e) (upd H' e (.frz (exO (.ref C) vs) (.own e)))) D σ H
def oq {s:FT}(HY:X.stack=X.env::X.outer)(Je:X.env.frame=some X.env.locals)(hX:X.ex=[])
  (hb:PSs (ma X (X.pn++F6) σ W D') body tb) (I:'b' s) (h:tb D σ H)
  (k:∀(ea T:FR) (cls c:FS) (H':Hp) (s1:FT) (vs ts:Array FS) (oT:F1),D' c->OL H' ea c->(∀b,c=.ref b->M3 X F6 b)->W cls none H'->Jn s1.heap ea cls [ea,T] c->Inv X F6 σ H' s1->JK X F6 H' ea->JK X F6 H' T->s1.heap.get? ea=some (exO cls vs)->(vs[2]?=some c/\6≤vs.size)->vs[1]?=↑T->T≠ea->s1.heap.get? T=some oT->oT.data=.fields ts->ts[3]?=some Value.none->wpAny 'd' X.A (handleBy (.ref ea) X.env (h₀::hs)) (SP X F6 D) X.xe s1):
  wpAny 'd' X.A (exec (.Try body (h₀::hs) [] [] pos) X.env) (SP X F6 D) X.xe s:=by
 refine wpAny_Try_except (Br (hb [] s σ H D (I.lift _) h) (λ f s1 q=>?_) λ e s1 q=>?_)
 ·have q':SP X F6 D f s1:=SP.unlift q;cases f with
  |next=>exact DI q'
  |brk=>exact q'
  |cont=>exact q'
  |ret u=>exact q'
 ·obtain⟨ea,cls,fp,H',rfl,I1,⟨c,dc,F,bk,bn⟩,fr,q⟩:=q;have I1:Inv X F6 σ H' s1:=Inv.unlift I1;have fr:∀b∈fp,JK X F6 H' b:=λ b hb=>let n:=fr b hb;⟨n.s0,n.h,n.loc,n.cel,λ p hp=>n.pin p (by simpa using hp)⟩
  have hf:X.A.frames=some (X.env::X.outer):=HY▸I1.ok.frames;refine land hf (HY▸I1.stack) Je F λ h' T F' hT f3 f4 f5=>?_
  obtain⟨vs,ge,z2,⟨_,r⟩|⟨T',oT,ts,v1,neT,gT,dT,zT,r⟩⟩:=id F'
  ·cases r
  ·cases r;exact k ea T cls c H' _ vs ts oT dc bk (λ b e=>let n:=bn b e;⟨n.s0,n.loc,n.cel,λ p hp=>n.pin p (by simpa using hp)⟩) q F' (I1.landed fr (by rw [HY];exact f3) f4 f5) (fr ea F.here) (I1.new (by
    cases z:s1.heap.get? T with
    |none=>rfl
    |some o=>exact absurd (Ap (AA z) hT) (BK _)) (I1.hok.fresh hT) (by rw [hX];simp)) ge z2 v1 neT gT dT zT
def uq {x y:Str}{i:Nat}{D0:FR}(hN:X.N.Nodup)(hi:X.N[i]?=some y)(hl:X.env.scope.names.lookup y=some .local)
  (hg:Gl X x) (hm:X.mg x=↑D0) (hD:ExC X.K D0) (HY:X.stack=X.env::X.outer) (Je:X.env.frame=some X.env.locals) (hX:X.ex=[])
  (hb:∀pn σ0 E,PSs (ma X pn σ0 E) body (tb σ0 E)) (hh:∀e G,PSs (cxHand X e G) (b₀::NY) th) (hd:'e'):
  PS X (.Try body [.ExceptHandler (some (.Name x np)) (some y) (b₀::NY) Ij] [] [] pos) (zC X.K D0 i tb th):=by
 intro F6 s σ H D I h;refine oq HY Je hX (hb (X.pn++F6) σ _) I h ?_;rintro ea T _ c H' s1 vs ts oT-bk bn ⟨C,rfl,cC,Hx,Lx,q⟩ F' I2 nE nT ge z2-neT- - -;have q:=q ea vs nE.h;obtain⟨G,RT,X9,Vh⟩:=I2.ready ⟨bk,bn⟩;have Q7:JK {X with H₀:=G} F6 H' ea:=⟨nE.s0,nE.h,nE.loc,nE.cel,nE.pin⟩;have I3:=RT.hand Q7 ge z2 X9;have uh:∀σ6 H6 s6,Inv (cxHand X ea (upd G ea (.frz (exO (.ref C) vs) (.own ea)))) F6 σ6 H6 s6->Inv X F6 σ6 H6 s6:=λ _ _ _ z=>Vh _ _ _ (Inv.unhand RT Q7 z)
 generalize hG3:upd G ea (.frz (exO (.ref C) vs) (.own ea))=G3 at*;generalize Rx:upd H' ea (.frz (exO (.ref C) vs) (.own ea))=H3 at*;refine Fd (EM (cu I3 hg hm ?_ hd)) (by intro q;cases q);obtain⟨bm,N,nm,qn,bs,hdct,sn,sub,ab,col,dd,k0,k1,k2,k3,k5,Xf,Xs,_⟩:=eD cC;obtain⟨QD,N',WE,qn',X7,N2,Wr,QH,Ya,QV,P0,j0,j1,j2,j3,j5,SV,_,Tp⟩:=eD hD;have NV:(Value.ref C::bm).contains (.ref D0)=true:=by
  unfold mroIn at Lx;rw [Xs] at Lx;simpa using Lx
 have T':=(Tp _ I2.kIn).2;obtain⟨Xl,gg,dr,tk,Wv⟩:=s1;refine ni (I2.kIn C _ Xf) (I2.kIn D0 _ SV) ge rfl (T'.hasType Z8) NV Hx (codeAny_handlers_suite_as ?_);refine jy F' λ h4 F4 k4=>?_
 have WQ:JK (cxHand X ea G3) F6 H3 T:=⟨nT.s0,by rw [<-Rx,aj neT];exact nT.h,nT.loc,nT.cel,nT.pin⟩;have I4:=I3.landed (λ b hb=>by rw [As] at hb;rw [hb];exact WQ) (λ b o g hb _=>k4 b o g λ z=>hb (by simp [z])) (λ b o g hb=>⟨o.slots,k4 b o g λ z=>hb (by simp [z])⟩) (λ b o g=>by
  by_cases hb:b=T
  ·obtain⟨o',us,g',_⟩:=F4.rec T Z6;exact⟨o',by rw [hb];exact g'⟩
  ·exact⟨o,k4 b o g hb⟩)
 refine gE (X:=cxHand X ea G3) (v:=.ref ea) I4 hN hi (.inl hl) rfl (λ s5 I5=>?_) (.inr hl);refine Br (hh ea G3 F6 s5 _ H3 (Dx i D) I5 q) (λ f s6 q6=>?_) λ _ _ z=>False.elim z
 cases f with
 |next=>
  obtain⟨σ6,H6,I6,q7⟩:=q6;exact(uh _ _ _ I6).nameGoes hN hi hl λ s' I8=>⟨_,_,I8,q7⟩
 |brk=>
  obtain⟨σ6,H6,I6,q7⟩:=q6;exact(uh _ _ _ I6).nameGoes hN hi hl λ s' I8=>⟨_,_,I8,q7⟩
 |cont=>
  obtain⟨σ6,H6,I6,q7⟩:=q6;exact(uh _ _ _ I6).nameGoes hN hi hl λ s' I8=>⟨_,_,I8,q7⟩
 |ret u=>
  obtain⟨v,σ6,H6,I6,r,q7⟩:=q6;exact(uh _ _ _ I6).nameGoes hN hi hl λ s' I8=>⟨v,_,_,I8,r,q7⟩
def Ge.hand (r:Ge k A)(h:j≤k)(h30:j<30):Ge j (A.mark v):=
 ⟨λ z=>absurd z (Nat.not_le.mpr h30),by have:=r.dp;show A.depth+_+5<_;lia,by have:=r.un;show A.units+_+200<_;lia,r.gd⟩
structure ExI (K:Frag)(C:FR):Prop where
 ga:findIn K (.ref C) "__getattribute__"=some (some (.builtin "BaseException.__getattribute__"))
 gt:findIn K (.ref C) "__getattr__"=some none
 hd:hasDictIn K C=true
 ha:findIn K (.ref C) "__class__"=some (some (.builtin "object.__class__"))
 hn:specialIn K (.builtin "object.__class__") "__get__"=some (some (.builtin "getset_descriptor.__get__"))
 htk:takesIn K (.builtin "object.__class__")=some true
 hm:mroIn K C (.type "object")=some true
 be:mroIn K C (.type "BaseException")=some true
def sZ {os:OsState}(L:Looks M h (isInstance (.ref x) (.type "BaseException")) true)
  (hq:Q () ⟨h,g,d,t,os⟩):wpAny M A (checkBuiltinCall "BaseException.__getattribute__" ⟨[.ref x,nv],[]⟩) Q E ⟨h,g,d,t,os⟩:=by
 have hk:builtinKind "BaseException.__getattribute__"=some .slot:=Z8;have LM:splitId "BaseException.__getattribute__"=some ("BaseException","__getattribute__"):=Z8;have ha:=PySem.F.args_bexc_ga (.ref x) nv;simp only [checkBuiltinCall,hk,LM];refine Ab (L.at ?_)
 repeat (first|exact hq|wp_step)
def uC {os:OsState}{K:Frag}(Y:K.In h)(I:InstAt h x ox C none)
  (L3:Looks 'l' h (Builtin.ObjectAttr.find (.ref x) (.ref C) "__class__") (.bind (.builtin "getset_descriptor.__get__") (.builtin "object.__class__"))) (hm:mroIn K C (.type "object")=some true)
  (hq:Q (.done (.ret (.ref C))) ⟨h,g,d,t,os⟩):wpAny 'l' A (Builtin.«object.__getattribute__» ⟨[.ref x,.str "__class__" tk],[]⟩) Q E ⟨h,g,d,t,os⟩:=by
 have L0:=I.type (M:=model prog w);refine Ab (Ab (AG (AG ?_)));refine Ab (AG (Ab (L0.at (Ab (L3.at ?_)))));show wpAny _ _ (holding [Value.builtin "object.__class__"] (call (.builtin "getset_descriptor.__get__") [.builtin "object.__class__",.ref x,.ref C])>>= ret) _ _ _;exact Ab (BI (Ec (PySem.W.class_get Y I hm (AG hq))))
def rX {K:Frag}(c:ExI K C)(Y:K.In s.heap)(I:InstAt s.heap x ox C none)
  (h:Q ↑C {s with toks:=s.toks+1}):wpAny (model prog w) A (getAttr? (.ref x) "__class__") Q E s:=by
 have hf:findObj K C none "__class__"=some (.bind (.builtin "getset_descriptor.__get__") (.builtin "object.__class__")):=by
  obtain⟨cd,hc,_⟩:=EV c.hd;unfold findObj;rw [hc,Option.bind_some,c.ha,Option.bind_some];simp [c.hn,c.htk]
 obtain⟨hh,g,d,t,os⟩:=s;have L0:=I.type (M:=model prog w);have L1:=DS (M:=model prog w) Y c.ga;have L2:=DS (M:=model prog w) Y c.gt;have L3:=PySem.W.looks_find (M:=model prog w) Y I hf;have L4:=PySem.W.looks_mroIn (M:=model prog w) Y c.be;unfold getAttr? getAttrBy? getAttrBy;refine Ab (wpAny_mkText (Ab (CO (BI (Ab (L0.at (Ab (L1.at ?_))))))));show wpAny _ _ (getAttrByItsOwn _ _ _ _ _ _) _ _ _;unfold getAttrByItsOwn;refine Ab (show wpAny _ _ (typeLookup (.ref C) "__getattr__") _ _ _ from L2.at ?_);refine Ab (CO (BI ?_));show wpAny _ _ (boundAndCalled _ _ _) _ _ _;unfold boundAndCalled;refine Ab (wpAny_of_eq (PySem.F.attr_ValueError.ga.bind _) ?_);refine Ec (codeAny_call_builtin PySem.F.attr_ValueError.ga.plain PySem.F.entry_bexc_ga ?_);refine sZ (L0.andThen L4) (uC Y I L3 c.hm ?_);show wpAny _ _ (handedOut (.ref C)) _ _ _;exact AG (AG h)
def uZ {K:Frag}(c:ExI K C):KitX K (.ref x) (.ref C) (λ h=>InstAt h x (exO (.ref C) vs) C none) where
 ty:=λ _ _ _ I=>I.type
 it:=λ M h Y _=>by
  obtain⟨cd,hc,_⟩:=EV c.hd;unfold clsIn at hc
  split at hc
  ·rename_i ho
   intro A' Q' E' s' k q;unfold isType loadHead;exact Ab (wpAny_loadPart (k _ _ (Y _ _ ho)) (AG q))
  ·cases hc
 ne:=λ h tp dd Gd n sl Y WZ=>by
  obtain⟨cd,hc,_⟩:=EV c.hd;refine Bool.eq_false_iff.mpr λ q=>?_
  have e:C=tp:=Value.ref.inj (Ed.mp q);subst e;unfold clsIn at hc
  split at hc
  ·rename_i ho
   have z:=(Y _ _ ho).symm.trans WZ;cases z
  ·cases hc
 ca:=λ Y I k=>rX c Y I k
noncomputable def zk:FS->V
 | .ref a=>.ref a
 | .type n=>.ty n
 |_=>.non
def jM:dU X (.builtin "isinstance") (λ xs H Q=>∃a C vs c b,xs=[.ref a,zk c]/\(∃n,c=.ref n\/∃t,c=.type t)/\H a=some (.frz (exO (.ref C) vs) (.own a))/\ExI X.K C/\kitOne X.K (.ref C) c=some b/\Q (.bl b) H):=by
 intro F6 s σ H xs us Q I r h;obtain⟨a,C,vs,c,b,rfl,hc,hf,ci,e,q⟩:=h;obtain⟨u,v,rfl,ru,rv⟩:=pp r;cases ru;have ev:v=c:=by
  obtain⟨n,hc|⟨t,hc⟩⟩:=hc
  ·subst hc;exact rv
  ·subst hc;exact rv
 subst ev;obtain⟨g,_⟩:=I.hok a _ hf;exact B0 (uZ ci) I.kIn ⟨g,rfl,rfl,trivial⟩ e (λ z=>nomatch z) λ tk=>⟨.bl b,H,I.tok tk,rfl,q⟩
def jc {K:Frag}{g:TG}{tt:TT}{te:TE}{R:Hp->Prop}(Pv:Nat->List V->Hp->Prop)(h0:Pv 0 [] (upd H1 l (.lst [])))(hl:∀i ys H,i≤xs.length->Pv i ys H->Gf K H a xs)
  (hs:∀i x ys σ H,xs[i]?=some x->Pv i ys H->σ.length=n->g x σ H λ σ3 H3=>tt σ3 H3 λ c H5=>if c=true then te σ3 H5 λ y H4=>H4 l=↥ys/\ys.length<sizeLine/\σ3.length=n/\Pv (i+1) (ys++[y]) (upd H4 l (.lst (ys++[y]))) else σ3.length=n/\Pv (i+1) ys H5)
  (hd:∀ys H,Pv xs.length ys H->R H) (mg:∀x σ H (A B:St->Hp->Prop),(∀σ' H',A σ' H'->B σ' H')->g x σ H A->g x σ H B) (Sv:∀σ H (A B:Bool->Hp->Prop),(∀v H',A v H'->B v H')->tt σ H A->tt σ H B) (mt:∀σ H (A B:VK),(∀v H',A v H'->B v H')->te σ H A->te σ H B):
  ∃W:Nat->Nat->List V->St->Hp->Prop,(∃m,W 0 m [] (List.replicate n none) (upd H1 l (.lst [])))/\∀i m ys σ' H',W i m ys σ' H'->
   ((L7 K a).stop i H'/\R H')\/((L7 K a).go i H'/\∀x H2,(L7 K a).yld i H' x H2->g x σ' H2 λ σ3 H3=>tt σ3 H3 λ c H5=>if c=true then te σ3 H5 λ y H4=>
    H4 l=↥ys/\ys.length<sizeLine/\∃m',m'<m/\W (i+1) m' (ys++[y]) σ3 (upd H4 l (.lst (ys++[y]))) else∃m',m'<m/\W (i+1) m' ys σ3 H5):=by
 refine⟨λ i m ys σ H=>m=xs.length-i/\i≤xs.length/\σ.length=n/\Pv i ys H,⟨xs.length,Z6,A1 _,Al,h0⟩,?_⟩;rintro i m ys σ H ⟨rfl,hi,hn,p⟩;have q:=hl i ys H hi p;by_cases F9:i<xs.length
 ·refine .inr ⟨⟨xs,xs[i],q,by simp [F9]⟩,λ x H' y=>?_⟩;obtain⟨e,y⟩:=y;subst e;refine mg _ _ _ _ _ (λ σ3 H3 z=>Sv _ _ _ _ (λ c H5 z=>?_) z) (hs i x ys σ _ (y xs q) p hn);cases c with
  |true=>
   rw [AK rfl] at z ⊢;exact mt _ _ _ _ (λ y H4 z9=>by obtain⟨z1,z2,z3,z4⟩:=z9;exact⟨z1,z2,xs.length-(i+1),Bs _ _ F9,rfl,F9,z3,z4⟩) z
  |false=>
   rw [AH Ax] at z ⊢;exact⟨xs.length-(i+1),Bs _ _ F9,rfl,F9,z.1,z.2⟩
 ·have e:i=xs.length:=A8 hi (Nat.not_lt.1 F9);subst e;exact .inl ⟨⟨xs,q,Ak _⟩,hd ys H p⟩
def tT (A)(s)(a)(t)(c)(u):SeqAt.EqAt A s (.str a t) (.str c u) (a==c):=by
 first|exact SeqAt.EqAt.str_str a t c u|exact(MeetsSeq.EqGives.str_str a t c u).at A s
def qr (hu:X.A.units<cLine):Ig X (compareOp .Eq) (λ x y H Q=>∃(p q:FR) (a b:List Str),x=.ref p/\y=.ref q/\GF X.K H p (a.map V.str)/\GF X.K H q (b.map V.str)/\Q (.bl (decide (a=b))) H):=by
 intro F6 s σ H x y v u Q I rx ry h;obtain⟨p,q,a,b,rfl,rfl,h1,h2,k⟩:=h;cases rx;cases ry;obtain⟨Gd,rv,pl,hz⟩:=I.tuple h1;obtain⟨II,Si,Wu,hz2⟩:=I.tuple h2;have l1:=rv.length;have l2:=Si.length;rw [Aa] at l1 l2;refine SeqAt.eq_tupleAt (e:=λ j=>a[j]?==b[j]?) (show s.heap.IsTuple p Gd.toArray from pl) (show s.heap.IsTuple q II.toArray from Wu) hu (λ j h1 h2=>?_) ?_
 ·have j1:j<a.length:=by simp at h1;omega
  have j2:j<b.length:=by simp at h2;omega
  obtain⟨u1,e1,t1,r1⟩:=rv.get (i:=j) (x:=V.str a[j]) (by simp [j1]);obtain⟨u2,e2,t2,r2⟩:=Si.get (i:=j) (x:=V.str b[j]) (by simp [j2]);subst r1 r2;have g1:Gd.toArray[j]=Value.str a[j] t1:=by
   have:=Af.mp e1;obtain⟨_,z⟩:=this;simpa using z
  have g2:II.toArray[j]=Value.str b[j] t2:=by
   have:=Af.mp e2;obtain⟨_,z⟩:=this;simpa using z
  rw [g1,g2];have:=tT X.A.in1 s a[j] t1 b[j] t2;simpa [j1,j2] using this
 ·refine⟨.bl _,H,I,?_,k⟩;show Value.bool _=Value.bool _;congr 1;simp only [AC,<-l1,<-l2];rw [Er];simp only [D1,ES,C7,beq_iff_eq,decide_eq_true_eq];constructor
  ·rintro⟨h1,h2⟩;refine B5 λ j=>?_
   by_cases hj:j<a.length
   ·exact h1 j Z4
   ·rw [A4 Z4,A4 Z4]
  ·rintro rfl;exact⟨λ _ _=>rfl,rfl⟩
end L2
namespace L2
open PySem
def xr {dV kV doc pm F8 ct oc:FS}
    (lk:K.lookup f=some ⟨oc,od,.func (fnOf name qual params body scope dV kV doc pm an F8 ct),osl⟩) (Jm:codeIn K F8 qual=true) (S:y' N ps scope)
  (len:∀vs H Q E,sp vs H Q E->vs.length=ps.length)
  (Jt:∀(A:FX) (outer:List Env) (s:FT) (H:Hp) (vs:List V) (Q:VK) (E:XK),sp vs H Q E->
   ∃t,PSs (cxOf CX P w K mg base N qual scope f F8 A outer s H E) body t/\t {nx:=λ _ H'=>Q .non H',rt:=Q} (start N vs) H):
  Gb P w K mg base CX 0 f (fnOf name qual params body scope dV kV doc pm an F8 ct) ps sp:=by
 refine⟨len,λ A outer s H args us vs Q E hr e0 hb r JN=>?_⟩;have hl:=len _ _ _ _ JN;have KX:K.In s.heap:=e0.mod.kin.keeps λ b o e=>(e0.bs b o e).1
 have lim:s.heap.NoLimit:=e0.mod.nolimit.keeps λ b o e=>(e0.bs b o e).1
 have Hm:∀y∈ps.zip us,scope.names.lookup y.1=some .local\/(scope.names.lookup y.1=some .cell/\((cellsFrom (s.heap.objs.size+1) scope.names []).lookup y.1).isSome=true):=λ⟨n,v⟩ hy=>by
  rcases S.par n (En hy).1 with q|q
  ·exact .inl q
  ·exact .inr ⟨q,Ez _ _ _ (.inl q)⟩
 refine codeAny_call_function hr.depth (KX _ _ lk) rfl S.co S.gen rfl (codeRec_of KX Jm) (hb _ _ _ _ ?_);refine wpAny_newFunctionEnv_cells S.kind Hm λ env he s1 x=>?_
 subst he;refine⟨lim.keeps x.toInCall.keep,codeAny_func ?_⟩;obtain⟨t,ht,hq⟩:=Jt A outer s H vs Q E JN;have I:Inv (cxOf CX P w K mg base N qual scope f F8 A outer s H E) [] (start N vs) H s1:=j7 S e0 hl r x;refine Br (ht [] s1 (start N vs) H _ I hq) (λ fl s' hs=>?_) λ e s' hs=>hs
 have fin:∀{σ'} {H'} {v} {u},Inv (cxOf CX P w K mg base N qual scope f F8 A outer s H E) [] σ' H' s'->RelV v u->Q v H'->CE outer P w H s Q u s':=
  λ {σ' H' v u} J rv q=>⟨v,H',J.os,J.bare,J.base,J.hok,rv,q⟩
 cases fl with
 |ret u=>
  obtain⟨v,σ',H',J,rv,q⟩:=hs;exact fin J rv q
 |next=>
  obtain⟨σ',H',J,q⟩:=hs;exact fin (v:=V.non) J rfl q
 |brk=>
  obtain⟨_,_,_,q⟩:=hs;exact False.elim q
 |cont=>
  obtain⟨_,_,_,q⟩:=hs;exact False.elim q
def Hb.ok0 (F:Hb K x qual st f fd)(S:y' N ps (am st))
  (Jt:∀(F8:FS) (A:FX) (outer:List Env) (s:FT) (H:Hp) (vs:List V) (Q:VK) (E:XK),sp vs H Q E->
   let X:=(cxOf Gn P w K mg base N qual (am st) f F8 A outer s H E).nox;∃t,PSs X (bj st) t/\t {nx:=λ _ H'=>Q .non H',rt:=Q} (start N vs) H) (len:autoParam (∀vs H Q E,sp vs H Q E->vs.length=ps.length) ZV):'a' Gn 0 f fd ps sp:=by
 obtain⟨oc,od,kV,doc,pm,an,F8,ct,osl,rfl,lk,Jm⟩:=F.ex;refine xr lk Jm S len λ A outer s H vs Q E JN=>?_
 obtain⟨t,h,q⟩:=Jt F8 A outer s H vs Q E JN;exact⟨t,h.nox,q⟩
end L2
namespace L2
open PySem PySem.Spec PyProof.Rows QQ
def aw (h:∀R:St->Hp->Prop,(∀σ H,u D σ H->R σ H)->t {D with nx:=R} σ H):yS t u D σ H:=h (u D) λ _ _ z=>z
def je {K:Frag}(hK:X.K=K):T3 X (KH K):=by
 subst hK;exact aW
def nj (xs)(k:Nat):cutV xs none (some (k:Int))=xs.take k:=by
 unfold cutV;rw [HT.K8,HT.HP,EH,Nat.sub_zero];by_cases h:k≤xs.length
 ·rw [Bu h]
 ·rw [CJ (EW h),AT,A3 (EW h)]
def uF (xs)(k:Nat):cutV xs (some (k:Int)) none=xs.drop k:=by
 unfold cutV;rw [HT.K8,HT.HP];by_cases h:k≤xs.length
 ·rw [Bu h,<-Au,AT]
 ·rw [CJ (EW h),FE,List.drop_of_length_le (EW h),List.take_nil]
def dG {a x:Str}{b c:FR}(h:List.lookup x [(a,b)]=some c):x=a/\c=b:=by
 rw [List.lookup_cons] at h;cases hx:x==a with
 |true=>rw [hx] at h;exact⟨eq_of_beq hx,(AJ h).symm⟩
 |false=>rw [hx] at h;cases h
def none_of (s:C' H H')(h:H' q=none):H q=none:=by
 cases e:H q with
 |none=>rfl
 |some o=>rw [s _ _ e] at h;cases h
def ak (h:H p=none):C' H (upd H p o):=λ b u e=>by
 rw [aj (ai e h)];exact e
def sK:∀x,flatV x=true->OI x x=true:=by
 intro x h;cases x<;>simp [flatV,OI] at h ⊢
def kP (hb:PSs X.nox body tb):PS X (.Try body (h₀::hs) [] [] pos) tb:=by
 intro F6 s σ H D I h;refine wpAny_Try_except (Br (hb F6 s σ H D (I.wish _) h) (λ f s1 q=>?_) λ e s1 q=>q.elim);have q':SP X F6 D f s1:=SP.unwish q;cases f with
 |next=>exact DI q'
 |brk=>exact q'
 |cont=>exact q'
 |ret u=>exact q'
end L2
namespace QQ
open PySem PyProof.Rows
def lu {items}(hq:Hq A s.heap)
  (hit:s.heap.IsListIter it l i) (hl:s.heap.IsList l items) (hx:items[i]?=none)
  (hE:∀h' e,Heap.ExtBut it s.heap h'->(∃o,h'.get? e='g'/\o.cls=.type "StopIteration")->E (.ref e) {s with heap:=h'}):
  wpAny 'l' A (Builtin.SmallTypes.nextOf (.ref it)) Q E s:=by
 obtain⟨o,ho,hc,hd⟩:=id hit;obtain⟨ol,Rl,_,nl,Tt⟩:=hl;unfold Builtin.SmallTypes.nextOf;refine Ab (B8 hit.typeIs Ew (CW Ew hit.typeIs entry_listiter_next ?_ (args_listiter_next _)));show wpAny _ _ (field (.ref it) 0>>= _) _ _ s;refine Ab (A6 ho hd rfl ?_);show wpAny _ _ (if(Value.ref l==Value.none)=true then _ else _) _ _ s;rw [AH (show¬((Value.ref l==Value.none)=true) from Ax)];show wpAny _ _ (field (.ref it) 1>>= _) _ _ s;refine Ab (A6 ho hd rfl ?_);show wpAny _ _ (seqItems? (.ref l)>>= _) _ _ s;refine Ab (wpAny_seqItems Rl Tt ?_);simp only [AM,hx];refine Ab (Ea (Ab (BC ho hd Z6 ?_)));have LS:=B1 (h:=s.heap) it (Obj.mapFields (·.setIfInBounds 0 Value.none));refine cW (hq.keep λ a o' us e d' z'=>LS.extBut a o' (ja ho hd Z6 e d' z') e) λ h' e k he=>?_
 exact hE _ e (λ b ob hb e1=>k b ob (LS.extBut b ob hb e1)) he
end QQ
namespace L2
open PySem PySem.Spec PyProof.Rows QQ
inductive L8 (K:Frag) (x:V) (y:V) (H:Hp) (Q:VK):Prop
 |mk (p:_) (q:_) (xs:_) (h0:x=.ref p) (h1:y=.ref q) (h2:GF K H p xs) (h3:GF K H q xs) (h4:xs.all flatV=true) (h5:Q (.bl false) H):L8 K x y H Q
def gM (hu:X.A.units+64<cLine):Ig X (compareOp .NotEq) (L8 X.K):=by
 intro F6 s σ H x y v u Q I rx ry h;obtain⟨p,q,xs,rfl,rfl,ha,hb,fl,k⟩:=h;cases rx;cases ry;obtain⟨Gd,rv,pl,hz⟩:=I.tuple ha;obtain⟨II,Si,Wu,hz2⟩:=I.tuple hb;have l1:=rv.length;have l2:=Si.length;refine SeqAt.RcNeAt.tuples (e:=λ _=>true) (show s.heap.IsTuple p Gd.toArray from pl) (show s.heap.IsTuple q II.toArray from Wu) Z4 (λ j h1 h2=>?_) _ _ _ _ ?_
 ·have j1:j<xs.length:=by simp at h1;omega
  obtain⟨u1,e1,r1⟩:=rv.get (i:=j) (x:=xs[j]) (by simp [j1]);obtain⟨u2,e2,r2⟩:=Si.get (i:=j) (x:=xs[j]) (by simp [j1]);have g1:Gd.toArray[j]=u1:=by
   obtain⟨_,z⟩:=Af.mp e1;simpa using z
  have g2:II.toArray[j]=u2:=by
   obtain⟨_,z⟩:=Af.mp e2;simpa using z
  have f1:flatV xs[j]=true:=ES.mp fl _ (BL j1);rw [g1,g2,<-sK _ f1];exact tZ r1 r2 f1 f1
 ·refine⟨.bl false,H,I,?_,k⟩;show Value.bool _=Value.bool _;congr 1;rw [AC,AC,<-l1,<-l2];simp
end L2
namespace QQ
open PySem PyProof.Rows
def Lf (hq:Hq A s.heap)
  (hit:s.heap.IsStrIter it "str_ascii_iterator" x t i) (hx:x.cps[i]?=none)
  (hQ:∀h',Heap.ExtBut it s.heap h'->Q none {s with heap:=h'}):wpAny (model prog w) A (pyNext (.ref it)) Q E s:=by
 obtain⟨o,ho,hc,hd⟩:=id hit;unfold pyNext;refine Ab (CO (B8 hit.typeIs F.slot_str_ascii_iterator_next
  (CW F.slot_str_ascii_iterator_next hit.typeIs F.entry_str_ascii_iterator_next ?_ (F.args_str_ascii_iterator_next_1 _))))
 show wpAny _ _ (field (.ref it) 0>>= _) _ _ s;refine Ab (A6 ho hd rfl ?_);show wpAny _ _ (field (.ref it) 1>>= _) _ _ s;refine Ab (A6 ho hd (x:=.int i 0) rfl ?_);simp only [AM,hx];refine Ab (Ea (Ab (BC ho hd Z6 (Ab (wpAny_letGo ?_)))));have LS:=B1 (h:=s.heap) it (Obj.mapFields (·.setIfInBounds 0 Value.none));refine cW (hq.keep λ a o' us e d' z'=>LS.extBut a o' (ja ho hd Z6 e d' z') e) λ h' e k z9=>?_
 obtain⟨o',ge,ce⟩:=z9;refine Ab (Dv ⟨_,ge,ce⟩ DX ?_);exact AG (hQ _ λ b ob hb e1=>k b ob (LS.extBut b ob hb e1))
def LN (hq:Hq A s.heap)
  (hit:s.heap.IsStrIter it "str_iterator" x t i) (hx:x.cps[i]?=none)
  (hQ:∀h',Heap.ExtBut it s.heap h'->Q none {s with heap:=h'}):wpAny (model prog w) A (pyNext (.ref it)) Q E s:=by
 obtain⟨o,ho,hc,hd⟩:=id hit;unfold pyNext;refine Ab (CO (B8 hit.typeIs F.slot_str_iterator_next
  (CW F.slot_str_iterator_next hit.typeIs F.entry_str_iterator_next ?_ (F.args_str_iterator_next_1 _))))
 show wpAny _ _ (field (.ref it) 0>>= _) _ _ s;refine Ab (A6 ho hd rfl ?_);show wpAny _ _ (field (.ref it) 1>>= _) _ _ s;refine Ab (A6 ho hd (x:=.int i 0) rfl ?_);simp only [AM,hx];refine Ab (Ea (Ab (BC ho hd Z6 (Ab (wpAny_letGo ?_)))));have LS:=B1 (h:=s.heap) it (Obj.mapFields (·.setIfInBounds 0 Value.none));refine cW (hq.keep λ a o' us e d' z'=>LS.extBut a o' (ja ho hd Z6 e d' z') e) λ h' e k z9=>?_
 obtain⟨o',ge,ce⟩:=z9;refine Ab (Dv ⟨_,ge,ce⟩ DX ?_);exact AG (hQ _ λ b ob hb e1=>k b ob (LS.extBut b ob hb e1))
end QQ
namespace L2
open PySem PySem.Spec PyProof.Rows
def RS (x:Str):It:=⟨λ i _=>i<x.cps.size,λ i H y H'=>H'=H/\∃c,x.cps[i]?=some c/\y=.str ⟨#[c]⟩,λ i _=>x.cps.size≤i⟩
def oX {K:Frag}(it)(x)(t):Turn P w K tg (RS x) [it] it (λ i h=>h.IsStrIter it "str_ascii_iterator" x t i) where
 mem:=Z6
 obj:=λ i h st b hb=>by
  have e:b=it:=by simpa using hb
  subst e;obtain⟨o,e,c,d⟩:=st;exact⟨o,e,λ v z=>by rw [d] at z;cases z⟩
 keep:=λ i h h' st k=>let⟨o,ho,r⟩:=st;⟨o,k it Z6 o ho,r⟩
 item:=by
  intro 'c';have OY:i<x.cps.size:=hg;obtain⟨f0,f1,f2,f3,f4,f5⟩:=hf it Z6;refine wpAny_pyNext_ascii_item st (c:=x.cps[i]) (by simp [OY]) λ h' Gv sb=>?_
  have I1:'b' {s with heap:=h',toks:=s.toks+1}:=I.turned (λ b o hb e=>sb.extBut b o hb e) f0 f1 f3 f4 f5;obtain⟨o,e,c,d⟩:=id Gv;exact⟨_,rfl,jP e c d Z9 ⟨.str ⟨#[x.cps[i]]⟩,H,I1,⟨s.toks,rfl⟩,⟨rfl,_,by simp [OY],rfl⟩,Gv,λ b hb=>(hf b hb).1⟩⟩
 done:=by
  intro 'c';have OY:x.cps.size≤i:=hg;obtain⟨f0,f1,f2,f3,f4,f5⟩:=hf it Z6;exact QQ.Lf I.hq st (by simp [OY]) λ h' eb=>⟨rfl,I.turned (λ b o hb e=>eb b o hb e) f0 f1 f3 f4 f5⟩
 self:=λ _ _ _ _ _ st h=>wpAny_pyIter_striter_ascii st h
def rB {K:Frag}(it)(x)(t):Turn P w K tg (RS x) [it] it (λ i h=>h.IsStrIter it "str_iterator" x t i) where
 mem:=Z6
 obj:=λ i h st b hb=>by
  have e:b=it:=by simpa using hb
  subst e;obtain⟨o,e,c,d⟩:=st;exact⟨o,e,λ v z=>by rw [d] at z;cases z⟩
 keep:=λ i h h' st k=>let⟨o,ho,r⟩:=st;⟨o,k it Z6 o ho,r⟩
 item:=by
  intro 'c';have OY:i<x.cps.size:=hg;obtain⟨f0,f1,f2,f3,f4,f5⟩:=hf it Z6;refine wpAny_pyNext_wide_item st (c:=x.cps[i]) (by simp [OY]) λ h' Gv sb=>?_
  have I1:'b' {s with heap:=h',toks:=s.toks+1}:=I.turned (λ b o hb e=>sb.extBut b o hb e) f0 f1 f3 f4 f5;obtain⟨o,e,c,d⟩:=id Gv;exact⟨_,rfl,jP e c d Z9 ⟨.str ⟨#[x.cps[i]]⟩,H,I1,⟨s.toks,rfl⟩,⟨rfl,_,by simp [OY],rfl⟩,Gv,λ b hb=>(hf b hb).1⟩⟩
 done:=by
  intro 'c';have OY:x.cps.size≤i:=hg;obtain⟨f0,f1,f2,f3,f4,f5⟩:=hf it Z6;exact QQ.LN I.hq st (by simp [OY]) λ h' eb=>⟨rfl,I.turned (λ b o hb e=>eb b o hb e) f0 f1 f3 f4 f5⟩
 self:=λ _ _ _ _ _ st h=>wpAny_pyIter_striter_wide st h
inductive Oq (R:It->Hp->Prop) (x:V) (H1:Hp):Prop
 |mk (y:_) (h0:x=.str y) (h1:R (RS y) H1):Oq R x H1
def zL (tl:TE):TI:=λ σ H R=>tl σ H λ x H1=>Oq R x H1
def yw {l:FZ}(hl:PE X l tl):PI X tg l (zL tl):=by
 intro F6 s σ H R I h;refine thn (hl F6 s σ H _ I h) λ v s1 z9=>?_
 obtain⟨x,H1,I1,r1,q1⟩:=z9;obtain⟨y,e,q⟩:=q1;subst e;obtain⟨t,rfl⟩:=r1;cases ha:y.cps.all (·<128)
 ·refine wpAny_pyIter_wide ha ?_;refine⟨s1.heap.objs.size,[s1.heap.objs.size],_,_,H1,rfl,I1.kept λ b o e=>Aj _ e,rB _ y t,⟨_,AN _ rfl,rfl,rfl⟩,λ b hb=>?_,q⟩;have e:b=s1.heap.objs.size:=by simpa using hb
  subst e;exact I1.fpOk (Ak _) (I1.hok.fresh (Ak _))
 ·refine wpAny_pyIter_ascii ha ?_;refine⟨s1.heap.objs.size,[s1.heap.objs.size],_,_,H1,rfl,I1.kept λ b o e=>Aj _ e,oX _ y t,⟨_,AN _ rfl,rfl,rfl⟩,λ b hb=>?_,q⟩;have e:b=s1.heap.objs.size:=by simpa using hb
  subst e;exact I1.fpOk (Ak _) (I1.hok.fresh (Ak _))
def vp {g:TG}{tb:TS}{D:Ends}(Pv:Nat->St->Hp->Prop)(h0:Pv 0 σ H)
  (hs:∀i c σ H,y.cps[i]?=some c->Pv i σ H->g (.str ⟨#[c]⟩) σ H λ σ2 H2=>tb {D with nx:=Pv (i+1),ct:=Pv (i+1),bk:=D.nx} σ2 H2) (hd:∀σ H,Pv y.cps.size σ H->D.nx σ H):
  ∃W:Nat->Nat->St->Hp->Prop,(∃m,W 0 m σ H)/\∀i m σ H,W i m σ H->
   ((RS y).stop i H/\D.nx σ H)\/((RS y).go i H/\∃N,(∀σ' H',N σ' H'->∃m',m'<m/\W (i+1) m' σ' H')/\∀x H',(RS y).yld i H x H'->g x σ H' λ σ2 H2=>tb {D with nx:=N,ct:=N,bk:=D.nx} σ2 H2):=by
 refine⟨λ i m σ H=>m=y.cps.size-i/\i≤y.cps.size/\Pv i σ H,⟨y.cps.size,Z6,A1 _,h0⟩,?_⟩;rintro i m σ H ⟨rfl,hi,p⟩;by_cases F9:i<y.cps.size
 ·refine .inr ⟨F9,Pv (i+1),λ σ' H' p'=>⟨y.cps.size-(i+1),Z4,rfl,F9,p'⟩,λ x H' z=>?_⟩;obtain⟨e,c,hc,rfl⟩:=z;subst e;exact hs i c σ _ hc p
 ·have e:i=y.cps.size:=Z4;subst e;exact .inl ⟨Ak _,hd σ H p⟩
def sr (lo c:Int)(n:Nat):It:=⟨λ i _=>i<n,λ i H x H'=>H'=H/\x=.int (lo+i*c),λ i _=>n≤i⟩
def lZ {K:Frag}(it)(lo c)(n):Turn P w K tg (sr lo c n) [it] it (λ i h=>IsRangeIter h it (lo+(i:Nat)*c) ((n:Int)-(i:Nat)) c) where
 mem:=Z6
 obj:=λ i h st b hb=>by
  have e:b=it:=by simpa using hb
  subst e;exact⟨_,st,λ v z=>by
   have z':Data.fields _=Data.cell v:=z;cases z'⟩
 keep:=λ i h h' st k=>k it Z6 _ st
 item:=by
  intro 'c';obtain⟨f0,f1,f2,f3,f4,f5⟩:=hf it Z6;refine wpAny_pyNext_range_item st (by have:i<n:=hg;omega) λ h' OM sb=>?_
  have Gv:IsRangeIter h' it (lo+⇑(i+1)*c) ((n:Int)-⇑(i+1)) c:=by
   have e1:lo+⇑(i+1)*c=lo+(i:Int)*c+c:=by rw [show⇑(i+1)=(i:Int)+1 from rfl,Int.add_mul];lia
   have e2:(n:Int)-⇑(i+1)=(n:Int)-(i:Int)-1:=Z5;rw [e1,e2];exact OM
  have I1:'b' {s with heap:=h',toks:=s.toks+1}:=I.turned (λ b o hb e=>sb.extBut b o hb e) f0 f1 f3 f4 f5;exact⟨_,rfl,jP Gv rfl rfl Z9 ⟨.int (lo+i*c),H,I1,⟨s.toks,rfl⟩,⟨rfl,rfl⟩,Gv,λ b hb=>(hf b hb).1⟩⟩
 done:=by
  intro 'c';obtain⟨f0,f1,f2,f3,f4,f5⟩:=hf it Z6;exact QQ.IU I.hq st (by have:n≤i:=hg;lia) λ h' eb=>⟨rfl,I.turned (λ b o hb e=>eb b o hb e) f0 f1 f3 f4 f5⟩
 self:=λ _ _ _ _ _ st h=>wpAny_pyIter_rangeiter st h
inductive ME (R:It->Hp->Prop) (vs:List V) (H1:Hp):Prop
 |mk (i j c:Int) (n:Nat) (h0:vs=[.int i,.int j,.int c]) (h1:c≠0) (h2:Builtin.Range.small i j c=true) (h3:Builtin.Range.rangeSize i j c=(n:Int)) (h4:Builtin.divisionGoesByPylong (j-i) c=false) (h5:R (sr i c n) H1):ME R vs H1
def ze (ta:TA):TI:=λ σ H R=>ta σ H λ vs H1=>ME R vs H1
def kn {X:Cx}{tg:FZ}{p pos:Pos}(hg:Gl X "range")(hm:X.mg "range"=none)(ha:PA X [a,b,c] ta)(hs:autoParam (starEach [a,b,c] X.env=[(false,eval a X.env),(false,eval b X.env),(false,eval c X.env)]) Z0)(Io:autoParam (starEach [b,c] X.env=[(false,eval b X.env),(false,eval c X.env)]) Z0):
  PI X tg (.Call (.Name "range" p) [a,b,c] [] pos) (ze ta):=by
 intro F6 s σ H R I h;refine Call_ (eF I hg hm boot_range (Ct (thn (ha pos F6 s σ H _ I h) λ us s1 z9=>?_) (by rw [hs,Io]) (by rw [Io];rfl)));obtain⟨vs,H1,I1,r1,q1⟩:=z9;obtain⟨i,j,c,n,e,h0,h1,h2,h3,q⟩:=q1;subst e;cases r1 with
 |cons r rr=>
  cases rr with
  |cons r' rr=>
   cases rr with
   |cons r'' rr=>
    cases rr;obtain⟨t,rfl⟩:=r;obtain⟨t',rfl⟩:=r';obtain⟨Vk,rfl⟩:=r'';refine call_range_3 h0 ?_ (.inl h3);refine wpAny_pyIter_range (IsRange.new ..) h1 ?_;have I2:Inv X F6 σ H1 {s1 with heap:=s1.heap.push {cls:=.type "range",data:=.fields #[.int i t,.int j t',.int c Vk]},toks:=s1.toks}:=I1.kept λ b o e=>Aj _ e
    refine⟨(s1.heap.push {cls:=.type "range",data:=.fields #[.int i t,.int j t',.int c Vk]}).objs.size,[(s1.heap.push {cls:=.type "range",data:=.fields #[.int i t,.int j t',.int c Vk]}).objs.size],_,_,H1,rfl,
     I2.kept λ b o e=>Aj _ e,lZ _ i c n,?_,λ b hb=>?_,q⟩
    ·have e1:i+⇑(0)*c=i:=Z6;have e2:(n:Int)-⇑(0)=Builtin.Range.rangeSize i j c:=by rw [h2];lia
     show IsRangeIter _ _ (i+⇑(0)*c) ((n:Int)-⇑(0)) c;rw [e1,e2];exact AN _ rfl
    ·have e:b=(s1.heap.push {cls:=.type "range",data:=.fields #[.int i t,.int j t',.int c Vk]}).objs.size:=by simpa using hb
     subst e;exact I2.fpOk (Ak _) (I2.hok.fresh (Ak _))
def jx {lo c:Int}{g:TG}{tb:TS}{D:Ends}(Pv:Nat->St->Hp->Prop)(h0:Pv 0 σ H)
  (hs:∀i σ H,i<n->Pv i σ H->g (.int (lo+i*c)) σ H λ σ2 H2=>tb {D with nx:=Pv (i+1),ct:=Pv (i+1),bk:=D.nx} σ2 H2) (hd:∀σ H,Pv n σ H->D.nx σ H):
  ∃W:Nat->Nat->St->Hp->Prop,(∃m,W 0 m σ H)/\∀i m σ H,W i m σ H->
   ((sr lo c n).stop i H/\D.nx σ H)\/((sr lo c n).go i H/\∃N,(∀σ' H',N σ' H'->∃m',m'<m/\W (i+1) m' σ' H')/\∀x H',(sr lo c n).yld i H x H'->g x σ H' λ σ2 H2=>tb {D with nx:=N,ct:=N,bk:=D.nx} σ2 H2):=by
 refine⟨λ i m σ H=>m=n-i/\i≤n/\Pv i σ H,⟨n,Z6,A1 _,h0⟩,?_⟩;rintro i m σ H ⟨rfl,hi,p⟩;by_cases F9:i<n
 ·refine .inr ⟨F9,Pv (i+1),λ σ' H' p'=>⟨n-(i+1),Bs _ _ F9,rfl,F9,p'⟩,λ x H' y=>?_⟩;obtain⟨e,y⟩:=y;subst e y;exact hs i σ _ F9 p
 ·have e:i=n:=A8 hi (Nat.not_lt.1 F9);subst e;exact .inl ⟨Ak _,hd σ H p⟩
def sgn (b:Bool):Nat:=if b then 49 else 48
def txt (bs:List Bool):Str:=⟨(bs.map sgn).toArray⟩
def dN (bs:List Bool):(txt bs).cps.toList=bs.map sgn:=by simp [txt]
def aS (bs:List Bool):(txt bs).length=bs.length:=by simp [txt,Str.length]
def sO (bs:List Bool):(txt bs).cps.size=bs.length:=by simp [txt]
def pZ {x y:Str}(h:x.cps.toList=y.cps.toList):x=y:=by
 cases x;cases y;simp only [Str.mk.injEq];exact Array.toList_inj.mp h
def fU (a b:List Bool):txt a++txt b=txt (a++b):=by
 refine pZ ?_;show((txt a).cps++(txt b).cps).toList=_;rw [Array.toList_append,dN,dN,dN,Aw]
def vz {i:Nat}(h:(txt bs).cps[i]?=some c):∃b,bs[i]?=some b/\(⟨#[c]⟩:Str)=txt [b]:=by
 rw [<-Array.getElem?_toList,dN,AU] at h;cases e:bs[i]? with
 |none=>rw [e] at h;cases h
 |some b=>rw [e] at h;cases h;exact⟨b,rfl,rfl⟩
def Pq {a b:List Bool}:txt a=txt b<->a=b:=by
 refine⟨λ h=>?_,λ h=>by rw [h]⟩;have h1:a.map sgn=b.map sgn:=by rw [<-dN,<-dN,h]
 refine(List.map_inj_right λ x y e=>?_).mp h1;cases x<;>cases y<;>first|rfl|exact absurd e Z9
inductive QI (x:V) (lo:Option Int) (hi:Option Int) (H:Hp) (Q:VK):Prop
 |mk (y:_) (h0:x=.str y) (h1:y.length≤sizeLine) (h2:Q (.str (Txt.slice y lo hi)) H):QI x lo hi H Q
def j6 (p:IsPart v o):∃l,l.map (·.1)=o/\v=partValue l:=by
 cases p with
 |none=>exact⟨none,rfl,rfl⟩
 |int i t=>exact⟨some (i,t),rfl,rfl⟩
def nK:Yg X QI:=by
 intro F6 s σ H x v vl vu lo hi sl Q I rx hs pl pu h;obtain⟨y,rfl,hz,q⟩:=h;obtain⟨t,rfl⟩:=rx;obtain⟨l,rfl,rfl⟩:=j6 pl;obtain⟨u,rfl,rfl⟩:=j6 pu;refine⟨"str",_,F.slot_str_getitem.lookup,typeIs_str _ _ _,?_⟩;refine wpAny_getItem_str_slice (st:=none) hs rfl ?_;exact post_val_or_str ⟨Ai (Txt.slice_le y _ _) hz,λ t' k=>⟨.str (Txt.slice y (l.map (·.1)) (u.map (·.1))),H,I.tok _,⟨_,rfl⟩,q⟩⟩
def oU {a b:Nat}(Rt:a≤b)(hb:b≤x.length):(Txt.slice x (some (a:Int)) (some (b:Int))).cps.toList=(x.cps.toList.drop a).take (b-a):=by
 have h:=StrLaws.sliced_plain x Rt hb;unfold Txt.slice
 split
 ·rename_i e
  have e':(Builtin.Str.strSliceIndices (some (a:Int)) (some (b:Int)) 1 x.length).length=x.length:=by simpa using e
  rw [StrLaws.strSliceIndices_plain Rt hb] at e';have e2:b-a=x.length:=by simpa using e'
  have ea:a=0:=Z4;subst ea;have hx:x.cps.toList.length=x.length:=by simp [Str.length]
  rw [EH,e2,<-hx,AT]
 ·exact h
def oO (x)(b:Nat):Txt.slice x none (some (b:Int))=Txt.slice x (some ⇑(0)) (some (b:Int)):=by
 have e:Builtin.Str.strSliceIndices none (some (b:Int)) 1 x.length=Builtin.Str.strSliceIndices (some ⇑(0)) (some (b:Int)) 1 x.length:=by
  unfold Builtin.Str.strSliceIndices;simp only [];congr 1
 unfold Txt.slice;rw [e]
def jR {a b:Nat}(Rt:a≤b)(hb:b≤bs.length):Txt.slice (txt bs) (some (a:Int)) (some (b:Int))=txt ((bs.drop a).take (b-a)):=by
 refine pZ ?_;rw [oU Rt (by rw [aS];exact hb),dN,dN,Eh,E3]
def ou {b:Nat}(hb:b≤bs.length):Txt.slice (txt bs) none (some (b:Int))=txt (bs.take b):=by
 rw [oO,jR (A1 _) hb,EH,Nat.sub_zero]
inductive P9 (x:V) (y:V) (H:Hp) (Q:VK):Prop
 |mk (z:_) (n:_) (h0:x=.str z) (h1:y=.int n) (h2:MulOk z n) (h3:Q (.str (Txt.mul z n)) H):P9 x y H Q
def jr:Ig X (binaryOp .Mult) P9:=by
 intro F6 s σ H x y v u Q I rx ry h;obtain⟨z,n,rfl,rfl,hok,q⟩:=h;obtain⟨t,rfl⟩:=rx;obtain⟨t',rfl⟩:=ry;exact SB.mul hok λ t' k=>⟨.str (Txt.mul z n),H,I.tok _,⟨_,rfl⟩,q⟩
end L2
namespace L2
open PySem PySem.Spec PyProof.Rows QQ
structure MkB (K:Frag)(C:FR):Prop where
 makes:makesIn K C=true
 init:findIn K (.ref C) "__init__"=some (some (.builtin "object.__init__"))
 kp:keepIn K (.ref C)=true
def xU (C:FR):TE:=λ _ H Q=>∀x dx,H x=none->H dx=none->dx≠x->Q (.ref x) (upd (upd H dx (.own x)) x (.ins C dx []))
def gu (M:MkB X.K C)(hg:Gl X x)(hm:X.mg x=↑C)(Ky:'e'):PE X (.Call (.Name x p) [] [] pos) (xU C):=by
 intro F6 s σ H Q I h;refine BN (cu I hg hm ?_ Ky);refine D7 I.kIn M.kp ?_;have I2:=Inv.made (C:=C) I;have hq:=h (s.heap.objs.size+1) s.heap.objs.size (I.hok.fresh (DD _)) (I.hok.fresh (Ak _)) (A7 (Dr _));refine Ec (rT I.kIn M.makes M.init (λ self=>Looks.of_pure (PySem.W.oi_bind self)) ?_);have Y:=FG (M:=model X.prog X.w) I.kIn M.makes;have e2:((s.heap.push emptyDict).push (instObj C s.heap.objs.size)).get? (s.heap.objs.size+1)=some (instObj C s.heap.objs.size):=by
  have:=AN (s.heap.push emptyDict) (o:=instObj C s.heap.objs.size) rfl
  rwa [DW] at this
 have t1:Looks 'd' ((s.heap.push emptyDict).push (instObj C s.heap.objs.size)) (typeOf (.ref (s.heap.objs.size+1))) (.ref C):=(Looks.ld e2).andThen .now;have t2:Looks 'd' ((s.heap.push emptyDict).push (instObj C s.heap.objs.size)) (isInstance (.ref (s.heap.objs.size+1)) (.type "object")) true:=t1.andThen (Y.top.keeps λ b o e=>Aj _ (Aj _ e));refine codeAny_call_builtin PySem.W.oi_plain PySem.W.entry_oi (@PySem.W.check_slot 'd' _ _ _ "object.__init__" "object" "__init__" (.ref (s.heap.objs.size+1)) [] [] _ PySem.W.oi_kind PySem.W.oi_split t2 (PySem.W.oi_args (.ref (s.heap.objs.size+1))) ?_);rw [oi_run];exact AG (And.intro rfl ⟨.ref (s.heap.objs.size+1),_,I2,rfl,hq⟩)
end L2
namespace L2
open PySem PyProof.Rows
theorem jH (a f):Builtin.«list.sort» ⟨[.ref a],[(Str.ofString "key",.ref f)]⟩=(do
    let items<-Builtin.List.listItems (.ref a)
    Builtin.List.listUpdate (.ref a) λ _=>#[]
    let before<-seqEpoch a
    let held<-newTuple items.toList
    let keyStore<-newList []
    holding [held,keyStore] do
      rule "list.sort.key"
      for x in items do
        match<-(call (.ref f) [x]).attempt with
        | .ok k=>Builtin.List.listUpdate keyStore (·.push k)
        | .error e=>
          rule "list.sort.key-raised"
          let made<-Builtin.List.listItems keyStore
          Builtin.List.listUpdate keyStore λ _=>#[]
          letGo made.toList.reverse [e]
          Builtin.List.listUpdate (.ref a) λ _=>items;throw e
      let keys<-Builtin.List.listItems keyStore
      let kind<-if items.size<2 then pure general' else keyKind' keys
      let((),s)<-(if items.size<2 then pure () else sortRuns').run (SortSt.mk' kind (keys.zip items) #[] 7 none)
      let sorted:=(arrOf s).map (·.2)
      Builtin.List.listUpdate keyStore λ _=>#[]
      letGo ((arrOf s).map (·.1)).toList (failedOf s).toList
      let touched:=(<-seqEpoch a) !=before
      Builtin.List.listUpdate (.ref a) λ _=>sorted
      if let some e:=failedOf s then rule "list.sort.comparison-raised";throw e
      if touched then rule "list.sort.modified";raiseError "ValueError" "list modified during sort"
      ret .none):=by
  first|rfl|(fail "not by rfl")
def fK (a v):argsOk "list.sort" ⟨[a],[(Str.ofString "key",v)]⟩:=by unfold argsOk;kernel_rfl
def iu (a v):argsOk "sorted" ⟨[a],[(Str.ofString "key",v)]⟩:=by unfold argsOk;kernel_rfl
def qF (h:IntsAre vs ns):IntsAre (vs++[.int n t]) (ns++[n]):=by
 induction h with
 |nil=>exact .cons n t .nil
 |cons m u _ ih=>exact .cons m u ih
def fY:∀v,(seqObj c xs n).data≠ .cell v:=λ v h=>by cases h
def Inv.turn {σ:St}(I:'b' s)(fa:G0 X F6 H a):'b' {s with heap:=s.heap.update a g}:=
 I.turned (λ b o hb e=>by rw [Do _ _ _ _ hb];exact e) fa.1 fa.2.1 fa.2.2.2.1 fa.2.2.2.2.1 fa.2.2.2.2.2
end L2
namespace L2
open PySem PyProof.Rows QQ
def Inv.adopt {σ:St}(I:'b' s)(fa:G0 X F6 H a)(rv:Vals xs Gd)(hz:xs.length≤sizeLine)
  (ho:s.heap.get? a=some (seqObj "list" Gd.toArray n)):Inv X F6 σ (upd H a (.lst xs)) s:=by
 have hn:=fa.1;refine I.step (ch:=[a]) (λ b hb=>?_) (λ b o _ _ _ e _=>e) (λ b o _ _ _ e _=>⟨o.slots,e⟩) (λ b o hb e n=>?_)
  (λ b o _ e=>⟨o,e⟩) (λ b ys e=>?_) (λ b o u e=>?_) (λ b ps e=>⟨#[],?_⟩) (λ m hm=>hm) (λ b u e=>?_) I.bare
 ·rw [As.mp hb];exact⟨fa.2.2.2.1,fa.2.1,fa.2.2.2.2.1,fa.2.2.2.2.2⟩
 ·rw [aj (λ z=>hb (by simp [z]))];exact n
 ·rw [aj (ai e hn)];exact e
 ·rw [aj (ai e hn)];exact e
 ·rw [aj (ai e hn),e];simp
 ·by_cases hb:b=a
  ·subst hb;rw [af] at e;cases e;exact⟨hz,Gd,n,rv,ho⟩
  ·rw [aj hb] at e;exact(I.hok b u e).stay (λ c v _ q=>q) (λ c q=>by rw [aj (ai q hn)];exact q) λ c xs q=>by rw [aj (ai q hn)];exact q
inductive PR:List (FS×FS)->List (Int×V)->Prop
 |nil:PR [] []
 |cons {k v:FS} {n:Int} {x:V} {l:List (FS×FS)} {m:List (Int×V)}:(∃t,k=.int n t)->RelV x v->PR l m->PR ((k,v)::l) ((n,x)::m)
def yu (h:IntsAre kv ks)(g:Vals xs Gd):PR (kv.zip Gd) (ks.zip xs):=by
 induction h generalizing xs Gd with
 |nil=>exact .nil
 |cons n t _ ih=>cases g with
  |nil=>exact .nil
  |cons r rs=>exact .cons ⟨t,rfl⟩ r (ih rs)
def wD (h:PR l m):Vals (m.map (·.2)) (l.map (·.2)):=by
 induction h with
 |nil=>exact .nil
 |cons _ r _ ih=>exact .cons r ih
def yt (h:PR l m):l.length=m.length:=by
 induction h with
 |nil=>rfl
 |cons _ _ _ ih=>exact Bx Nat.succ ih
def zp (h:PR l m):∀{i:Nat} {q},m[i]?=some q->∃t v,l[i]?=some (.int q.1 t,v):=by
 induction h with
 |nil=>intro i q hq;cases hq
 |cons e _ _ ih=>
  intro i q hq;cases i with
  |zero=>obtain⟨t,e⟩:=e;cases hq;subst e;exact⟨t,_,rfl⟩
  |succ i=>exact ih hq
def uc (e1:ns=ys.toList.map (·.1))(h:i<ns.length):numAt ys i=ns[i]:=by
 subst e1;rw [Aa,Ch] at h;simp [numAt,h]
def se (hc:X.A.handled=none):dU X (.builtin "max") (λ xs H Q=>∃(p:FR) (ns:List Int),xs=[.ref p]/\Gf X.K H p (ns.map V.int)/\0<ns.length/\∀n∈ns,(∀m∈ns,m≤n)->Q (.int n) H):=by
 intro F6 s σ H xs us Q I r h;obtain⟨p,ns,rfl,hq,Hx,q⟩:=h;obtain⟨u,rfl,rx⟩:=fg r;cases rx;obtain⟨Gd,rv,pl,hz⟩:=I.list hq;have hi:=jz rv;obtain⟨ys,hx⟩:=hi.allInts.items;have hl:s.heap.IsList p (intItems ys):=hx▸pl.isList;have e1:ns=ys.toList.map (·.1):=by
  rw [<-nums_intItems,<-hx];exact(show numsOf Gd.toArray.toList=ns from hi.numsOf).symm
 have hsz:ns.length=ys.size:=by rw [e1];simp
 refine max_intList hc hl (Av Hx hsz) λ v h' tk hv hk=>?_
 obtain⟨t,rfl⟩:=intItems_at hv;obtain⟨h1,h2⟩:=argBest_gt (numAt ys) (ys.size-1);generalize argBest (λ i j=>decide (numAt ys i>numAt ys j)) (ys.size-1)=b at*;have hb:b<ns.length:=Z5;have eb:=uc e1 hb;refine⟨.int ns[b],H,I.kept hk,⟨t,by rw [eb]⟩,q _ (BL hb) λ m hm=>?_⟩;obtain⟨j,hj,rfl⟩:=List.getElem_of_mem hm;have:=h2 j (EX (Av hj hsz));rw [uc e1 hj,eb] at this;exact this
end L2
namespace L2
open PySem PySem.Spec PyProof.Rows QQ
inductive Km (K:Frag) (x:V) (vs:List V) (H:Hp) (Q:VK):Prop
 |mk (l:FR) (ns:List Int) (k:Int) (j:Nat) (h0:x=.ref l) (h1:vs=[.int k]) (h2:H l=↥(ns.map V.int)) (h3:ns[j]?=some k) (h4:(∀i<j,ns[i]?≠some k)) (h5:Q (.int (j:Int)) H):Km K x vs H Q
def uE {X:Cx}:MtR X "list.index" (Km X.K):=by
 intro F6 s σ H x vs v us Q I rx rv h;obtain⟨l,ns,k,j,rfl,rfl,hH,hj,W8,q⟩:=h;cases rx;obtain⟨u,rfl,ru⟩:=fg rv;obtain⟨t,rfl⟩:=ru;obtain⟨z,Gd,n,r,hl,e⟩:=I.lstM hH;rw [Aa] at hl z;have hjl:j<ns.length:=(Af.mp hj).1;have hjs:⇑j<2^63-1:=by
  have hsl:sizeLine≤16777216:=Z9;omega
 have key:∀i (hi:i<Gd.length),∃t',Gd[i]=.int (ns[i]' Z4) t':=λ i hi=>by
  have k1:i<ns.length:=Z4;obtain⟨u1,e1,r1⟩:=r.get (i:=i) (x:=.int ns[i]) (by simp [k1]);obtain⟨t',rfl⟩:=r1;obtain⟨_,z⟩:=Af.mp e1;exact⟨t',z⟩
 have hf:(ns.map V.int).all flatV=true:=by simp [flatV]
 have ejv:ns[j]=k:=by rw [Ad hjl] at hj;exact AJ hj
 have g:=SeqAt.list_indexAt l Gd.toArray n none #[] (.int k t) (OJ (.int k)) j (by rw [AC];omega) hjs (by
   obtain⟨t',e1⟩:=key j Z4;have e2:Gd.toArray[j]'(by rw [AC];omega)=Gd[j]' Z4:=Z6;rw [e2,e1,ejv];show(k==k)=true;simp) (λ m hm hmj=>by
   obtain⟨t',e1⟩:=key m Z4;have e2:Gd.toArray[m]=Gd[m]' Z4:=Z6;rw [e2,e1];show(ns[m]' Z4==k)=false;have h1:=W8 m hmj;rw [Ad Z4] at h1;simpa using h1)
 refine call_meets F.slot_list_index ⟨_,e,rfl⟩ F.entry_list_index (F.args_list_index_2 (.ref l) (.int k t)) g ⟨e,λ y hy=>gj (x:=.int k) ⟨t,rfl⟩ rfl r hf y (by simpa using hy),?_⟩;exact⟨.int ⇑j,H,I.tok _,⟨_,rfl⟩,q⟩
end L2
namespace W16
inductive Pc where
 |sg (s:Nat)
 |cp (b z:Nat)
 deriving DecidableEq
def Pc.size:Pc->Nat
 | .sg _=>1
 | .cp _ z=>z
noncomputable def al (S:'c') (p b:Nat):Nat->Nat
 |0=>0
 |m+1=>if al S p b m=m/\S[p+m]?=S[p+m-b]? then m+1 else al S p b m
theorem p9 (S:'c')(p b:Nat):∀m,al S p b m≤m
 |0=>Ak _
 |m+1=>by
  unfold al;have:=p9 S p b m
  split<;>lia
theorem lh {S:'c'}{p b:Nat}:∀{m:Nat},∀i<al S p b m,S[p+i]?=S[p+i-b]?
 |0,i,h=>by simp [al] at h
 |m+1,i,h=>by
  unfold al at h
  split at h
  ·rename_i c
   by_cases e:i=m
   ·subst e;exact c.2
   ·exact lh (m:=m) i (by rw [c.1];exact CY (B4 h) e)
  ·exact lh (m:=m) i h
theorem uw {S:'c'}{p b:Nat}:∀{m:Nat},(∀i<m,S[p+i]?=S[p+i-b]?)->al S p b m=m
 |0,_=>rfl
 |m+1,h=>by
  unfold al;rw [AK ⟨uw λ i hi=>h i (Nat.lt_add_right 1 hi),h m (FO _)⟩]
theorem vj {S:'c'}{p b r:Nat}(h:∀i<r,S[p+i]?=S[p+i-b]?)(hn:S[p+r]?≠S[p+r-b]?):∀m,r≤m->al S p b m=r
 |0,hm=>by
  have:r=0:=Z5;subst this;rfl
 |m+1,hm=>by
  by_cases e:r=m+1
  ·subst e;exact uw h
  ·have ih:=vj h hn m Z5;unfold al;rw [ih]
   split
   ·rename_i c
    rw [<-c.1] at c;exact absurd c.2 hn
   ·rfl
def wL {S:'c'}{p b m:Nat}(h:al S p b m<m):S[p+al S p b m]?≠S[p+al S p b m-b]?:=by
 induction m with
 |zero=>simp [al] at h
 |succ m ih=>
  by_cases c:al S p b m=m/\S[p+m]?=S[p+m-b]?
  ·have e:al S p b (m+1)=m+1:=by unfold al;rw [AK c]
   lia
  ·have e:al S p b (m+1)=al S p b m:=by rw [al,AH c]
   rw [e];by_cases q:al S p b m=m
   ·rw [q];exact λ z=>c ⟨q,z⟩
   ·exact ih (by have:=p9 S p b m;lia)
noncomputable def lc (S:'c') (p m:Nat):Nat->Nat×Nat
 |0=>(0,0)
 |n+1=>if(lc S p m n).2<al S p (n+1) m then(n+1,al S p (n+1) m) else lc S p m n
theorem pV (S:'c')(p m:Nat):∀n,(lc S p m n).2≤m
 |0=>A1 _
 |n+1=>by
  unfold lc
  split
  ·exact p9 ..
  ·exact pV S p m n
theorem pQ {S:'c'}{p m k:Nat}(h:(lc S p m k).2=m):∀n,k≤n->lc S p m n=lc S p m k
 |0,hk=>by
  have:k=0:=Z5;subst this;rfl
 |n+1,hk=>by
  by_cases e:k=n+1
  ·subst e;rfl
  ·have ih:=pQ h n Z5;rw [lc,ih,h,AH];have:=p9 S p (n+1) m;exact FN.mpr this
def vK {S:'c'}{p m n:Nat}(h:S[p+(lc S p m n).2]?≠S[p+(lc S p m n).2-(n+1)]?):lc S p m (n+1)=lc S p m n:=by
 rw [lc,AH];intro c;exact h (lh _ c)
theorem pD {S:'c'}{p m:Nat}:∀{n:Nat},0<(lc S p m n).2->1≤(lc S p m n).1/\(lc S p m n).1≤n/\(lc S p m n).2=al S p (lc S p m n).1 m
 |0,h=>by simp [lc] at h
 |n+1,h=>by
  unfold lc at h ⊢
  split
  ·exact⟨DZ (A1 _),Ak _,rfl⟩
  ·rename_i c
   rw [AH c] at h;obtain⟨a,b,e⟩:=pD h;exact⟨a,BD b,e⟩
def most (S:'c')(p:Nat):Nat:=min 18 (S.length-p)
def far (p:Nat):Nat:=min 255 p
def lcAt (S:'c')(p:Nat):Nat×Nat:=lc S p (most S p) (far p)
def pcAt (S:'c')(p:Nat):Pc:=if 3≤(lcAt S p).2 then .cp (lcAt S p).1 (lcAt S p).2 else .sg (S.getD p 0)
def Walk (S:'c'):Nat->List Pc->Nat->Prop
 |p,[],q=>p=q
 |p,x::xs,q=>p<S.length/\x=pcAt S p/\Walk S (p+x.size) xs q
theorem dz {S:'c'}:∀{P:List Pc} {p q:Nat},Walk S p P q->q<S.length->Walk S p (P++[pcAt S q]) (q+(pcAt S q).size)
 | [],p,q,h,hq=>by
  cases h;exact⟨hq,rfl,rfl⟩
 |x::P,p,q,h,hq=>⟨h.1,h.2.1,dz h.2.2 hq⟩
def gZ {S:'c'}{p:Nat}(h:p<S.length):1≤(pcAt S p).size/\p+(pcAt S p).size≤S.length:=by
 unfold pcAt
 split
 ·rename_i c
  have:=pV S p (most S p) (far p);show 1≤(lcAt S p).2/\p+(lcAt S p).2≤S.length;unfold lcAt at c ⊢;unfold most at this c ⊢;lia
 ·show 1≤1/\p+1≤S.length;exact if_false_right.mp h
theorem dh {S:'c'}:∀{P:List Pc} {p q:Nat},Walk S p P q->p+P.length≤q
 | [],p,q,h=>by cases h;simp
 |x::P,p,q,h=>by
  have:=dh h.2.2;have h1:=(gZ h.1).1;rw [<-h.2.1] at h1;simp;lia
def wT {S:'c'}{p b z:Nat}(hp:p<S.length)(h:pcAt S p=.cp b z):1≤b/\b≤p/\b≤255/\3≤z/\z≤18/\p+z≤S.length/\(∀i<z,S[p+i]?=S[p+i-b]?)/\(z<18->p+z<S.length->S[p+z]?≠S[p+z-b]?):=by
 unfold pcAt at h
 split at h
 ·rename_i c
  have e1:(lcAt S p).1=b:=by injection h
  have e2:(lcAt S p).2=z:=by injection h
  rw [e2] at c;have g:=pD (S:=S) (p:=p) (m:=most S p) (n:=far p) (by show 0<(lcAt S p).2;lia);have l:=pV S p (most S p) (far p);change 1≤(lcAt S p).1/\(lcAt S p).1≤far p/\(lcAt S p).2=al S p (lcAt S p).1 (most S p) at g;change (lcAt S p).2≤most S p at l;rw [e1,e2] at g;rw [e2] at l;have hf:far p≤255/\far p≤p:=by unfold far;exact⟨Db _ _,BQ _ _⟩
  have hm:most S p≤18/\most S p≤S.length-p/\(most S p=18\/most S p=S.length-p):=by unfold most;lia
  refine⟨g.1,Ai g.2.1 hf.2,Ai g.2.1 hf.1,c,Ai l hm.1,Z5,λ i hi=>lh (m:=most S p) i (Ap hi (A5 g.2.2)),λ h1 h2=>?_⟩;have:=wL (S:=S) (p:=p) (b:=b) (m:=most S p) (by rw [<-g.2.2];lia);rw [<-g.2.2] at this;exact this
 ·cases h
def wA {S:'c'}{p s:Nat}(hp:p<S.length)(h:pcAt S p=.sg s):S[p]?=some s:=by
 unfold pcAt at h
 split at h
 ·cases h
 ·injection h with h
  rw [<-h];simp [List.getD,hp]
end W16
namespace BP
def val (B:'c'):Nat:=B.foldl (λ a b=>a*256+b) 0
def jZ (B:'c'):∀a,B.foldl (λ a b=>a*256+b) a=a*256^B.length+val B:=by
 induction B with
 |nil=>intro a;simp [val]
 |cons b B ih=>
  intro a;have h0:val (b::B)=b*256^B.length+val B:=by
   show B.foldl (λ a b=>a*256+b) (0*256+b)=_;rw [ih,Nat.zero_mul,DA]
  show B.foldl (λ a b=>a*256+b) (a*256+b)=_;rw [ih,h0,Ar,BZ,EB,BV,BE 256,BW]
def ur (b:Nat)(B:'c'):val (b::B)=b*256^B.length+val B:=by
 show B.foldl (λ a b=>a*256+b) (0*256+b)=_;rw [jZ,Nat.zero_mul,DA]
def i3 (A B:'c'):val (A++B)=val A*256^B.length+val B:=by
 show(A++B).foldl (λ a b=>a*256+b) 0=_;rw [ED,jZ];rfl
def Jw (A:'c')(b:Nat):val (A++[b])=val A*256+b:=by
 show(A++[b]).foldl (λ a b=>a*256+b) 0=_;rw [ED];rfl
def Ki {B:'c'}(h:∀b∈B,b<256):val B<256^B.length:=by
 induction B with
 |nil=>simp [val]
 |cons b B ih=>
  rw [ur,Ar,BZ];have h1:=ih λ x hx=>h x (Az _ hx)
  have h2:b<256:=h b AE;have h3:b*256^B.length≤255*256^B.length:=Nat.mul_le_mul_right _ (B4 h2);lia
def oh (n:Nat):256^n=2^(8*n):=by rw [Nat.pow_mul]
def JC (n:Nat):0<2^n:=D3 Z9
def sB {B:'c'}(h:∀b∈B,b<256)(n:Nat)(hn:n≤B.length):val (B.take n)=val B/256^(B.length-n):=by
 have e:val B=val (B.take n)*256^(B.drop n).length+val (B.drop n):=by rw [<-i3,Bn]
 have hd:val (B.drop n)<256^(B.drop n).length:=Ki λ b hb=>h b (DP hb)
 rw [Au] at e hd;rw [e,BE,Nat.mul_add_div (D3 Z9),EQ hd,DB]
def wN {B:'c'}(h:∀b∈B,b<256){m n:Nat}(hmn:m≤n)(hn:n≤B.length):val ((B.take n).drop m)=val B/256^(B.length-n)%256^(n-m):=by
 have e:val (B.take n)=val ((B.take n).take m)*256^((B.take n).drop m).length+val ((B.take n).drop m):=by rw [<-i3,Bn]
 have hl:((B.take n).drop m).length=n-m:=by rw [Au,Aq];omega
 have hd:val ((B.take n).drop m)<256^((B.take n).drop m).length:=Ki λ b hb=>h b (DQ (DP hb))
 rw [hl] at e hd;rw [<-sB h n hn,e,BE,Nat.mul_add_mod,CI hd]
def Oy {B:'c'}(h:∀b∈B,b<256){p s:Nat}(hp:p+s≤8*B.length):
  val ((B.take ((p+s+7)/8)).drop (p/8))/2^(8*((p+s+7)/8)-(p+s))%2^s=val B/2^(8*B.length-(p+s))%2^s:=by
 have h1:p/8≤(p+s+7)/8:=Z4;have h2:(p+s+7)/8≤B.length:=Z4;rw [wN h h1 h2,oh,oh];have ha:8*(p/8)≤p:=Z4;have hb:p+s≤8*((p+s+7)/8):=Z4;generalize p/8=a at*;generalize (p+s+7)/8=b at*;generalize B.length=n at*;obtain⟨c,rfl⟩:=CN h1;obtain⟨y,rfl⟩:=CN ha;obtain⟨x,hx⟩:=CN hb;obtain⟨z,rfl⟩:=CN h2;rw [Cr,Cr,hx,Cr,show 8*c=x+(s+y) by omega,show 8*(a+c+z)-(8*a+y+s)=8*z+x by omega];rw [Dl 2 x,Fh,Nat.div_div_eq_div_mul,<-Dl,Dl 2 s,Nat.mod_mul_right_mod]
structure BR (N T:Nat)(B:'c')(r k:Nat):Prop where
 tot:T=8*B.length+k
 num:N=val B*2^k+r
 low:r<2^k
 byt:∀b∈B,b<256
def BR.init:BR 0 0 [] 0 0:=⟨rfl,rfl,Z9,λ _ h=>nomatch h⟩
def BR.put {N T:Nat}{B:'c'}{r k:Nat}(h:BR N T B r k){n s:Nat}(hn:n<2^s):BR (N*2^s+n) (T+s) B (r*2^s+n) (k+s):=by
 refine⟨by rw [h.tot];exact BW _ _ _,?_,?_,h.byt⟩
 ·rw [h.num,Dl,EB,BV,BW]
 ·have h1:r+1≤2^k:=h.low;have h2:(r+1)*2^s≤2^k*2^s:=Nat.mul_le_mul_right _ h1;rw [EB,Nat.one_mul] at h2;rw [Dl];exact Ap (Nat.add_lt_add_left hn _) h2
def BR.move {N T:Nat}{B:'c'}{r k:Nat}(h:BR N T B r (k+8)):BR N T (B++[r/2^k]) (r%2^k) k:=by
 have e:=Nat.div_add_mod r (2^k);refine⟨by rw [h.tot,Ac,List.length_singleton];lia,?_,Nat.mod_lt _ (JC k),λ b hb=>?_⟩
 ·rw [h.num,Jw,EB,Dl];have:val B*(2^k*2^8)=val B*256*2^k:=by rw [BE (2^k),<-BV]
  rw [this,BW];rw [BE (r/2^k),e]
 ·rcases AR.mp hb with hb|hb
  ·exact h.byt b hb
  ·rw [As.mp hb];have:=h.low;rw [Dl] at this;exact Nat.div_lt_of_lt_mul this
structure Qc (N T:Nat)(R:'c'):Prop where
 len:R.length=(T+7)/8
 byt:∀b∈R,b<256
 num:val R=N*2^(8*R.length-T)
noncomputable def eS:List (Nat×Nat)->Nat->Nat
 | [],N=>N
 |p::ps,N=>eS ps (N*2^p.2+p.1)
def tots (ps:List (Nat×Nat)):Nat:=(ps.map (·.2)).sum
def bY (a b:List (Nat×Nat))(N:Nat):eS (a++b) N=eS b (eS a N):=by
 induction a generalizing N with
 |nil=>rfl
 |cons p a ih=>exact ih _
def aR (a b:List (Nat×Nat)):tots (a++b)=tots a+tots b:=by simp [tots,Aw,CT]
def bU (p:Nat×Nat)(b:List (Nat×Nat)):tots (p::b)=p.2+tots b:=by simp [tots]
def num (bs:List Bool):Nat:=bs.foldl (λ a b=>2*a+b.toNat) 0
def rH (bs:List Bool):∀a,bs.foldl (λ a b=>2*a+b.toNat) a=a*2^bs.length+num bs:=by
 induction bs with
 |nil=>intro a;simp [num]
 |cons b bs ih=>
  intro a;have h0:num (b::bs)=b.toNat*2^bs.length+num bs:=by
   show bs.foldl (λ a b=>2*a+b.toNat) (2*0+b.toNat)=_;rw [ih,Nat.mul_zero,DA]
  show bs.foldl (λ a b=>2*a+b.toNat) (2*a+b.toNat)=_;rw [ih,h0,Ar,BZ,EB,BE 2 a,BV a 2,BE 2 (2^bs.length),BW]
def dC (a b:List Bool):num (a++b)=num a*2^b.length+num b:=by
 show(a++b).foldl (λ a b=>2*a+b.toNat) 0=_;rw [ED,rH];rfl
def K9 (a:List Bool)(b:Bool):num (a++[b])=2*num a+b.toNat:=by
 show(a++[b]).foldl (λ a b=>2*a+b.toNat) 0=_;rw [ED];rfl
def fo (b:Bool)(bs:List Bool):num (b::bs)=b.toNat*2^bs.length+num bs:=by
 have:=dC [b] bs;simpa [num] using this
def HB (bs:List Bool):num bs<2^bs.length:=by
 induction bs with
 |nil=>decide
 |cons b bs ih=>
  rw [fo,Ar,BZ];cases b<;>simp<;>omega
def rn (k:Nat):num (List.replicate k false)=0:=by
 induction k with
 |zero=>rfl
 |succ k ih=>rw [Bh,fo,ih];simp
def dig (n:Nat):Nat->List Bool
 |0=>[]
 |k+1=>decide (n/2^k%2=1)::dig n k
def Gk (n k:Nat):(dig n k).length=k:=by
 induction k with
 |zero=>rfl
 |succ k ih=>show(dig n k).length+1=k+1;rw [ih]
def gA (n k:Nat):num (dig n k)=n%2^k:=by
 induction k with
 |zero=>simp [dig,num,Nat.mod_one]
 |succ k ih=>
  show num (decide (n/2^k%2=1)::dig n k)=_;rw [fo,Gk,ih,BZ,Nat.mod_mul];have h2:n/2^k%2<2:=Nat.mod_lt _ Z9;by_cases h:n/2^k%2=1
  ·rw [Ae h,h];simp;omega
  ·have h0:n/2^k%2=0:=Z4;rw [Bt h,h0];simp
end BP
namespace W13
noncomputable def run (a:Nat):'c'->Nat
 | []=>0
 |x::xs=>if x=a then run a xs+1 else 0
theorem jk (a:Nat):∀L:List Nat,run a L≤L.length
 | []=>Ak _
 |x::xs=>by
  unfold run;have:=jk a xs
  split<;>simp<;>assumption
theorem nY {a:Nat}:∀{L:List Nat} {i:Nat},i<run a L->L[i]?=some a
 | [],i,h=>by simp [run] at h
 |x::xs,0,h=>by
  unfold run at h
  split at h
  ·rename_i c;simp [c]
  ·lia
 |x::xs,i+1,h=>by
  unfold run at h
  split at h
  ·simpa using nY (L:=xs) (i:=i) (Nat.succ_lt_succ_iff.mp h)
  ·lia
theorem oG {a:Nat}:∀{L:List Nat} {n:Nat},(∀i<n,L[i]?=some a)->n≤run a L
 | [],0,_=>A1 _
 | [],n+1,h=>by simpa using h 0 Z5
 |x::xs,0,_=>A1 _
 |x::xs,n+1,h=>by
  have h0:x=a:=by simpa using h 0 Z5
  rw [run,AK h0];have:=oG (L:=xs) (n:=n) (λ i hi=>by simpa using h (i+1) (Nat.add_lt_add_right hi 1));exact DR this 1
def sD {a:Nat}{L:'c'}{n:Nat}(h:∀i<n,L[i]?=some a)(hn:L[n]?≠some a):run a L=n:=by
 have h1:=oG h;rcases A2 n (run a L) with h2|h2
 ·exact absurd (nY h2) hn
 ·exact A8 h2 h1
inductive Itm where
 |one (x:Nat)
 |rep (r:Nat)
def Itm.size:Itm->Nat
 | .one _=>1
 | .rep r=>r
def Itm.cost:Itm->Nat
 | .one _=>3
 | .rep _=>9
def Itm.next (a:Nat):Itm->Nat
 | .one x=>x
 | .rep _=>a
noncomputable def Itm.puts:Itm->List (Nat×Nat)
 | .one x=>[(x,3)]
 | .rep r=>[(7,3),(r-3,6)]
def stAt (L:'c')(p a:Nat):Itm:=if 3≤min 66 (run a (L.drop p)) then .rep (min 66 (run a (L.drop p))) else .one (L.getD p 0)
def Walk (L:'c'):Nat->Nat->List Itm->Nat->Nat->Prop
 |p,a,[],q,b=>p=q/\a=b
 |p,a,x::xs,q,b=>p<L.length/\x=stAt L p a/\Walk L (p+x.size) (x.next a) xs q b
theorem dz {L:'c'}:∀{P:List Itm} {p a q b:Nat},Walk L p a P q b->q<L.length->Walk L p a (P++[stAt L q b]) (q+(stAt L q b).size) ((stAt L q b).next b)
 | [],p,a,q,b,h,hq=>by
  obtain⟨rfl,rfl⟩:=h;exact⟨hq,rfl,rfl,rfl⟩
 |x::P,p,a,q,b,h,hq=>⟨h.1,h.2.1,dz h.2.2 hq⟩
def kx {L:'c'}{p a:Nat}(h:p<L.length):1≤(stAt L p a).size/\p+(stAt L p a).size≤L.length:=by
 unfold stAt
 split
 ·rename_i c
  have:=jk a (L.drop p);rw [Au] at this;show 1≤min 66 (run a (L.drop p))/\p+min 66 (run a (L.drop p))≤L.length;lia
 ·show 1≤1/\p+1≤L.length;exact if_false_right.mp h
theorem dh {L:'c'}:∀{P:List Itm} {p a q b:Nat},Walk L p a P q b->p+P.length≤q
 | [],p,a,q,b,h=>by obtain⟨rfl,rfl⟩:=h;simp
 |x::P,p,a,q,b,h=>by
  have h1:=dh h.2.2;have h2:=(kx (a:=a) h.1).1;rw [<-h.2.1] at h2;simp;lia
def qm {L:'c'}{p a:Nat}(hp:p<L.length):(∀x,stAt L p a=.one x->L.take (p+1)=L.take p++[x]/\L[p]?=some x)/\(∀r,stAt L p a=.rep r->3≤r/\r≤66/\p+r≤L.length/\L.take (p+r)=L.take p++List.replicate r a):=by
 have hle:=jk a (L.drop p);rw [Au] at hle;unfold stAt
 split
 ·rename_i c
  refine⟨λ x h=>(by cases h),λ r h=>?_⟩;injection h with h
  have hr:r≤run a (L.drop p):=Z5;refine⟨le_of_le_of_eq c h,Z5,Nat.add_le_of_le_sub' (B9 hp) (Ai hr hle),?_⟩;rw [List.take_add];congr 1;apply B5;intro i;rw [Fl,Dm]
  split
  ·rename_i hi
   exact nY (Ap hi hr)
  ·rfl
 ·refine⟨λ x h=>?_,λ r h=>(by cases h)⟩;injection h with h
  have e:L[p]?=some x:=by rw [<-h];simp [List.getD,hp]
  exact⟨by rw [Bl,e];rfl,e⟩
noncomputable def Jb (a:Nat):List Itm->'c'
 | []=>[]
 | .one x::P=>x::Jb x P
 | .rep r::P=>List.replicate r a++Jb a P
def U3:Itm->Prop
 | .one x=>x≤6
 | .rep r=>3≤r/\r≤66
theorem KS {L:'c'}:∀{P:List Itm} {p a q b:Nat},Walk L p a P q b->L.take q=L.take p++Jb a P
 | [],p,a,q,b,h=>by obtain⟨rfl,rfl⟩:=h;simp [Jb]
 |x::P,p,a,q,b,h=>by
  obtain⟨hp,hx,hw⟩:=h;have ih:=KS hw;have ht:=qm (a:=a) hp;rw [ih];cases x with
  |one y=>
   have h1:=(ht.1 y hx.symm).1;show L.take (p+1)++Jb y P=L.take p++y::Jb y P;rw [h1];simp
  |rep r=>
   have h1:=(ht.2 r hx.symm).2.2.2;show L.take (p+r)++Jb a P=L.take p++(List.replicate r a++Jb a P);rw [h1,An]
theorem Mc {L:'c'}(hL:∀b∈L,b≤6):∀{P:List Itm} {p a q b:Nat},Walk L p a P q b->∀x∈P,U3 x
 | [],p,a,q,b,h,x,hx=>by simp at hx
 |y::P,p,a,q,b,h,x,hx=>by
  rcases AB.mp hx with rfl|hx
  ·have ht:=qm (a:=a) h.1;cases x with
   |one y=>exact hL _ (AX (ht.1 y h.2.1.symm).2)
   |rep r=>have:=ht.2 r h.2.1.symm;exact⟨this.1,this.2.1⟩
  ·exact Mc hL h.2.2 x hx
noncomputable def puts (P:List Itm):List (Nat×Nat):=P.flatMap Itm.puts
def ip (P Q:List Itm):puts (P++Q)=puts P++puts Q:=by simp [puts]
theorem ii:∀P:List Itm,((puts P).map (·.2)).sum=(P.map Itm.cost).sum
 | []=>rfl
 | .one x::P=>by
  show((Itm.puts (.one x)++puts P).map (·.2)).sum=_;rw [Aw,CT,ii P];simp [Itm.puts,Itm.cost]
 | .rep r::P=>by
  show((Itm.puts (.rep r)++puts P).map (·.2)).sum=_;rw [Aw,CT,ii P];simp [Itm.puts,Itm.cost]
end W13
namespace W17
open BP W13
def bitsP (ps:List (Nat×Nat)):List Bool:=ps.flatMap λ q=>dig q.1 q.2
def aZ (q:Nat×Nat)(ps:List (Nat×Nat)):bitsP (q::ps)=dig q.1 q.2++bitsP ps:=by simp [bitsP]
def cm (a b:List (Nat×Nat)):bitsP (a++b)=bitsP a++bitsP b:=by simp [bitsP]
theorem aV:∀ps:List (Nat×Nat),(bitsP ps).length=tots ps
 | []=>rfl
 |q::ps=>by rw [aZ,Ac,Gk,aV ps,bU]
noncomputable def rlF:Nat->'c'->List (Nat×Nat)
 |0,_=>[]
 |_+1,[]=>[]
 |n+1,a::L=>(a,1+run a L)::rlF n (L.drop (run a L))
theorem jm:∀{n m:Nat} {L:List Nat},L.length≤n->L.length≤m->rlF n L=rlF m L
 |0,0,_,_,_=>rfl
 |0,m+1,[],_,_=>rfl
 |0,_+1,_::_,h,_=>by simp at h
 |n+1,0,[],_,_=>rfl
 |_+1,0,_::_,_,h=>by simp at h
 |n+1,m+1,[],_,_=>rfl
 |n+1,m+1,a::L,h1,h2=>by
  have KD:L.length≤n:=by simpa using h1
  have JU:L.length≤m:=by simpa using h2
  show(a,1+run a L)::rlF n (L.drop (run a L))=(a,1+run a L)::rlF m (L.drop (run a L));rw [jm (n:=n) (m:=m) (by rw [Au];exact Ai (EF _ _) KD) (by rw [Au];lia)]
def rl (L:'c'):List (Nat×Nat):=rlF L.length L
def xA:rl []=[]:=rfl
def wB (a:Nat)(L:'c'):rl (a::L)=(a,1+run a L)::rl (L.drop (run a L)):=by
 show(a,1+run a L)::rlF L.length (L.drop (run a L))=_;rw [jm (n:=L.length) (m:=(L.drop (run a L)).length) (by rw [Au];exact EF _ _) (Ak _)];rfl
def vv {T:'c'}{b e a:Nat}(L5:b<e)(Tq:e≤T.length)(Kz:∀j,b≤j->j<e->T[j]?=some a)(Pm:T[e]?≠some a):rl (T.drop b)=(a,e-b)::rl (T.drop e):=by
 have hb:b<T.length:=Ap L5 Tq;have e1:T.drop b=a::T.drop (b+1):=by
  have:=Kz b (Ak _) L5;rw [Ad hb] at this;rw [Cc hb,AJ this]
 have e2:run a (T.drop (b+1))=e-(b+1):=by
  refine sD (λ i hi=>?_) ?_
  ·rw [Dz];exact Kz _ Z5 (DG hi)
  ·rw [Dz,show b+1+(e-(b+1))=e from Cj L5];exact Pm
 rw [e1,wB,e2,Cn,show b+1+(e-(b+1))=e from Cj L5,show 1+(e-(b+1))=e-b by lia]
def exp (rs:List (Nat×Nat)):'c':=rs.flatMap λ q=>List.replicate q.2 q.1
theorem ph {a:Nat}:∀L:List Nat,L=List.replicate (run a L) a++L.drop (run a L)
 | []=>rfl
 |x::L=>by
  by_cases h:x=a
  ·have e:run a (x::L)=run a L+1:=by rw [run,AK h]
   rw [e,Bh,List.drop_succ_cons,FH,<-ph L,h]
  ·have e:run a (x::L)=0:=by rw [run,AH h]
   rw [e];rfl
theorem pL:∀{n:Nat} {L:List Nat},L.length≤n->exp (rlF n L)=L
 |0,[],_=>rfl
 |0,_::_,h=>by simp at h
 |n+1,[],_=>rfl
 |n+1,a::L,h=>by
  have h':L.length≤n:=by simpa using h
  show List.replicate (1+run a L) a++exp (rlF n (L.drop (run a L)))=_;rw [pL (by rw [Au];exact Ai (EF _ _) h'),EL,Bh,FH,<-ph]
def xv (L:'c'):exp (rl L)=L:=pL (Ak _)
theorem o3:∀{n:Nat} {L:List Nat},∀q∈rlF n L,1≤q.2/\q.2≤L.length/\q.1∈L
 |0,_,q,h=>by cases h
 |n+1,[],q,h=>by cases h
 |n+1,a::L,q,h=>by
  have hr:=jk a L;rcases AB.mp (show q∈(a,1+run a L)::rlF n (L.drop (run a L)) from h) with rfl|h
  ·exact⟨by show 1≤1+run a L;exact BM 1 _,by show 1+run a L≤(a::L).length;rw [Ar];lia,AE⟩
  ·obtain⟨h1,h2,h3⟩:=o3 q h;rw [Au] at h2;exact⟨h1,by rw [Ar];omega,Az _ (DP h3)⟩
def uD {L:'c'}{q:Nat×Nat}(h:q∈rl L):1≤q.2/\q.2≤L.length/\q.1∈L:=o3 q h
def uB (q:Nat×Nat)(b:List (Nat×Nat)):exp (q::b)=List.replicate q.2 q.1++exp b:=by simp [exp]
def pR (rs:List (Nat×Nat)):List (Nat×Nat):=rs.flatMap λ q=>[(q.2-1,6),(q.1,8)]
def rK (a b:List (Nat×Nat)):pR (a++b)=pR a++pR b:=by simp [pR]
def vI (q:Nat×Nat)(b:List (Nat×Nat)):pR (q::b)=(q.2-1,6)::(q.1,8)::pR b:=by simp [pR]
noncomputable def pf:Bool->'c'->List (Nat×Nat)
 |false,T=>T.map λ s=>(s,8)
 |true,T=>pR (rl T)
theorem iS:∀{rs:List (Nat×Nat)},(∀q∈rs,1≤q.2)->rs.length≤(exp rs).length
 | [],_=>Ak _
 |q::rs,h=>by
  have h1:=h q AE;have ih:=iS (rs:=rs) λ z hz=>h z (Az _ hz)
  rw [uB,Ac,Al,Ar];lia
theorem k8:∀rs:List (Nat×Nat),tots (pR rs)=14*rs.length
 | []=>rfl
 |q::rs=>by rw [vI,bU,bU,k8 rs,Ar];show 6+(8+14*rs.length)=_;lia
theorem ng:∀T:List Nat,tots (pf false T)=8*T.length
 | []=>rfl
 |s::T=>by
  show tots ((s,8)::pf false T)=_;rw [bU,ng T,Ar];show 8+8*T.length=_;lia
def y3 {T:'c'}(hT:T.length≤64)(hb:∀b∈T,b<256):∀q∈rl T,1≤q.2/\q.2≤64/\q.1<256:=λ q hq=>by
 obtain⟨h1,h2,h3⟩:=uD hq;exact⟨h1,Ai h2 hT,hb _ h3⟩
end W17
namespace K21
open PySem L2 QQ W17 W16
seal PE PA PS PSs PT PW PG PI
noncomputable def top (i:Nat):F5:=PySem.Challenge.pw_balepress_k21_bodies_refused.main.body.getD i (.Pass ⟨0,0,0,0⟩)
abbrev iA:F5:=top 23
abbrev bQ:F5:=top 24
abbrev bV:F5:=top 25
abbrev iW:F5:=top 26
abbrev cb:F5:=top 27
abbrev cQ:F5:=top 30
abbrev gf:F5:=top 31
abbrev cM:F5:=top 65
abbrev lz:F5:=top 66
abbrev i9:F5:=top 67
abbrev ij:F5:=top 68
abbrev cH:F5:=top 74
abbrev cY:F5:=top 75
abbrev jn:F5:=top 79
abbrev hJ:F5:=top 80
abbrev jE:F5:=top 81
abbrev eE:F5:=top 40
abbrev qh:F5:=top 41
abbrev gB:F5:=top 42
abbrev jo:F5:=top 43
abbrev li:F5:=top 44
abbrev i6:F5:=top 45
abbrev uz:F5:=top 47
abbrev d5:F5:=top 48
abbrev fb:F5:=top 49
abbrev eK:F5:=top 56
abbrev kH:F5:=top 57
abbrev ib:F5:=top 58
abbrev oK:F5:=top 59
abbrev eI:F5:=top 60
abbrev ji:F5:=top 77
abbrev ic:F5:=top 78
abbrev iQ:F5:=top 82
abbrev jC:F5:=top 83
abbrev oV:F5:=bq (top 33) 0
abbrev yj:F5:=bq (top 33) 1
abbrev o9:F5:=bq (top 33) 2
abbrev sI:F5:=bq (top 33) 3
abbrev vZ:F5:=bq (top 33) 4
abbrev kR:F5:=bq (top 50) 0
abbrev sV:F5:=bq (top 50) 1
abbrev oo:F5:=bq (top 50) 2
abbrev pC:F5:=bq (top 84) 3
abbrev kI:F5:=bq (top 88) 2
abbrev iy:F5:=bq (top 88) 1
abbrev gO:F5:=top 76
abbrev gk:F5:=bq (top 85) 1
abbrev iN:F5:=bq (top 85) 2
abbrev gn:F5:=bq (top 86) 1
abbrev jt:F5:=bq (top 86) 2
abbrev fz:F5:=bq (top 87) 1
abbrev gR:F5:=bq (top 87) 2
abbrev u9:F5:=top 89
abbrev eY:F5:=top 90
abbrev vN (n:Nat):V:=.int (n:Int)
structure Txt (K:Frag)(mg:Str->Option FS):Prop where
 isi:mg "isinstance"=none
 bool:mg "bool"=none
 int:mg "int"=none
 list:mg "list"=none
 len:mg "len"=none
 range:mg "range"=none
 max:mg "max"=none
 min:mg "min"=none
 great:∃t,mg "GREATEST"=some (.int 255 t)
 most:∃t,mg "MOST_SIZE"=some (.int 24 t)
 signs:∃t,mg "MOST_SIGNS"=some (.int 64 t)
 ahead:∃t,mg "MOST_AHEAD"=some (.int 192 t)
 far:∃t,mg "FARTHEST"=some (.int 255 t)
 least:∃t,mg "LEAST_COPIED"=some (.int 3 t)
 mostC:∃t,mg "MOST_COPIED"=some (.int 18 t)
 sum:mg "sum"=none
 enum:mg "enumerate"=none
 sort:mg "sorted"=none
 bits:∃t,mg "MOST_BITS"=some (.int 6 t)
 mlen:∃t,mg "MOST_LENGTH"=some (.int 12 t)
 things:∃t,mg "MOST_THINGS"=some (.int 300 t)
 count:∃t,mg "MOST_COUNT"=some (.int 1000000 t)
 many:∃t,mg "MANY"=some (.int 272 t)
 again:∃t,mg "AGAIN"=some (.int 7 t)
 leastA:∃t,mg "LEAST_AGAIN"=some (.int 3 t)
 mostA:∃t,mg "MOST_AGAIN"=some (.int 66 t)
 first:∃t,mg "FIRST_COPY"=some (.int 256 t)
 isnumb:∃(f:FR) (fd:FW),Hb K "is_number" "is_number" iA f fd/\mg "is_number"=↑f/\Binds K fd Jaf []
structure Fn (K:Frag)(mg:Str->Option FS)(x:Str)(st:F5)(ps:List Str)(f:FR)(fd:FW):Prop where
 F:Hb K x x st f fd
 m:mg x=↑f
 b:Binds K fd ps []
structure Me (K:Frag)(C:FR)(x qual:Str)(st:F5)(ps:List Str)(f:FR)(fd:FW):Prop where
 F:Hb K x qual st f fd
 m:Meth K C x f
 b:Binds K fd ps []
section
variable (K:Frag)
def uv:kitOne K (.type "int") (.type "bool")=some false:=by
 show(if(Value.type "int"==Value.type "bool")=true then some true else if kitMeta "bool"=true then(fastBuiltinMro "int").map (·.contains (.type "bool")) else none)=some false;decide+kernel
def uU:kitOne K (.type "int") (.type "int")=some true:=by
 show(if(Value.type "int"==Value.type "int")=true then some true else if kitMeta "int"=true then(fastBuiltinMro "int").map (·.contains (.type "int")) else none)=some true;decide+kernel
def nN:kitOne K (.type "list") (.type "list")=some true:=by
 show(if(Value.type "list"==Value.type "list")=true then some true else if kitMeta "list"=true then(fastBuiltinMro "list").map (·.contains (.type "list")) else none)=some true;decide+kernel
end
def Gr:vN x=vN y<->x=y:=by
 constructor
 ·intro h;injection h with h
  exact Int.ofNat_inj.mp h
 ·rintro rfl;rfl
def di {S:'c'}(h:i<S.length):(S.map vN)[i]?=some (vN S[i]):=by simp [h]
def ck {B:'c'}{i:Nat}(h:(B.map vN)[i]?=some y):∃b,B[i]?=some b/\y=vN b:=by
 rw [AU] at h;cases e:B[i]? with
 |none=>rw [e] at h;cases h
 |some z=>rw [e] at h;exact⟨z,rfl,(AJ h).symm⟩
def dY {B:'c'}(h:B[i]?=some b):B.take (i+1)=B.take i++[b]:=by rw [Bl,h];rfl
def dO (h:n≤2000):n≤sizeLine:=Ai h Z9
def bA (h:n≤2000):n<sizeLine:=Be h Z9
inductive spWhole (vs:List V) (H:Hp) (Q:VK) (Gj:XK):Prop
 |mk (i:_) (lo:_) (hi:_) (h0:vs=[.int i,.int lo,.int hi]) (h1:Q (.bl (decide (lo≤i)&&decide (i≤hi))) H):spWhole vs H Q Gj
def qp:y' Jaa Jaa (am bQ):=Gw Z8
inductive spNumb (vs:List V) (H:Hp) (Q:VK) (Gj:XK):Prop
 |mk (x:_) (b:_) (h0:vs=[x]) (h1:((∃i,x=.int i)/\b=true)) (h2:Q (.bl b) H):spNumb vs H Q Gj
def sC:y' Jaf Jaf (am iA):=Gw Z8
def ly (F:Hb K "is_number" "is_number" iA f fd)(T:Txt K mg):'a' Gn 0 f fd Jaf spNumb:=by
 refine F.ok0 sC λ F8 A outer s H vs Q E h=>?_
 intro _;obtain⟨x,b,rfl,hw,k⟩:=h;refine⟨_,ag (aB (gQ (ay dX Z7 T.isi BB (aa (pv 0) (aa (eB (v:=.ty "int") Z7 T.int EI rfl) ac))) (g8 (uX (ay dX Z7 T.isi BB (aa (pv 0) (aa (eB (v:=.ty "bool") Z7 T.bool PyProof.Rows.boot_bool rfl) ac))))))),?_⟩;obtain⟨⟨i,rfl⟩,rfl⟩:=hw;refine⟨_,rfl,_,_,_,_,rfl,.int _,uU K,_,rfl,eQ ?_⟩;exact⟨_,rfl,_,_,_,_,rfl,.int _,uv K,_,rfl,k⟩
def dD (F:'h' "is_whole" bQ Jaa f fd)(T:Txt K mg):'a' Gn 1 f fd Jaa spWhole:=by
 obtain⟨fN,Ng,NF,Nm,Nb⟩:=T.isnumb;refine F.F.ok qp ?_
 intro 'b';obtain⟨i,lo,hi,rfl,k⟩:=h;refine⟨_,ag (aB (gQ (ap (ly NF T) hr Z7 Nm NF.kp Nb .nil az (aa (pv 0) ac)) (g8 (jh jL jL (pv 1) (pv 0) (pv 2))))),?_⟩;refine⟨_,rfl,_,true,rfl,⟨⟨i,rfl⟩,rfl⟩,_,rfl,eQ ?_⟩;refine⟨_,rfl,_,rfl,_,_,rfl,rfl,_,rfl,?_⟩;refine bc (λ h1=>?_) (λ h1=>?_)
 ·refine⟨_,rfl,_,_,rfl,rfl,?_⟩;rw [h1,Bool.true_and] at k;exact k
 ·have h2:decide (lo≤i)=false:=by simpa using h1
  rw [h2,Fq] at k;exact k
inductive spAreWhole (vs:List V) (H:Hp) (Q:VK) (Gj:XK):Prop
 |mk (a:FR) (B:'c') (lo hi:Int) (h0:vs=[.ref a,.int lo,.int hi]) (h1:H a=↥(B.map vN)) (h2:(∀b∈B,lo≤(b:Int)/\(b:Int)≤hi)) (h3:Q (.bl true) H):spAreWhole vs H Q Gj
def HE:y' ["thing","least","most","number"] Jaa (am bV):=Gw Z8
def dg {P:FU}(F:'h' "are_whole" bV Jaa f fd)(W:'h' "is_whole" bQ Jaa fW JV)(T:Txt K mg):'a' Gn 2 f fd Jaa spAreWhole:=by
 have GW:'a' Gn 1 fW JV Jaa spWhole:=dD W T;refine F.F.ok HE ?_
 intro 'b';obtain⟨a,B,lo,hi,rfl,hB,hb,k⟩:=h;refine⟨_,ad (aM (cv (bX (ay dX Z7 T.isi BB (aa (pv 0) (aa (eB (v:=.ty "list") Z7 T.list Cy rfl) ac))))) (ag (aB cO)) aF)
  (ad (bp AV rfl (bi (pv 0)) (aG (i:=3) HE.nd)
   (ag (aM (cv (bX (ap GW hr Z7 W.m W.F.kp W.b .nil az (aa (pv 3) (aa (pv 1) (aa (pv 2) ac)))))) (ag (aB cO)) aF)))
  (ag (aB cO))),?_⟩
 refine⟨_,rfl,_,_,_,_,rfl,.lst hB,nN K,_,rfl,cV ?_⟩;refine⟨_,rfl,a,rfl,⟨_,Gf.of hB⟩,bH (λ i σ H2=>∃v,σ=[↑a,some (.int lo),some (.int hi),v]/\H2=H)
  ⟨none,rfl,rfl⟩ (λ i σ H2 _ z9=>by obtain⟨_,_,e⟩:=z9;exact by rw [e];exact Gf.of hB) ?_ ?_⟩
 ·rintro i y σ H2 hi ⟨v,rfl,rfl⟩;obtain⟨b,Ib,rfl⟩:=ck hi;obtain⟨h2,h3⟩:=hb b (AX Ib);refine⟨_,rfl,_,rfl,_,rfl,_,_,_,rfl,_,rfl,?_⟩;rw [Ae h2,Ae h3];exact cV ⟨_,rfl,rfl⟩
 ·rintro σ H2 ⟨v,rfl,rfl⟩;exact k
inductive spIsRow (vs:List V) (H:Hp) (Q:VK) (Gj:XK):Prop
 |mk (a:FR) (B:'c') (h0:vs=[.ref a]) (h1:H a=↥(B.map vN)) (h2:(∀b∈B,b<256)) (h3:Q (.bl true) H):spIsRow vs H Q Gj
def pM:y' Jaf Jaf (am iW):=Gw Z8
structure Rows (K:Frag)(mg:Str->Option FS):Prop where
 X:Txt K mg
 whole:∃f fd,'h' "is_whole" bQ Jaa f fd
 arewhole:∃f fd,'h' "are_whole" bV Jaa f fd
 isrow:∃f fd,'h' "is_row" iW Jaf f fd
def iP {P:FU}(F:'h' "is_row" iW Jaf f fd)(Y:Rows K mg):'a' Gn 3 f fd Jaf spIsRow:=by
 obtain⟨T,⟨_,_,W⟩,⟨_,_,AW⟩,_⟩:=Y;obtain⟨tg,hg⟩:=T.great;refine F.F.ok pM ?_
 intro 'b';obtain⟨a,B,rfl,hB,hb,k⟩:=h;refine⟨_,ag (aB (ap (dg AW W T) hr Z7 AW.m AW.F.kp AW.b .nil az (aa (pv 0) (aa ae (aa (aJ (v:=.int 255) Z7 hg ⟨tg,rfl⟩) ac))))),?_⟩;exact⟨_,rfl,a,B,0,255,rfl,hB,λ b z=>by have:=hb b z;lia,k⟩
inductive spNeedRow (vs:List V) (H:Hp) (Q:VK) (Gj:XK):Prop
 |mk (a:FR) (B:'c') (h0:vs=[.ref a]) (h1:H a=↥(B.map vN)) (h2:(∀b∈B,b<256)) (h3:∀l,H l=none->Q (.ref l) (upd H l (.lst (B.map vN)))):spNeedRow vs H Q Gj
def j8:y' Jaf Jaf (am cb):=Gw Z8
def cX {P:FU}(F:'h' "need_row" cb Jaf f fd)(Y:Rows K mg):'a' Gn 4 f fd Jaf spNeedRow:=by
 obtain⟨fR,QC,R⟩:=Y.isrow;have T:=Y.X;refine F.F.ok j8 ?_
 intro 'b';obtain⟨a,B,rfl,hB,hb,k⟩:=h;refine⟨_,ad (aM (cv (bX (ap (iP R Y) hr Z7 R.m R.F.kp R.b .nil az (aa (pv 0) ac)))) (ag bN) aF)
  (ag (aB (cK dt Z7 T.list Cy (aa (pv 0) ac)))),?_⟩
 refine⟨_,rfl,a,B,rfl,hB,hb,_,rfl,cV ?_⟩;exact⟨_,rfl,a,_,rfl,.inl (Gf.of hB),k⟩
inductive spNeedSize (vs:List V) (H:Hp) (Q:VK) (Gj:XK):Prop
 |mk (s:_) (h0:vs=[vN s]) (h1:s≤24) (h2:Q .non H):spNeedSize vs H Q Gj
def nL:y' Jak Jak (am cQ):=Gw Z8
def il (F:'h' "need_size" cQ Jak f fd)(W:'h' "is_whole" bQ Jaa fW JV)(T:Txt K mg):'a' Gn 2 f fd Jak spNeedSize:=by
 have GW:'a' Gn 1 fW JV Jaa spWhole:=dD W T;obtain⟨tg,hg⟩:=T.most;refine F.F.ok nL ?_
 intro 'b';obtain⟨z,rfl,hz,k⟩:=h;refine⟨_,ag (aM (cv (bX (ap GW hr Z7 W.m W.F.kp W.b .nil az (aa (pv 0) (aa ae (aa (aJ (v:=.int 24) Z7 hg ⟨tg,rfl⟩) ac)))))) (ag bN) aF),?_⟩;refine⟨_,rfl,_,_,_,rfl,_,rfl,?_⟩;have e1:(decide ((0:Int)≤(z:Int))&&decide ((z:Int)≤24))=true:=by
  rw [Ae Z5,Ae (by exact Nat.ToInt.of_le rfl rfl hz)];rfl
 rw [e1];exact cV k
inductive spOnes (vs:List V) (H:Hp) (Q:VK) (Gj:XK):Prop
 |mk (s:_) (h0:vs=[vN s]) (h1:s≤1000) (h2:Q (vN (2^s-1)) H):spOnes vs H Q Gj
def xz:y' Jak Jak (am gf):=Gw Z8
def k6 (F:'h' "ones" gf Jak f fd):'a' Gn 1 f fd Jak spOnes:=by
 refine F.F.ok xz ?_
 intro 'b';obtain⟨z,rfl,hz,k⟩:=h;refine⟨_,ag (aB (ao bd (ao dP ae (pv 0)) ae)),?_⟩;refine⟨_,rfl,_,_,rfl,rfl,⟨BG _,Z5,Z9⟩,_,_,rfl,rfl,?_⟩;have e1:(1:Int)*2^(z:Int).toNat-1=⇑(2^z-1):=by
  have:=BP.JC z;rw [AM,FQ];have e2:⇑(2^z)=(2:Int)^z:=Z6;exact(DM this).symm
 try dsimp only
 rw [e1];exact k
def ms (a b k)(h:b<2^k):(a*2^k)&&& b=0:=by
 have e1:b&&& (2^k-1)=b:=by rw [Dk,CI h]
 have e2:(a*2^k)&&& (2^k-1)=0:=by rw [Dk,Nat.mul_mod_left]
 have e3:(a*2^k)&&& (b&&& (2^k-1))=((a*2^k)&&& (2^k-1))&&& b:=by rw [Nat.and_comm b,Nat.and_assoc]
 rw [e1,e2,Nat.zero_and] at e3;exact e3
def ny (k):⇑(2^k)=(2:Int)^k:=Z6
def nO (a b k:Nat)(h:b<2^k):Builtin.bitOr ((a:Int)*2^(k:Int).toNat) (b:Int)=⇑(a*2^k+b):=by
 have e0:(a:Int)*2^(k:Int).toNat=⇑(a*2^k):=by rw [AM,Int.natCast_mul,ny]
 rw [e0,PyProof.Rows.bitOr_and,PyProof.Rows.bitAnd_pp (BG (_*2^_)) (BG _),AM,AM,ms a b k h];exact FP ((λ {a b}=>Int.neg_inj.mp) rfl)
def mE (x k:Nat):Builtin.bitAnd (x:Int) ⇑(2^k-1)=⇑(x%2^k):=by
 rw [PyProof.Rows.bitAnd_pp (BG _) Z5,AM,AM,Dk]
def pA (x k:Nat):(x:Int)/2^(k:Int).toNat=⇑(x/2^k):=by
 rw [AM,<-ny];rfl
def wo {B:'c'}(hm:m≤n)(hn:n≤B.length):cutV (B.map vN) (some (m:Int)) (some (n:Int))=((B.take n).drop m).map vN:=by
 unfold cutV;rw [HT.HP,HT.HP,Aa,Bu hn,Bu (Ai hm hn),E3,Eh,Fs]
inductive JA (vs:List V) (H:Hp) (Q:VK) (Gj:XK):Prop
 |mk (a:_) (B:_) (p:_) (s:_) (h0:vs=[.ref a,vN p,vN s]) (h1:H a=↥(B.map vN)) (h2:(∀b∈B,b<256)) (h3:p+s≤8*B.length) (h4:s≤24) (h5:∀H',C' H H'->Q (vN (BP.val B/2^(8*B.length-(p+s))%2^s)) H'):JA vs H Q Gj
def sF:¬(("whole_bytes":Str)="rest"):=Z8
def vW:¬(("whole_bytes":Str)="rest_size"):=Z8
def wn:¬(("rest":Str)="rest_size"):=Z8
noncomputable def fW (d:FR) (r k:Nat):List (Str×V):=[("whole_bytes",.ref d),("rest",vN r),("rest_size",vN k)]
def xf (d):putF "rest_size" (.int 0) (putF "rest" (.int 0) (putF "whole_bytes" (.ref d) []))=fW d 0 0:=by
 show(putF "rest_size" (.int 0) (if("whole_bytes":Str)="rest" then _ else(("whole_bytes":Str),V.ref d):: [("rest",V.int 0)]))=_;rw [AH sF];show(if("whole_bytes":Str)="rest_size" then _ else(("whole_bytes":Str),V.ref d)::(if("rest":Str)="rest_size" then _ else(("rest":Str),V.int 0):: [("rest_size",V.int 0)]))=_;rw [AH vW,AH wn];rfl
def qk (d)(r k r'):putF "rest" (vN r') (fW d r k)=fW d r' k:=by
 show(if("whole_bytes":Str)="rest" then _ else(("whole_bytes":Str),V.ref d)::(if("rest":Str)="rest" then(("rest":Str),vN r'):: [("rest_size",vN k)] else _))=_;rw [AH sF,AK rfl];rfl
def pq (d)(r k k'):putF "rest_size" (vN k') (fW d r k)=fW d r k':=by
 show(if("whole_bytes":Str)="rest_size" then _ else(("whole_bytes":Str),V.ref d)::(if("rest":Str)="rest_size" then _ else(("rest":Str),vN r)::(if("rest_size":Str)="rest_size" then [(("rest_size":Str),vN k')] else _)))=_;rw [AH vW,AH wn,AK rfl];rfl
def qj (d)(r k):fW d r k=putF "rest_size" (vN k) (putF "rest" (vN r) (putF "whole_bytes" (.ref d) [])):=by
 have h:=xf d;have h2:putF "rest" (vN r) (putF "whole_bytes" (.ref d) [])=[(("whole_bytes":Str),V.ref d),("rest",vN r)]:=by
  show(if("whole_bytes":Str)="rest" then _ else(("whole_bytes":Str),V.ref d):: [("rest",vN r)])=_;rw [AH sF]
 rw [h2];show _=(if("whole_bytes":Str)="rest_size" then _ else(("whole_bytes":Str),V.ref d)::(if("rest":Str)="rest_size" then _ else(("rest":Str),vN r):: [("rest_size",vN k)]));rw [AH vW,AH wn];rfl
def mr (d)(r k):(fW d r k).lookup ("whole_bytes":Str)=↑d:=by
 rw [qj,aK,AH vW,aK,AH sF,aK,AK rfl]
def i5 (d)(r k):(fW d r k).lookup ("rest":Str)=some (vN r):=by
 rw [qj,aK,AH wn,aK,AK rfl]
def d7 (d)(r k):(fW d r k).lookup ("rest_size":Str)=some (vN k):=by
 rw [qj,aK,AK rfl]
def dj (d)(r k){m:Str}(h1:autoParam (¬m="rest_size") ZY)(h2:autoParam (¬m="rest") ZY)(h3:autoParam (¬m="whole_bytes") ZY):(fW d r k).lookup m=none:=by
 rw [qj,aK,AH h1,aK,AH h2,aK,AH h3];rfl
def kJ (d)(r k):(fW d r k).length<1000:=by show 3<1000;decide
def Gh (C:FR)(H:Hp)(p d:FR)(N T:Nat):Prop:=∃dx B r k,H p=some (.ins C dx (fW d r k))/\H d=↥(B.map vN)/\BP.BR N T B r k/\k<8
structure CB (K:Frag)(mg:Str->Option FS)(C:FR):Prop where
 cl:Cls K C
 nW:NoAttr K C "whole_bytes"
 nR:NoAttr K C "rest"
 nS:NoAttr K C "rest_size"
inductive Mv (C:FR) (vs:List V) (H:Hp) (Q:VK) (Gj:XK):Prop
 |mk (p:_) (dx:_) (h0:vs=[.ref p]) (h1:H p=some (.ins C dx [])) (h2:∀d H',H d=none->Gh C H' p d 0 0->(∀b o,H b='g'->b≠p->H' b='g')->Q .non H'):Mv C vs H Q Gj
def vH:y' Jah Jah (am oV):=Gw Z8
def iV (F:Hb K "__init__" "BitRow.__init__" oV f fd)(T:CB K mg C):'a' Gn 1 f fd Jah (Mv C):=by
 refine F.ok vH ?_
 intro 'b';obtain⟨p,dx,rfl,hp,k⟩:=h;refine⟨_,ad (cF (pv 0) (aH ac) rfl) (ad (cF (pv 0) ae rfl) (ag (cF (pv 0) ae rfl))),?_⟩;refine⟨A1 _,λ d hd=>?_⟩;have Iv:p≠d:=ai hp hd;refine⟨_,rfl,p,C,dx,[],rfl,(by rw [aj Iv];exact hp),T.cl,T.nW,(by show 0<1000;decide),_,rfl,p,C,dx,_,rfl,af,T.cl,T.nR,(by show 1<1000;decide),?_⟩;refine⟨_,rfl,p,C,dx,_,rfl,af,T.cl,T.nS,?_,?_⟩
 ·show(if("whole_bytes":Str)="rest" then _ else(("whole_bytes":Str),V.ref d):: [("rest",V.int 0)]).length<1000
  try dsimp only
  rw [AH sF];show 2<1000;decide
 refine k d _ hd ⟨dx,[],0,0,Eq.trans af (Bx (λ l=>some (HO.ins C dx l)) (xf d)),by rw [aj Iv.symm,aj Iv.symm,aj Iv.symm,af];rfl,BP.BR.init,Z9⟩ λ b o e hb=>?_
 rw [aj hb,aj hb,aj hb,aj (ai e hd)];exact e
inductive spMove (C:FR) (vs:List V) (H:Hp) (Q:VK) (Gj:XK):Prop
 |mk (p:_) (d:_) (dx:_) (B:_) (r:_) (k:_) (h0:vs=[.ref p]) (h1:H p=some (.ins C dx (fW d r (k+8)))) (h2:H d=↥(B.map vN)) (h3:B.length≤1000) (h4:k≤100) (h5:∀H',H' p=some (.ins C dx (fW d (r%2^k) k))->H' d=↥((B++[r/2^k]).map vN)->(∀c o,H c='g'->c≠p->c≠d->H' c='g')->Q .non H'):spMove C vs H Q Gj
def xq:y' Jah Jah (am o9):=Gw Z8
def vD (F:Hb K "move_byte" "BitRow.move_byte" o9 f fd)(O:'h' "ones" gf Jak fO RA)(T:CB K mg C):'a' Gn 2 f fd Jah (spMove C):=by
 have GO:'a' Gn 1 fO RA Jak spOnes:=k6 O;refine F.ok xq ?_
 intro 'b';obtain⟨p,d,dx,B,r,k,rfl,hp,hd,hB,hk,q⟩:=h;have Iv:p≠d:=aT hp hd 'f';refine⟨_,ad (cF (pv 0) (ao bd (bB (pv 0) rfl) ae) rfl)
  (ad (aE (d8 Bc Bp By bO (bB (pv 0) rfl) (aa (ao og (bB (pv 0) rfl) (bB (pv 0) rfl)) ac)))
  (ag (cF (pv 0) (ao sU (bB (pv 0) rfl) (ap GO hr Z7 O.m O.F.kp O.b .nil az (aa (bB (pv 0) rfl) ac))) rfl))),?_⟩
 have e1:(((k+8:Nat)):Int)-8=(k:Int):=Int.sub_eq_iff_eq_add.mpr rfl;refine⟨_,rfl,p,C,dx,_,_,rfl,hp,T.cl,T.nS,d7 _ _ _,_,_,rfl,rfl,_,rfl,p,C,dx,_,rfl,hp,T.cl,T.nS,kJ _ _ _,?_⟩
 try dsimp only
 rw [e1,pq];have Kw:(upd H p (.ins C dx (fW d r k))) p=some (.ins C dx (fW d r k)):=af;have VT:(upd H p (.ins C dx (fW d r k))) d=↥(B.map vN):=by rw [aj Iv.symm];exact hd
 refine⟨_,rfl,p,C,dx,_,_,rfl,Kw,T.cl,T.nW,mr _ _ _,.inl ⟨rfl,_,Gf.of VT⟩,?_⟩;refine⟨_,rfl,p,C,dx,_,_,rfl,Kw,T.cl,T.nR,i5 _ _ _,_,rfl,p,C,dx,_,_,rfl,Kw,T.cl,T.nS,d7 _ _ _,_,_,rfl,rfl,Z4,?_⟩;refine⟨d,_,_,rfl,rfl,VT,rO (by rw [Aa];exact hB),?_⟩
 try dsimp only
 rw [pA];generalize XC:upd (upd H p (.ins C dx (fW d r k))) d (.lst (B.map vN++[vN (r/2^k)]))=H2;have Hw:H2 p=some (.ins C dx (fW d r k)):=by rw [<-XC,aj Iv];exact Kw
 have hd2:H2 d=↥((B++[r/2^k]).map vN):=by rw [<-XC,af,Aw];rfl
 have HX:∀c o,H c='g'->c≠p->c≠d->H2 c='g':=λ c o e n1 n2=>by rw [<-XC,aj n2,aj n1];exact e
 refine⟨_,rfl,p,C,dx,_,_,rfl,Hw,T.cl,T.nR,i5 _ _ _,_,rfl,p,C,dx,_,_,rfl,Hw,T.cl,T.nS,d7 _ _ _,k,rfl,Ai hk Z9,_,_,rfl,rfl,?_⟩
 try dsimp only
 rw [mE];refine⟨_,rfl,p,C,dx,_,rfl,Hw,T.cl,T.nR,kJ _ _ _,?_⟩
 try dsimp only
 rw [qk];refine q _ af (by rw [aj Iv.symm];exact hd2) λ c o e n1 n2=>?_
 rw [aj n1];exact HX c o e n1 n2
inductive P7 (C:FR) (vs:List V) (H:Hp) (Q:VK) (Gj:XK):Prop
 |mk (p:_) (d:_) (N:_) (T:_) (n:_) (s:_) (h0:vs=[.ref p,vN n,vN s]) (h1:Gh C H p d N T) (h2:T≤4000) (h3:s≤24) (h4:n<2^s) (h5:∀H',Gh C H' p d (N*2^s+n) (T+s)->(∀c o,H c='g'->c≠p->c≠d->H' c='g')->Q .non H'):P7 C vs H Q Gj
def zn:y' ["self","number","size"] ["self","number","size"] (am yj):=Gw Z8
def g7 (F:Hb K "put" "BitRow.put" yj f fd)(S:'h' "need_size" cQ Jak fS V2)(W:'h' "is_whole" bQ Jaa RC JV)
  (O:'h' "ones" gf Jak fO RA) (M:Me K C "move_byte" "BitRow.move_byte" o9 Jah fM fdM) (T:CB K mg C) (X:Txt K mg):'a' Gn 3 f fd ["self","number","size"] (P7 C):=by
 have GO:'a' Gn 1 fO RA Jak spOnes:=k6 O;have GW:'a' Gn 1 RC JV Jaa spWhole:=dD W X;have GS:'a' Gn 2 fS V2 Jak spNeedSize:=il S W X;have GM:'a' Gn 2 fM fdM Jah (spMove C):=vD M.F O T;refine F.ok zn ?_
 intro 'a';obtain⟨p,d,N,T',n,s,rfl,⟨dx,B,r,k,hp,hd,br,hk8⟩,hT,hs,hn,q⟩:=h;have Iv:p≠d:=aT hp hd 'f';have Gz:Ge 1 _:=hr.mono Z9;refine⟨_,ad (aE (ap GS hr Z7 S.m S.F.kp S.b .nil az (aa (pv 2) ac)))
  (ad (aM (cv (bX (ap GW Gz Z7 W.m W.F.kp W.b .nil az (aa (pv 1) (aa ae (aa (ap GO Gz Z7 O.m O.F.kp O.b .nil az (aa (pv 2) ac)) ac)))))) (ag bN) aF)
  (ad (cF (pv 0) (ao um (ao dP (bB (pv 0) rfl) (pv 2)) (pv 1)) rfl)
  (ad (cF (pv 0) (ao aI (bB (pv 0) rfl) (pv 2)) rfl)
  (ag (cA AV (aA uo (bB (pv 0) rfl) ae (aC _)) (ag (aE (cx (pv 0) T.cl M.m GM hr M.b .nil az)))))))),?_⟩
 refine⟨_,rfl,s,rfl,hs,?_⟩;refine⟨_,rfl,_,rfl,s,rfl,Z5,_,_,_,rfl,_,rfl,?_⟩;have e1:(decide ((0:Int)≤(n:Int))&&decide ((n:Int)≤⇑(2^s-1)))=true:=by
  rw [Ae (BG _),Ae Z5];rfl
 try dsimp only
 rw [e1];refine cV ?_;have hr128:r<128:=Ap br.low ((Cv Z9 (B4 hk8):2^k≤2^7));refine⟨_,rfl,p,C,dx,_,_,rfl,hp,T.cl,T.nR,i5 _ _ _,_,rfl,_,_,rfl,rfl,⟨BG _,Z5,Z4⟩,_,rfl,_,_,rfl,rfl,?_⟩
 try dsimp only
 rw [nO r n s hn];refine⟨_,rfl,p,C,dx,_,rfl,hp,T.cl,T.nR,kJ _ _ _,?_⟩
 try dsimp only
 rw [qk];have Kw:∀o,(upd H p o) p='g':=λ _=>af
 refine⟨_,rfl,p,C,dx,_,_,rfl,Kw _,T.cl,T.nS,d7 _ _ _,_,rfl,_,_,rfl,rfl,_,rfl,p,C,dx,_,rfl,Kw _,T.cl,T.nS,kJ _ _ _,?_⟩;have e2:(k:Int)+(s:Int)=⇑(k+s):=Z5
 try dsimp only
 rw [e2,pq];have br1:=br.put hn;generalize XD:upd (upd H p (.ins C dx (fW d (r*2^s+n) k))) p (.ins C dx (fW d (r*2^s+n) (k+s)))=H1;have VH:H1 p=some (.ins C dx (fW d (r*2^s+n) (k+s))):=by rw [<-XD];exact af
 have VS:H1 d=↥(B.map vN):=by rw [<-XD,aj Iv.symm,aj Iv.symm];exact hd
 have HX:∀c o,H c='g'->c≠p->c≠d->H1 c='g':=λ c o e n1 _=>by rw [<-XD,aj n1,aj n1];exact e
 refine⟨λ m σ H2=>σ=[↑p,some (vN n),some (vN s)]/\∃B2 r2,H2 p=some (.ins C dx (fW d r2 m))/\H2 d=↥(B2.map vN)/\BP.BR (N*2^s+n) (T'+s) B2 r2 m/\m≤40/\(∀c o,H c='g'->c≠p->c≠d->H2 c='g'),
  ⟨k+s,rfl,B,_,VH,VS,br1,Z5,HX⟩,?_⟩
 rintro m σ H2 ⟨rfl,B2,r2,Hw,hd2,V4,hm,Um⟩;refine⟨_,rfl,p,C,dx,_,_,rfl,Hw,T.cl,T.nS,d7 _ _ _,_,_,rfl,rfl,_,rfl,?_⟩;refine bc (λ h1=>?_) (λ h1=>?_)
 ·have h8:8≤m:=by have:=Am h1;lia
  obtain⟨m',rfl⟩:∃m',m=m'+8:=⟨m-8,Z5⟩;have O2:B2.length≤1000:=by have:=V4.tot;lia
  refine⟨_,λ σ' H' h=>h,_,rfl,p,dx,_,rfl,Hw,dj _ _ _,p,d,dx,B2,r2,m',rfl,Hw,hd2,O2,Z5,λ H3 M9 hd3 NQ=>?_⟩;exact⟨m',Z5,rfl,_,_,M9,hd3,V4.move,Z5,λ c o e n1 n2=>NQ c o (Um c o e n1 n2) n1 n2⟩
 ·have h8:m<8:=by
   have KD:decide ((8:Int)≤(m:Int))≠true:=h1;by_cases h:(8:Int)≤(m:Int)
   ·exact absurd (Ae h) KD
   ·lia
  exact q H2 ⟨dx,B2,r2,m,Hw,hd2,V4,h8⟩ Um
inductive LJ (C:FR) (vs:List V) (H:Hp) (Q:VK) (Gj:XK):Prop
 |mk (p:_) (d:_) (N:_) (T:_) (h0:vs=[.ref p]) (h1:Gh C H p d N T) (h2:Q (vN T) H):LJ C vs H Q Gj
def ya:y' Jah Jah (am sI):=Gw Z8
def pb (F:Hb K "many" "BitRow.many" sI f fd)(T:CB K mg C)(X:Txt K mg):'a' Gn 1 f fd Jah (LJ C):=by
 refine F.ok ya ?_
 intro 'a';obtain⟨p,d,N,T',rfl,⟨dx,B,r,k,hp,hd,br,hk8⟩,q⟩:=h;refine⟨_,ag (aB (ao aI (ao eV ae (ay ax Z7 X.len Ay (aa (bB (pv 0) rfl) ac))) (bB (pv 0) rfl))),?_⟩;refine⟨_,rfl,p,C,dx,_,_,rfl,hp,T.cl,T.nW,mr _ _ _,d,_,rfl,.inl (Gf.of hd),_,_,rfl,rfl,.inl ⟨Z9,Z9⟩,?_⟩;refine⟨_,rfl,p,C,dx,_,_,rfl,hp,T.cl,T.nS,d7 _ _ _,_,_,rfl,rfl,?_⟩;have e:(8:Int)*((B.map vN).length:Int)+(k:Int)=(T':Int):=by rw [Aa,br.tot];lia
 try dsimp only
 rw [e];exact q
def yd:¬(("held":Str)="taken"):=Z8
noncomputable def fR (d:FR) (t:Nat):List (Str×V):=[("held",.ref d),("taken",vN t)]
def qe (d)(t):putF "taken" (vN t) (putF "held" (.ref d) [])=fR d t:=by
 show(if("held":Str)="taken" then _ else(("held":Str),V.ref d):: [("taken",vN t)])=_;rw [AH yd];rfl
def ui (d)(t t'):putF "taken" (vN t') (fR d t)=fR d t':=by
 show(if("held":Str)="taken" then _ else(("held":Str),V.ref d)::(if("taken":Str)="taken" then [(("taken":Str),vN t')] else _))=_;rw [AH yd,AK rfl];rfl
def jD (d)(t):(fR d t).lookup ("held":Str)=↑d:=by
 rw [<-qe,aK,AH yd,aK,AK rfl]
def gJ (d)(t):(fR d t).lookup ("taken":Str)=some (vN t):=by
 rw [<-qe,aK,AK rfl]
def dL (d)(t){m:Str}(h1:autoParam (¬m="taken") ZY)(h2:autoParam (¬m="held") ZY):(fR d t).lookup m=none:=by
 rw [<-qe,aK,AH h1,aK,AH h2];rfl
def uS (d)(t):(fR d t).length<1000:=by show 2<1000;decide
end K21
namespace K21
open PySem L2 QQ W17 W16 BP
seal PE PA PS PSs PT PW PG PI
def xn (R:'c'):R.map vN=(R.map λ b=>⇑b).map V.int:=by
 rw [BO];rfl
def Hd (H:Hp)(x:V)(W:'c'):Prop:=(x=.non/\W=[])\/∃a,x=.ref a/\H a=↥(W.map vN)
def Hd.same {H H':Hp}{x:V}(h:Hd H x W)(s:C' H H'):Hd H' x W:=by
 rcases h with h|⟨a,e,h⟩
 ·exact .inl h
 ·exact .inr ⟨a,e,s _ _ h⟩
inductive Ie (H:Hp):List FR->List (Nat×Nat)->Prop
 |nil:Ie H [] []
 |cons {t:FR} {q:Nat×Nat} {ts:List FR} {ps:List (Nat×Nat)}:H t=some (.tup [vN q.1,vN q.2])->Ie H ts ps->Ie H (t::ts) (q::ps)
def Ie.keep (h:Ie H ts ps)(s:∀c xs,H c=some (.tup xs)->H' c=some (.tup xs)):Ie H' ts ps:=by
 induction h with
 |nil=>exact .nil
 |cons a _ ih=>exact .cons (s _ _ a) ih
def Ie.mono (h:Ie H ts ps)(s:C' H H'):Ie H' ts ps:=h.keep λ c xs e=>s _ _ e
def Ie.app (h:Ie H ts ps)(g:Ie H us qs):Ie H (ts++us) (ps++qs):=by
 induction h with
 |nil=>exact g
 |cons a _ ih=>exact .cons a ih
def Ie.len (h:Ie H ts ps):ts.length=ps.length:=by
 induction h with
 |nil=>rfl
 |cons a _ ih=>rw [Ar,Ar,ih]
theorem Ie.at (h:Ie H ts ps):∀{i:Nat} {t},ts[i]?=some t->∃q,ps[i]?=some q/\H t=some (.tup [vN q.1,vN q.2]):=by
 induction h with
 |nil=>intro i t h;simp at h
 |cons a _ ih=>
  intro i t h;cases i with
  |zero=>simp at h;subst h;exact⟨_,rfl,a⟩
  |succ i=>simp at h;exact ih h
def gi {ts:List FR}{i:Nat}(h:(ts.map V.ref)[i]?=some y):∃t,ts[i]?=some t/\y=.ref t:=by
 rw [AU] at h;cases e:ts[i]? with
 |none=>rw [e] at h;cases h
 |some z=>rw [e] at h;exact⟨z,rfl,(AJ h).symm⟩
def eN {α:Type}{B:List α}{b:α}(h:B[i]?=some b):B.take (i+1)=B.take i++[b]:=by rw [Bl,h];rfl
def Gh.keep (h:Gh C H p d N T)(s:∀c o,H c='g'->(c=p\/c=d)->H' c='g'):Gh C H' p d N T:=by
 obtain⟨dx,B,r,k,h1,h2,h3⟩:=h;exact⟨dx,B,r,k,s _ _ h1 (.inl rfl),s _ _ h2 (.inr rfl),h3⟩
def Gh.sm (h:Gh C H p d N T):(∃o,H p='g')/\∃o,H d='g':=by
 obtain⟨dx,B,r,k,h1,h2,h3⟩:=h;exact⟨⟨_,h1⟩,⟨_,h2⟩⟩
def Gh.ob (h:Gh C H p d N T):∃dx r k,H p=some (.ins C dx (fW d r k)):=by
 obtain⟨dx,B,r,k,h1,h2,h3⟩:=h;exact⟨dx,r,k,h1⟩
def de {H:Hp}(h:∃o,H a='g')(n:H b=none):a≠b:=λ z=>by
 obtain⟨o,h⟩:=h;rw [z,n] at h;cases h
structure OK (K:Frag)(mg:Str->Option FS)(C:FR):Prop where
 R:Rows K mg
 T:CB K mg C
 m:mg "BitRow"=↑C
 needsize:∃f fd,'h' "need_size" cQ Jak f fd
 ones:∃f fd,'h' "ones" gf Jak f fd
 init:∃f fd,Hb K "__init__" "BitRow.__init__" oV f fd/\Binds K fd Jah []/\Mk K C f
 put:∃f fd,Me K C "put" "BitRow.put" yj ["self","number","size"] f fd
 move:∃f fd,Me K C "move_byte" "BitRow.move_byte" o9 Jah f fd
 many:∃f fd,Me K C "many" "BitRow.many" sI Jah f fd
 row:∃f fd,Me K C "row" "BitRow.row" vZ Jah f fd
structure Uc (K:Frag)(mg:Str->Option FS)(x:Str)(st:F5)(ps:List Str)(f:FR)(fd:FW):Prop where
 F:∃dV,KO K x x st dV f fd
 m:mg x=↑f
 b:Binds K fd ps []
 d:Binds K fd ps [.none]
theorem Uc.kp (F:Uc K mg x st ps f fd):keepIn K (.ref f)=true:=F.F.elim λ _ z=>z.kp
noncomputable def itm:Pc->List V
 | .sg s=>[.str (Str.ofString "sign"),vN s]
 | .cp b z=>[.str (Str.ofString "copy"),vN b,vN z]
def NN (H:Hp)(ts:List FR)(P:List Pc):Prop:=ts.length=P.length/\∀(i:Nat) a x,ts[i]?=some a->P[i]?=some x->H a=some (.tup (itm x))
def PL (H:Hp)(l:FR)(P:List Pc):Prop:=∃ts,H l=↥(ts.map V.ref)/\NN H ts P
def NN.keep (h:NN H ts P)(k:∀a xs,H a=some (.tup xs)->H' a=some (.tup xs)):NN H' ts P:=⟨h.1,λ i a x h1 h2=>k _ _ (h.2 i a x h1 h2)⟩
def NN.snoc {P:List Pc}(h:NN H ts P){t:FR}{x:Pc}(e:H t=some (.tup (itm x))):NN H (ts++[t]) (P++[x]):=by
 refine⟨by simp [h.1],λ i a y h1 h2=>?_⟩;rw [List.getElem?_append] at h1 h2;rw [<-h.1] at h2
 split at h1
 ·rename_i c
  rw [AK c] at h2;exact h.2 i a y h1 h2
 ·rename_i c
  rw [AH c] at h2;have e0:i-ts.length=0:=by
   have:=(Af.mp h1).1;simp at this
   assumption
  rw [e0] at h1 h2;cases h1;cases h2;exact e
def sQ:V.str (Str.ofString "copy")≠V.str (Str.ofString "sign"):=λ h=>absurd (V.str.inj h) Z8
noncomputable def RK (B:'c') (b:Nat):Nat->'c'
 |0=>B
 |n+1=>RK B b n++[(RK B b n).getD ((RK B b n).length-b) 0]
theorem mV {S:'c'}(Ib:1≤b)(hb:b≤p)(hz:p+z≤S.length)(h:∀i<z,S[p+i]?=S[p+i-b]?):∀n,n≤z->RK (S.take p) b n=S.take (p+n)
 |0,_=>rfl
 |n+1,hn=>by
  have hl:(S.take (p+n)).length=p+n:=by rw [Aq];lia
  rw [RK,mV Ib hb hz h n (Cz hn),hl];have h1:p+n<S.length:=Ap (Nat.add_lt_add_left hn _) hz;rw [show p+(n+1)=p+n+1 by lia,Bl,Ad h1];congr 1;have h2:=h n (‹_›);rw [Ad h1] at h2;rw [AO,Fl,AK Z5,<-h2];rfl
inductive spNeedWin (vs:List V) (H:Hp) (Q:VK) (Gj:XK):Prop
 |mk (x:V) (m:Nat) (W:'c') (h0:vs=[x,vN m]) (h1:Hd H x W) (h2:(∀b∈W,b<256)) (h3:W.length≤m) (h4:∀l H',C' H H'->H l=none->H' l=↥(W.map vN)->Q (.ref l) H'):spNeedWin vs H Q Gj
def scNeedWin:y' ["before","most","window"] Jal (am cM):=Gw Z8
def eA (F:'h' "need_window" cM Jal f fd)(N:'h' "need_row" cb Jaf fN Ng)(Y:Rows K mg):'a' Gn 5 f fd Jal spNeedWin:=by
 have T:=Y.X;refine F.F.ok scNeedWin ?_
 intro 'b';obtain⟨x,m,W,rfl,hx,hb,hl,k⟩:=h;refine⟨_,ad (aM (aA kG (pv 0) eC (aC _)) (ag (aB (aH ac))) aF)
  (ad (aq (i:=2) scNeedWin.nd (ap (cX N Y) hr Z7 N.m N.F.kp N.b .nil az (aa (pv 0) ac)))
  (ad (aM (aA dk (ay ax Z7 T.len Ay (aa (pv 2) ac)) (pv 1) (aC _)) (ag bN) aF)
  (ag (aB (pv 2))))),?_⟩
 rcases hx with⟨rfl,rfl⟩|⟨b,rfl,hB⟩
 ·exact⟨_,rfl,rfl,_,rfl,bc (λ _=>⟨Z9,λ l nl=>k l _ (ak nl) nl af⟩) (λ h=>absurd (Ae rfl) h)⟩
 ·refine⟨_,rfl,rfl,_,rfl,bc (λ h=>absurd (Am h) 'f') (λ _=>?_)⟩;refine⟨_,rfl,b,W,rfl,hB,hb,λ l hn=>?_⟩;refine⟨_,rfl,l,_,rfl,.inl (Gf.of af),_,rfl,_,_,rfl,rfl,_,rfl,bc (λ h=>?_) (λ _=>?_)⟩
  ·have:=Am h;rw [Aa] at this;lia
  ·exact⟨_,rfl,k l _ (ak hn) hn af⟩
inductive spNeedAhead (vs:List V) (H:Hp) (Q:VK) (Gj:XK):Prop
 |mk (x:V) (W:'c') (h0:vs=[x]) (h1:Hd H x W) (h2:(∀b∈W,b<256)) (h3:W.length≤192) (h4:∀l H',C' H H'->H l=none->H' l=↥(W.map vN)->Q (.ref l) H'):spNeedAhead vs H Q Gj
def fm:y' ["before"] ["before"] (am cH):=Gw Z8
def eG {P:FU}{f fW fN:FR}(F:'h' "need_ahead" cH ["before"] f fd)(Wi:'h' "need_window" cM Jal fW JV)(N:'h' "need_row" cb Jaf fN Ng)(Y:Rows K mg):'a' Gn 6 f fd ["before"] spNeedAhead:=by
 obtain⟨tg,hg⟩:=Y.X.ahead;refine F.F.ok fm ?_
 intro 'b';obtain⟨x,W,rfl,hx,hb,hl,k⟩:=h;refine⟨_,ag (aB (ap (eA Wi N Y) hr Z7 Wi.m Wi.F.kp Wi.b .nil az (aa (pv 0) (aa (aJ (v:=.int 192) Z7 hg ⟨tg,rfl⟩) ac)))),?_⟩;exact⟨_,rfl,x,192,W,rfl,hx,hb,hl,k⟩
inductive spNeedSigns (vs:List V) (H:Hp) (Q:VK) (Gj:XK):Prop
 |mk (a:FR) (x:V) (T W:'c') (h0:vs=[.ref a,x]) (h1:H a=↥(T.map vN)) (h2:(∀b∈T,b<256)) (h3:1≤T.length) (h4:T.length≤64) (h5:Hd H x W) (h6:(∀b∈W,b<256)) (h7:W.length≤192) (h8:∀l H',C' H H'->H l=none->H' l=↥(T.map vN)->Q (.ref l) H'):spNeedSigns vs H Q Gj
def scNeedSigns:y' ["text","before","signs"] Jad (am cY):=Gw Z8
def ok_needsigns {w:FV}{f fA fW fN:FR}(F:'h' "need_signs" cY Jad f fd)(Ah:'h' "need_ahead" cH ["before"] fA PX)(Wi:'h' "need_window" cM Jal fW JV)(N:'h' "need_row" cb Jaf fN Ng)(Y:Rows K mg):'a' Gn 7 f fd Jad spNeedSigns:=by
 have T:=Y.X;obtain⟨tg,hg⟩:=T.signs;refine F.F.ok scNeedSigns ?_
 intro 'b';obtain⟨a,x,S,W,rfl,ha,PK,h1,G6,hx,hb,hl,k⟩:=h;have Oz:Ge 4 _:=hr.mono Z9;refine⟨_,ad (aq (i:=2) scNeedSigns.nd (ap (cX N Y) Oz Z7 N.m N.F.kp N.b .nil az (aa (pv 0) ac)))
  (ad (aM (PW.pt (jg (aA bE (ay ax Z7 T.len Ay (aa (pv 2) ac)) ae (aC _)) (fX (aA dk (ay ax Z7 T.len Ay (aa (pv 2) ac)) (aJ (v:=.int 64) Z7 hg ⟨tg,rfl⟩) (aC _))))) (ag bN) aF)
  (ad (aE (ap (eG Ah Wi N Y) hr Z7 Ah.m Ah.F.kp Ah.b .nil az (aa (pv 1) ac)))
  (ag (aB (pv 2))))),?_⟩
 refine aw λ _ g1=>⟨_,rfl,a,S,rfl,ha,PK,λ l nl=>g1 _ _ ?_⟩
 clear g1;have s0:=ak (o:=.lst (S.map vN)) nl;have NC:(upd H l (.lst (S.map vN))) l=↥(S.map vN):=af;generalize upd H l (.lst (S.map vN))=H1 at*;refine aw λ _ g1=>⟨_,rfl,l,_,rfl,.inl (Gf.of NC),rfl,_,rfl,bc (λ h=>?_) (λ _=>?_)⟩
 ·have:=Am h;injection this with this
  rw [Aa] at this;lia
 refine⟨_,rfl,l,_,rfl,.inl (Gf.of NC),_,_,rfl,rfl,_,rfl,bc (λ h=>?_) (λ _=>g1 _ _ ?_)⟩
 ·have:=Am h;rw [Aa] at this;lia
 clear g1;refine aw λ _ g1=>⟨_,rfl,x,W,rfl,hx.same s0,hb,hl,λ l2 H2 s2 n2 QA=>g1 _ _ ?_⟩
 exact⟨_,rfl,k l H2 (s0.trans s2) nl (s2 _ _ NC)⟩
def oz:y' ["signs","size","end"] ["signs","size","end"] (am hJ):=Gw Z8
inductive Mw (vs:List V) (H:Hp) (Q:VK) (Gj:XK):Prop
 |mk (a:_) (S:_) (p:_) (b:_) (m:_) (h0:vs=[.ref a,vN p,vN b,vN m]) (h1:H a=↥(S.map vN)) (h2:b≤p) (h3:p+m≤S.length) (h4:Q (vN (al S p b m)) H):Mw vs H Q Gj
def Kr:y' ["signs","place","back","most","size"] ["signs","place","back","most"] (am lz):=Gw Z8
def uO (F:'h' "alike_from" lz ["signs","place","back","most"] f fd):'a' Gn 1 f fd ["signs","place","back","most"] Mw:=by
 refine F.F.ok Kr ?_
 intro 'a';obtain⟨a,S,p,b,m,rfl,hS,hb,hm,k⟩:=h;refine⟨_,ad (aq (i:=4) Kr.nd ae)
  (ad (cA AV (PW.pt (lf (aA eO (pv 4) (pv 3) (aC _)) (iE (aA bE (aU aW (pv 0) (ao aI (pv 1) (pv 4)) (λ _ _=>rfl)) (aU aW (pv 0) (ao bd (ao aI (pv 1) (pv 4)) (pv 2)) (λ _ _=>rfl)) (aC _)))))
   (ag (aq (i:=4) Kr.nd (ao aI (pv 4) ae))))
  (ag (aB (pv 4)))),?_⟩
 refine aw λ R1 g1=>g1 _ _ ?_
 clear g1;refine aw λ _ g1=>⟨λ n σ H2=>∃i,n=m-i/\σ=[↑a,some (vN p),some (vN b),some (vN m),some (vN i)]/\H2=H/\i≤m/\∀j<i,S[p+j]?=S[p+j-b]?,⟨m,0,rfl,rfl,rfl,A1 _,λ j hj=>absurd hj (Dc _)⟩,?_⟩
 rintro n σ H2 ⟨i,rfl,rfl,rfl,hi,Hc⟩;refine⟨_,rfl,_,rfl,_,_,rfl,rfl,_,rfl,bc (λ h1=>?_) (λ h1=>?_)⟩
 ·have h2:i<m:=by have:=Am h1;exact D8.mp this
  have e1:(p:Int)+(i:Int)=⇑(p+i):=Z5;have e2:⇑(p+i)-(b:Int)=⇑(p+i-b):=(DM (BD hb)).symm;have l1:p+i<S.length:=Z5;have l2:p+i-b<S.length:=BS l1;refine⟨_,rfl,_,rfl,_,rfl,_,_,rfl,rfl,?_⟩
  try dsimp only
  rw [e1];refine⟨a,_,_,_,rfl,rfl,Gf.of hS,aD (di l1),?_⟩;refine⟨_,rfl,_,rfl,_,rfl,_,_,rfl,rfl,_,rfl,_,_,rfl,rfl,?_⟩
  try dsimp only
  rw [e1,e2];refine⟨a,_,_,_,rfl,rfl,Gf.of hS,aD (di l2),rfl,_,rfl,bc (λ h3=>?_) (λ h3=>?_)⟩
  ·have h4:S[p+i]=S[p+i-b]:=Gr.mp (Am h3);refine⟨λ σ' H'=>σ'=[↑a,some (vN p),some (vN b),some (vN m),some (vN (i+1))]/\H'=H2,λ σ' H' z=>⟨m-(i+1),Z5,i+1,rfl,z.1,z.2, ‹_›,λ j hj=>?_⟩,?_⟩
   ·by_cases e:j=i
    ·subst e;rw [Ad l1,Ad l2,h4]
    ·exact Hc j (CY (B4 hj) e)
   ·exact⟨_,rfl,_,_,rfl,rfl,rfl,rfl⟩
  ·refine g1 _ _ ⟨_,rfl,?_⟩;have h4:S[p+i]?≠S[p+i-b]?:=by
    rw [Ad l1,Ad l2];intro z;exact h3 (Ae (Gr.mpr (AJ z)))
   rw [vj Hc h4 m (‹_›)] at k;exact k
 ·refine cV (g1 _ _ ⟨_,rfl,?_⟩);have h2:i=m:=by
   have KD:¬(decide ((i:Int)<(m:Int))=true):=h1;have:¬((i:Int)<(m:Int)):=λ z=>KD (Ae z)
   lia
  subst h2;rw [uw Hc] at k;exact k
inductive J7 (vs:List V) (H:Hp) (Q:VK) (Gj:XK):Prop
 |mk (a:_) (S:_) (p:_) (h0:vs=[.ref a,vN p]) (h1:H a=↥(S.map vN)) (h2:p<S.length) (h3:S.length≤1000) (h4:∀t,H t=none->Q (.ref t) (upd H t (.tup [.str (Str.ofString "copy"),vN (lcAt S p).1,vN (lcAt S p).2]))):J7 vs H Q Gj
def GJ:y' ["signs","place","most","best_back","best_size","back","size"] ["signs","place"] (am i9):=Gw Z8
def om (F:'h' "longest_copy" i9 ["signs","place"] f fd)(AF:'h' "alike_from" lz ["signs","place","back","most"] fA PX)(T:Txt K mg):'a' Gn 31 f fd ["signs","place"] J7:=by
 obtain⟨tf,hf⟩:=T.far;obtain⟨tm,hm⟩:=T.mostC;refine F.F.ok GJ ?_
 intro 'a';obtain⟨a,S,p,rfl,hS,hp,hlen,k⟩:=h;have hn:=hr.hd Z9;have Gz:Ge 1 _:=hr.mono Z9;refine⟨_,ad (aq (i:=2) GJ.nd (ay (gW hn) Z7 T.min EJ (aa (aJ (v:=.int 18) Z7 hm ⟨tm,rfl⟩) (aa (ao bd (ay ax Z7 T.len Ay (aa (pv 0) ac)) (pv 1)) ac))))
  (ad (aq (i:=3) GJ.nd ae)
  (ad (aq (i:=4) GJ.nd ae)
  (ad (bp AV rfl (g9 Z7 T.range (aa ae (aa (ao aI (ay (gW hn) Z7 T.min EJ (aa (aJ (v:=.int 255) Z7 hf ⟨tf,rfl⟩) (aa (pv 1) ac))) ae) ac))) (aG (i:=5) GJ.nd)
   (ad (aM (aA bE (pv 4) (pv 2) (aC _)) (ag tK) aF)
   (ag (aM (aA bE (aU aW (pv 0) (ao aI (pv 1) (pv 4)) (λ _ _=>rfl)) (aU aW (pv 0) (ao bd (ao aI (pv 1) (pv 4)) (pv 5)) (λ _ _=>rfl)) (aC _))
    (ad (aq (i:=6) GJ.nd (ap (uO AF) Gz Z7 AF.m AF.F.kp AF.b .nil az (aa (pv 0) (aa (pv 1) (aa (pv 5) (aa (pv 2) ac))))))
    (ag (aM (aA dk (pv 6) (pv 4) (aC _)) (ad (aq (i:=3) GJ.nd (pv 5)) (ag (aq (i:=4) GJ.nd (pv 6)))) aF))) aF))))
  (ag (aB (aO (aa aX (aa (pv 3) (aa (pv 4) ac))))))))),?_⟩
 refine aw λ _ g1=>⟨_,rfl,a,_,rfl,.inl (Gf.of hS),_,rfl,_,_,rfl,rfl,_,_,rfl,g1 _ _ ?_⟩
 clear g1;have em:(if((S.map vN).length:Int)-(p:Int)<18 then((S.map vN).length:Int)-(p:Int) else 18)=(most S p:Int):=by
  rw [Aa];unfold most
  split<;>lia
 try dsimp only
 rw [em];have PB:most S p≤18/\p+most S p≤S.length:=by unfold most;lia
 refine aw λ R1 g1=>g1 _ _ ?_
 clear g1;refine aw λ R1 g1=>g1 _ _ ?_
 clear g1;refine aw λ R1 g1=>?_
 have JR:∀v5 v6,R1 [↑a,some (vN p),some (vN (most S p)),some (vN (lcAt S p).1),some (vN (lcAt S p).2),v5,v6] H:=λ v5 v6=>by
  refine g1 _ _ ?_;exact⟨_,rfl,_,rfl,(by show 3≤sizeLine;decide),k⟩
 clear g1;have ef:(if(p:Int)<255 then(p:Int) else 255)=(far p:Int):=by
  unfold far
  split<;>lia
 refine⟨_,rfl,_,_,rfl,?_⟩
 try dsimp only
 rw [ef];have YZ:far p≤255/\far p≤p:=by unfold far;exact⟨Db _ _,BQ _ _⟩
 refine⟨_,_,rfl,rfl,1,(far p:Int)+1,rfl,⟨Z5,Z5,Z5,Z5⟩,?_⟩;have en:((far p:Int)+1-1).toNat=far p:=Z5
 try dsimp only
 rw [en];refine du (D:=⟨_,_,λ _ _=>False,λ _ _=>False⟩) (λ j σ H2=>∃v5 v6,σ=[↑a,some (vN p),some (vN (most S p)),some (vN (lc S p (most S p) j).1),some (vN (lc S p (most S p) j).2),v5,v6]/\H2=H) ⟨none,none,rfl,rfl⟩ ?_ ?_
 ·rintro j σ H2 hj ⟨v5,v6,rfl,rfl⟩;have eb:(1:Int)+(j:Int)=⇑(j+1):=Z5
  try dsimp only
  rw [eb];refine aw λ _ g2=>⟨_,rfl,_,rfl,rfl,_,rfl,bc (λ h1=>?_) (λ h1=>?_)⟩
  ·have h2:(lc S p (most S p) j).2=most S p:=Gr.mp (Am h1);have e:=pQ h2 (far p) (Cz hj);have J:=JR (some (vN (j+1))) v6;unfold lcAt at J;rw [e] at J;exact J
  ·have h2:(lc S p (most S p) j).2≠most S p:=λ z=>h1 (Ae (Gr.mpr z))
   have hle:=pV S p (most S p) j;refine g2 _ _ ?_;clear g2;have e1:(p:Int)+⇑((lc S p (most S p) j).2)=⇑(p+(lc S p (most S p) j).2):=Z5;have e2:⇑(p+(lc S p (most S p) j).2)-⇑(j+1)=⇑(p+(lc S p (most S p) j).2-(j+1)):=Z5;have l1:p+(lc S p (most S p) j).2<S.length:=Z5;have l2:p+(lc S p (most S p) j).2-(j+1)<S.length:=Z5;refine⟨_,rfl,_,rfl,_,rfl,_,_,rfl,rfl,?_⟩
   try dsimp only
   rw [e1];refine⟨a,_,_,_,rfl,rfl,Gf.of hS,aD (di l1),?_⟩;refine⟨_,rfl,_,rfl,_,rfl,_,_,rfl,rfl,_,rfl,_,_,rfl,rfl,?_⟩
   try dsimp only
   rw [e1,e2];refine⟨a,_,_,_,rfl,rfl,Gf.of hS,aD (di l2),rfl,_,rfl,bc (λ h3=>?_) (λ h3=>?_)⟩
   ·refine⟨_,rfl,_,rfl,_,rfl,_,rfl,a,S,p,j+1,most S p,rfl,hS,Ai hj YZ.2,String.Pos.Raw.mk_le_mk.mp PB.2,?_⟩;refine⟨_,rfl,_,rfl,_,_,rfl,rfl,_,rfl,bc (λ h4=>?_) (λ h4=>?_)⟩
    ·have h5:(lc S p (most S p) j).2<al S p (j+1) (most S p):=by have:=Am h4;exact D8.mp this
     refine⟨_,rfl,_,rfl,some (vN (j+1)),some (vN (al S p (j+1) (most S p))),?_,rfl⟩;rw [lc,AK h5];rfl
    ·have h5:¬(lc S p (most S p) j).2<al S p (j+1) (most S p):=λ z=>h4 (Ae Z5)
     refine⟨some (vN (j+1)),some (vN (al S p (j+1) (most S p))),?_,rfl⟩;rw [lc,AH h5];rfl
   ·refine⟨some (vN (j+1)),v6,?_,rfl⟩;have h4:S[p+(lc S p (most S p) j).2]?≠S[p+(lc S p (most S p) j).2-(j+1)]?:=by
     rw [Ad l1,Ad l2];intro z;exact h3 (Ae (Gr.mpr (AJ z)))
    rw [vK h4];rfl
 ·rintro σ H2 ⟨v5,v6,rfl,rfl⟩;exact JR v5 v6
inductive JE (vs:List V) (H:Hp) (Q:VK) (Gj:XK):Prop
 |mk (a:FR) (x:V) (W T:'c') (h0:vs=[.ref a,x]) (h1:H a=↥(T.map vN)) (h2:Hd H x W) (h3:(∀b∈W,b<256)) (h4:(∀b∈T,b<256)) (h5:W.length≤255) (h6:T.length≤500) (h7:∀l P H',C' H H'->H l=none->PL H' l P->Walk (W++T) W.length P (W++T).length->Q (.ref l) H'):JE vs H Q Gj
def Gx:y' ["text","before","own_signs","signs","place","pieces","found"] Jad (am ij):=Gw Z8
structure Pn (K:Frag)(mg:Str->Option FS):Prop where
 R:Rows K mg
 needrow:∃f fd,'h' "need_row" cb Jaf f fd
 needwin:∃f fd,'h' "need_window" cM Jal f fd
 alike:∃f fd,'h' "alike_from" lz ["signs","place","back","most"] f fd
 longest:∃f fd,'h' "longest_copy" i9 ["signs","place"] f fd
def ik (F:Uc K mg "pieces_of" ij Jad f fd)(Y:Pn K mg):'a' Gn 32 f fd Jad JE:=by
 obtain⟨R,⟨_,_,N⟩,⟨_,_,NW⟩,⟨_,_,AF⟩,⟨_,_,L⟩⟩:=Y;have T:=R.X;obtain⟨tl,SU⟩:=T.least;obtain⟨tf,Je⟩:=T.far;obtain⟨dV,FF⟩:=F.F;refine FF.ok Gx ?_
 intro 'a';obtain⟨a,x,W,Tx,rfl,ha,hx,hbW,hbT,hW,hT,k⟩:=h;have Oz:Ge 4 _:=hr.mono Z9;have hr5:Ge 5 _:=hr.mono Z9;refine⟨_,ad (aq (i:=2) Gx.nd (ap (cX N R) Oz Z7 N.m N.F.kp N.b .nil az (aa (pv 0) ac)))
  (ad (aq (i:=3) Gx.nd (ao bz (ap (eA NW N R) hr5 Z7 NW.m NW.F.kp NW.b .nil az (aa (pv 1) (aa (aJ (v:=.int 255) Z7 Je ⟨tf,rfl⟩) ac))) (pv 2)))
  (ad (aq (i:=4) Gx.nd (ao bd (ay ax Z7 T.len Ay (aa (pv 3) ac)) (ay ax Z7 T.len Ay (aa (pv 2) ac))))
  (ad (aq (i:=5) Gx.nd (aH ac))
  (ad (cA AV (aA eO (pv 4) (ay ax Z7 T.len Ay (aa (pv 3) ac)) (aC _))
   (ad (aq (i:=6) Gx.nd (ap (om L AF R.X) hr Z7 L.m L.F.kp L.b .nil az (aa (pv 3) (aa (pv 4) ac))))
   (ag (aM (aA uo (aU bL (pv 6) ae (λ _ _=>rfl)) (aJ (v:=.int 3) Z7 SU ⟨tl,rfl⟩) (aC _))
    (ad (aE (d8 Bc Bp By bO (pv 5) (aa (pv 6) ac)))
     (ag (aq (i:=4) Gx.nd (ao aI (pv 4) (aU bL (pv 6) ae (λ _ _=>rfl))))))
    (ad (aE (d8 Bc Bp By bO (pv 5) (aa (aO (aa aX (aa (aU aW (pv 3) (pv 4) (λ _ _=>rfl)) ac))) ac)))
     (ag (aq (i:=4) Gx.nd (ao aI (pv 4) ae))))))))
  (ag (aB (pv 5))))))),?_⟩
 refine aw λ _ g1=>⟨_,rfl,a,Tx,rfl,ha,hbT,λ l1 n1=>g1 _ _ ?_⟩
 clear g1;have s1:C' H (upd H l1 (.lst (Tx.map vN))):=ak n1;refine aw λ _ g1=>⟨_,rfl,x,255,W,rfl,hx.same s1,hbW,hW,λ l2 H2 s2 n2 QA=>?_⟩
 have XR:H2 l1=↥(Tx.map vN):=s2 _ _ af;refine⟨_,rfl,l2,l1,_,_,rfl,rfl,QA,XR,dO (by rw [Aa,Aa];lia),λ l3 n3=>g1 _ _ ?_⟩;clear g1;have s3:=ak (o:=.lst (W.map vN++Tx.map vN)) n3
 try dsimp only
 rw [<-Aw] at s3 ⊢;have Xz:(upd H2 l3 (.lst ((W++Tx).map vN))) l3=↥((W++Tx).map vN):=af;have hS1:=s3 _ _ XR;have IL:=(s1.trans s2).trans s3;generalize Rx:upd H2 l3 (.lst ((W++Tx).map vN))=H3 at*;clear Rx s3 n3 XR s2 n2 s1;refine aw λ _ g1=>⟨_,rfl,l3,_,rfl,.inl (Gf.of Xz),_,rfl,l1,_,rfl,.inl (Gf.of hS1),_,_,rfl,rfl,g1 _ _ ?_⟩
 clear g1;have ep:(((W++Tx).map vN).length:Int)-((Tx.map vN).length:Int)=(W.length:Int):=by
  rw [Aa,Aa,Ac];lia
 try dsimp only
 rw [ep];generalize hS:W++Tx=S at*;have PJ:S.length=W.length+Tx.length:=by rw [<-hS,Ac]
 refine aw λ _ g1=>⟨Z9,λ l5 n5=>g1 _ _ ?_⟩
 clear g1;have s5:=ak (o:=.lst []) n5;have ZP:H l5=none:=none_of IL n5;have VX:=s5 _ _ Xz;have n35:l3≠l5:=ai Xz n5;have Qg:=IL.trans s5;refine aw λ _ g1=>⟨λ n σ H2=>∃q Pp ts v6,n=S.length-q/\σ=[↑a,some x,↑l1,↑l3,some (vN q),↑l5,v6]/\q≤S.length/\Walk S W.length Pp q/\H2 l3=↥(S.map vN)/\H2 l5=↥(ts.map V.ref)/\NN H2 ts Pp/\C' H H2,
  ⟨S.length-W.length,W.length,[],[],none,rfl,rfl,Nat.le.intro PJ.symm,rfl,VX,af,⟨rfl,λ i b y h=>by simp at h⟩,Qg⟩,?_⟩
 rintro n σ H2 ⟨q,Pp,ts,v6,rfl,rfl,hq,hw,h3,h5,Iw,sm⟩;refine⟨_,rfl,_,rfl,l3,_,rfl,.inl (Gf.of h3),_,_,rfl,rfl,_,rfl,bc (λ hc=>?_) (λ hc=>?_)⟩
 ·have Lg:q<S.length:=by have:=Am hc;rw [Aa] at this;exact D8.mp this
  refine⟨λ σ' H'=>∃q' Pp ts v6,q<q'/\σ'=[↑a,some x,↑l1,↑l3,some (vN q'),↑l5,v6]/\q'≤S.length/\Walk S W.length Pp q'/\H' l3=↥(S.map vN)/\H' l5=↥(ts.map V.ref)/\NN H' ts Pp/\C' H H',
   λ σ' H' z9=>by obtain⟨q',Pp,ts,v6,F9,z1,z2,z⟩:=z9;exact⟨S.length-q',Z4,q',Pp,ts,v6,rfl,z1,z2,z⟩,?_⟩
  have hlen:Pp.length≤S.length:=by have:=dh hw;lia
  have Rj:=gZ Lg;refine aw λ _ g2=>⟨_,rfl,_,rfl,l3,S,q,rfl,h3,Lg,Z5,λ t nt=>g2 _ _ ?_⟩
  clear g2;have st:=ak (o:=.tup [.str (Str.ofString "copy"),vN (lcAt S q).1,vN (lcAt S q).2]) nt;have ht:(upd H2 t (.tup [.str (Str.ofString "copy"),vN (lcAt S q).1,vN (lcAt S q).2])) t=some (.tup [.str (Str.ofString "copy"),vN (lcAt S q).1,vN (lcAt S q).2]):=af;have XO:=st _ _ h3;have Qz:=st _ _ h5;have Uw:=Iw.keep (H':=upd H2 t (.tup [.str (Str.ofString "copy"),vN (lcAt S q).1,vN (lcAt S q).2])) λ _ _ z=>st _ _ z
  have Zu:=sm.trans st;generalize hHt:upd H2 t (.tup [.str (Str.ofString "copy"),vN (lcAt S q).1,vN (lcAt S q).2])=Ht at*;clear hHt st;have hap:∀H4 u,H4 l5=↥(ts.map V.ref)->H4 l3=↥(S.map vN)->NN H4 ts Pp->C' H H4->H4 u=some (.tup (itm (pcAt S q)))->
    (upd H4 l5 (.lst (ts.map V.ref++[.ref u]))) l3=↥(S.map vN)/\(upd H4 l5 (.lst (ts.map V.ref++[.ref u]))) l5=↥((ts++[u]).map V.ref)/\NN (upd H4 l5 (.lst (ts.map V.ref++[.ref u]))) (ts++[u]) (Pp++[pcAt S q])/\C' H (upd H4 l5 (.lst (ts.map V.ref++[.ref u]))):=by
   intro H4 u a5 a3 at' as au;have kt:∀b xs,H4 b=some (.tup xs)->(upd H4 l5 (.lst (ts.map V.ref++[.ref u]))) b=some (.tup xs):=λ b xs z=>by
    rw [aj (aT z a5 (by intro y;cases y))];exact z
   refine⟨by rw [aj n35];exact a3,by rw [af,Aw];rfl,(at'.keep kt).snoc (kt _ _ au),λ b o z=>?_⟩;rw [aj (ai z ZP)];exact as _ _ z
  refine⟨_,rfl,t,_,_,_,rfl,rfl,GF.of ht,aD (j:=2) rfl,_,_,rfl,rfl,_,rfl,bc (λ h6=>?_) (λ h6=>?_)⟩
  ·have h7:3≤(lcAt S q).2:=by have:=Am h6;exact Int.ofNat_le.mp this
   have RD:pcAt S q=.cp (lcAt S q).1 (lcAt S q).2:=by unfold pcAt;rw [AK h7]
   obtain⟨b3,b5,bt,bs⟩:=hap Ht t Qz XO Uw Zu (by rw [RD];exact ht);refine⟨_,rfl,.inl ⟨rfl,_,Gf.of Qz⟩,_,rfl,l5,_,_,rfl,rfl,Qz,bA (by rw [Aa,Iw.1];lia),?_⟩;have ht2:(upd Ht l5 (.lst (ts.map V.ref++[.ref t]))) t=some (.tup [.str (Str.ofString "copy"),vN (lcAt S q).1,vN (lcAt S q).2]):=by
    rw [aj (aT ht Qz (by intro y;cases y))];exact ht
   refine⟨_,rfl,_,rfl,t,_,_,_,rfl,rfl,GF.of ht2,aD (j:=2) rfl,_,_,rfl,rfl,?_⟩;rw [RD] at bt Rj;have Rg:=dz hw Lg;rw [RD] at Rg;have hz:(Pc.cp (lcAt S q).1 (lcAt S q).2).size=(lcAt S q).2:=rfl;rw [hz] at Rg Rj;refine⟨q+(lcAt S q).2,_,_,↑t,Ei Rj.1,?_,Rj.2,Rg,b3,b5,bt,bs⟩;have e2:(q:Int)+⇑((lcAt S q).2)=⇑(q+(lcAt S q).2):=Z5
   try dsimp only
   rw [e2];rfl
  ·have h7:¬3≤(lcAt S q).2:=λ z=>h6 (Ae Z5)
   have RD:pcAt S q=.sg S[q]:=by unfold pcAt;rw [AH h7];simp [List.getD,Lg]
   refine⟨_,rfl,.inl ⟨rfl,_,Gf.of Qz⟩,_,rfl,_,rfl,l3,_,_,_,rfl,rfl,Gf.of XO,aD (di Lg),(by show 2≤sizeLine;decide),λ u nu=>?_⟩;have su:=ak (o:=.tup [.str (Str.ofString "sign"),vN S[q]]) nu;obtain⟨b3,b5,bt,bs⟩:=hap (upd Ht u (.tup [.str (Str.ofString "sign"),vN S[q]])) u (su _ _ Qz) (su _ _ XO) (Uw.keep λ _ _ z=>su _ _ z) (Zu.trans su) (by rw [RD];exact af);refine⟨l5,_,_,rfl,rfl,su _ _ Qz,bA (by rw [Aa,Iw.1];omega),?_⟩;refine⟨_,rfl,_,_,rfl,rfl,?_⟩;have Rg:=dz hw Lg;rw [RD] at bt Rg Rj;exact⟨q+1,_,_,↑t,FO _,rfl,Rj.2,Rg,b3,b5,bt,bs⟩
 ·have Lg:q=S.length:=by
   have h1:¬(decide ((q:Int)<((S.map vN).length:Int))=true):=hc;rw [Aa] at h1;have:¬((q:Int)<(S.length:Int)):=λ z=>h1 (Ae z)
   lia
  subst Lg;refine g1 _ _ ⟨_,rfl,?_⟩;exact k l5 Pp H2 sm ZP ⟨ts,h5,Iw⟩ hw
noncomputable def app (B:'c'):Pc->'c'
 | .sg s=>B++[s]
 | .cp b z=>RK B b z
def wg (B:'c')(P:List Pc):'c':=P.foldl app B
noncomputable def pcP:Pc->List (Nat×Nat)
 | .sg s=>[(0,1),(s,8)]
 | .cp b z=>[(1,1),(b,8),(z-3,4)]
def pP (P:List Pc):List (Nat×Nat):=P.flatMap pcP
def gX (B:'c'):Pc->Prop
 | .sg s=>s<256
 | .cp b z=>1≤b/\b≤255/\b≤B.length/\3≤z/\z≤18
def GR:'c'->List Pc->Prop
 |_,[]=>True
 |B,x::P=>gX B x/\GR (app B x) P
def qD (P Q:List Pc):pP (P++Q)=pP P++pP Q:=by simp [pP]
def vR (x)(P):pP (x::P)=pcP x++pP P:=by simp [pP]
def yv (x:Pc):pP [x]=pcP x:=by simp [pP]
theorem GR.at:∀{P} {B} {i} {x},GR B P->P[i]?=some x->gX (wg B (P.take i)) x
 |y::P,B,0,x,h,e=>by simp at e;subst e;exact h.1
 |y::P,B,i+1,x,h,e=>by
  have:=GR.at h.2 (by simpa using e);exact this
def vq (x):tots (pcP x)=9\/tots (pcP x)=13:=by
 cases x with
 |sg s=>exact .inl rfl
 |cp b z=>exact .inr rfl
theorem pO:∀P:List Pc,tots (pP P)≤13*P.length
 | []=>Ak _
 |x::P=>by
  rw [vR,aR,Ar];have:=pO P;rcases vq x with h|h<;>lia
def yE (hb:∀b∈S,b<256)(hp:p<S.length):gX (S.take p) (pcAt S p)/\app (S.take p) (pcAt S p)=S.take (p+(pcAt S p).size):=by
 cases e:pcAt S p with
 |sg s=>
  have h:=wA hp e;refine⟨hb s (AX h),?_⟩;show S.take p++[s]=S.take (p+1);rw [Bl,h];rfl
 |cp b z=>
  obtain⟨h1,h2,h3,h4,h5,h6,h7,_⟩:=wT hp e;refine⟨⟨h1,h3,by rw [Aq];lia,h4,h5⟩,?_⟩;exact mV h1 h2 h6 h7 z (Ak _)
theorem mZ (hb:∀b∈S,b<256):∀{P} {p q},Walk S p P q->GR (S.take p) P/\wg (S.take p) P=S.take q
 | [],p,q,h=>by cases h;exact⟨trivial,rfl⟩
 |x::P,p,q,⟨h1,h2,h3⟩=>by
  subst h2;obtain⟨g,e⟩:=yE hb h1;obtain⟨i1,i2⟩:=mZ hb h3;refine⟨⟨g,by rw [e];exact i1⟩,?_⟩;show wg (app (S.take p) (pcAt S p)) P=_;rw [e];exact i2
theorem d4:∀{P P'} {p q},Walk S p P q->Walk S p P' q->P=P'
 | [],[],_,_,_,_=>rfl
 | [],x::P',p,q,h,h'=>by
  cases h;have:=dh h';rw [Ar] at this;lia
 |x::P,[],p,q,h,h'=>by
  cases h';have:=dh h;rw [Ar] at this;lia
 |x::P,x'::P',p,q,⟨_,h2,h3⟩,⟨_,JU,O4⟩=>by
  subst h2 JU;rw [d4 h3 O4]
def jY {P:List Pc}(hW:∀b∈W,b<256)(hT:∀b∈T,b<256)(h:Walk (W++T) W.length P (W++T).length):GR W P/\wg W P=W++T/\P.length≤T.length:=by
 have hb:∀b∈W++T,b<256:=λ b z=>by
  rcases AR.mp z with z|z
  ·exact hW b z
  ·exact hT b z
 obtain⟨h1,h2⟩:=mZ hb h;rw [List.take_left] at h1 h2;rw [AT] at h2;have:=dh h;rw [Ac] at this;exact⟨h1,h2,Eg.mp this⟩
structure NL (K:Frag)(mg:Str->Option FS):Prop where
 V:Pn K mg
 pieces:∃f fd,Uc K mg "pieces_of" ij Jad f fd
 needahead:∃f fd,'h' "need_ahead" cH ["before"] f fd
 needsigns:∃f fd,'h' "need_signs" cY Jad f fd
inductive Ka (vs:List V) (H:Hp) (Q:VK) (Gj:XK):Prop
 |mk (x:_) (W:_) (h0:vs=[x]) (h1:Hd H x W) (h2:∀l,H l=none->Q (.ref l) (upd H l (.lst (W.map vN)))):Ka vs H Q Gj
def qA:y' ["before"] ["before"] (am jn):=Gw Z8
def iR (F:'h' "signs_ahead" jn ["before"] f fd)(T:Txt K mg):'a' Gn 1 f fd ["before"] Ka:=by
 refine F.F.ok qA ?_
 intro 'b';obtain⟨x,W,rfl,hx,k⟩:=h;refine⟨_,ag (aB (fi (aA kG (pv 0) eC (aC _)) (aH ac) (cK dt Z7 T.list Cy (aa (pv 0) ac)))),?_⟩;rcases hx with⟨rfl,rfl⟩|⟨b,rfl,hB⟩
 ·exact⟨_,rfl,rfl,_,rfl,bc (λ _=>⟨Z9,λ l nl=>k l nl⟩) (λ h=>absurd (Ae rfl) h)⟩
 ·exact⟨_,rfl,rfl,_,rfl,bc (λ h=>absurd (Am h) 'f') (λ _=>⟨_,rfl,b,_,rfl,.inl (Gf.of hB),λ l nl=>k l nl⟩)⟩
def yK:y' ["signs","back","size","end"] ["signs","back","size","end"] (am jE):=Gw Z8
end K21
namespace SM
section
variable {α κ:Type}{blt:κ -> κ -> Bool}{kf:α -> κ}
structure Ord (blt:κ->κ->Bool):Prop where
 irr:∀a,blt a a=false
 tr:∀a b c,blt a b=true->blt b c=true->blt a c=true
 neg:∀a b c,blt a c=true->blt a b=true\/blt b c=true
 tot:∀a b,blt a b=false->blt b a=false->a=b
variable (O:Ord blt)
abbrev Le (blt:κ->κ->Bool)(kf:α->κ)(x y:α):Prop:=blt (kf y) (kf x)=false
abbrev Lt (blt:κ->κ->Bool)(kf:α->κ)(x y:α):Prop:=blt (kf x) (kf y)=true
include O
def le_of_lt {x y:α}(h:Lt blt kf x y):Le blt kf x y:=by
 cases e:blt (kf y) (kf x) with
 |false=>exact e
 |true=>have:=O.tr _ _ _ h e;rw [O.irr] at this;cases this
def le_trans {x y z:α}(h1:Le blt kf x y)(h2:Le blt kf y z):Le blt kf x z:=by
 cases e:blt (kf z) (kf x) with
 |false=>exact e
 |true=>
  rcases O.neg _ (kf y) _ e with h|h
  ·rw [show blt (kf z) (kf y)=false from h2] at h;cases h
  ·rw [show blt (kf y) (kf x)=false from h1] at h;cases h
def fk {x y z:α}(h1:Lt blt kf x y)(h2:Le blt kf y z):Lt blt kf x z:=by
 rcases O.neg _ (kf z) _ h1 with h|h
 ·exact h
 ·rw [show blt (kf z) (kf y)=false from h2] at h;cases h
def m8 {x y z:α}(h1:Le blt kf x y)(h2:Lt blt kf y z):Lt blt kf x z:=by
 rcases O.neg _ (kf x) _ h2 with h|h
 ·rw [show blt (kf y) (kf x)=false from h1] at h;cases h
 ·exact h
omit O in
noncomputable def eqv (blt:κ->κ->Bool) (kf:α->κ) (k:κ) (x:α):Bool:= !blt (kf x) k&& !blt k (kf x)
omit O in
def Hh {k:κ}{x:α}:eqv blt kf k x=true<->blt (kf x) k=false/\blt k (kf x)=false:=by unfold eqv;simp
omit O in
def Stb (blt:κ->κ->Bool)(kf:α->κ)(xs ys:List α):Prop:=∀k,xs.filter (eqv blt kf k)=ys.filter (eqv blt kf k)
omit O in
def Stb.refl (xs:List α):Stb blt kf xs xs:=λ _=>rfl
omit O in
theorem Stb.trans {xs ys zs:List α}(h:Stb blt kf xs ys)(g:Stb blt kf ys zs):Stb blt kf xs zs:=λ k=>(h k).trans (g k)
omit O in
theorem Stb.symm {xs ys:List α}(h:Stb blt kf xs ys):Stb blt kf ys xs:=λ k=>(h k).symm
omit O in
def Stb.app {xs ys us vs:List α}(h:Stb blt kf xs ys)(g:Stb blt kf us vs):Stb blt kf (xs++us) (ys++vs):=λ k=>by rw [AQ,AQ,h k,g k]
omit O in
def GY (O:Ord blt)(x:α):eqv blt kf (kf x) x=true:=by unfold eqv;simp [O.irr]
def Stb.mem {xs ys:List α}(h:Stb blt kf xs ys){x:α}(hx:x∈xs):x∈ys:=by
 have:x∈xs.filter (eqv blt kf (kf x)):=Cb.mpr ⟨hx,GY O x⟩;rw [h] at this;exact(Cb.mp this).1
def gy {X Y:List α}(h:∀y∈Y,∀x∈X,Lt blt kf y x):Stb blt kf (X++Y) (Y++X):=λ k=>by
 rw [AQ,AQ];by_cases hx:∃x∈X,eqv blt kf k x=true
 ·obtain⟨x,hx,ex⟩:=hx;have hy:Y.filter (eqv blt kf k)=[]:=BU.mpr λ y hy ey=>by
   have l:=h y hy x hx;have ex:=Hh.mp ex;have ey:=Hh.mp ey;have:blt (kf y) k=true\/blt k (kf x)=true:=O.neg _ k _ l;rcases this with z|z
   ·rw [ey.1] at z;cases z
   ·rw [ex.2] at z;cases z
  rw [hy,Bv,Bj]
 ·have Sy:X.filter (eqv blt kf k)=[]:=BU.mpr λ x Sy ex=>hx ⟨x,Sy,ex⟩
  rw [Sy,Bv,Bj]
theorem Jx:∀{xs ys:List α},xs.Pairwise (Le blt kf)->ys.Pairwise (Le blt kf)->Stb blt kf xs ys->xs=ys
 | [],[],_,_,_=>rfl
 | [],y::ys,_,_,h=>by have:=Stb.mem O h.symm (AE (a:=y) (l:=ys));cases this
 |x::xs,[],_,_,h=>by have:=Stb.mem O h (AE (a:=x) (l:=xs));cases this
 |x::xs,y::ys,hx,hy,h=>by
  have VB:=Stb.mem O h (AE (a:=x) (l:=xs));have hym:=Stb.mem O h.symm (AE (a:=y) (l:=ys));have l1:Le blt kf x y:=by
   rcases AB.mp hym with rfl|z
   ·exact O.irr _
   ·exact(BX.mp hx).1 y z
  have l2:Le blt kf y x:=by
   rcases AB.mp VB with rfl|z
   ·exact O.irr _
   ·exact(BX.mp hy).1 x z
  have ex:eqv blt kf (kf x) x=true:=GY O x;have ey:eqv blt kf (kf x) y=true:=Hh.mpr ⟨l1,l2⟩;have e:=h (kf x);rw [AL ex,AL ey] at e;obtain⟨rfl,_⟩:=Eo e;have ht:Stb blt kf xs ys:=λ k=>by
   have e:=h k;by_cases z:eqv blt kf k x=true
   ·rw [AL z,AL z] at e;exact(Eo e).2
   ·rw [AS z,AS z] at e;exact e
  rw [Jx (BX.mp hx).2 (BX.mp hy).2 ht]
omit O in
omit O in
omit O in
omit O in
omit O in
omit O in
omit O in
omit O in
end
end SM
namespace SG
open PySem PyProof.Rows
noncomputable def kf (κ:KeyKind) (p:Keyed):κ.α:=(κ.keyOf p.1).getD κ.dflt
def T9 (κ:KeyKind)(p:Keyed):Prop:=∃a,κ.keyOf p.1=some a
def ord (κ:KeyKind):SM.Ord κ.blt:=⟨κ.irrefl,κ.trans,κ.negTrans,κ.total⟩
def yf (hO:κ.OneLt)(hk:kindOf sq0=oneType')(hx:T9 κ x)(hy:T9 κ y)(h:Q (some (κ.blt (kf κ x) (kf κ y))) sq0):
  wpS 'l' A E s (lt' x y) Q sq0:=by
 obtain⟨a,ha⟩:=hx;obtain⟨b,hb⟩:=hy;rw [lt'_eq];refine wpS_bind (wpS_get ?_);rw [hk,keyLt'_oneType];refine wpS_bind (wpS_lift (CO (hO prog w A _ s x.1 y.1 a b ha hb ⟨rfl,?_⟩)));unfold kf at h;rw [ha,hb] at h;exact CF h
def l8 (hi:i<arr.size)(h:Q arr[i] sq0):wpS 'l' A E s (elem' arr i) Q sq0:=by
 rw [elem'_eq,getElem?_pos arr i hi];exact CF h
def mz (h:l≤r)(k:r-l≤n-max 0 n):l=r:=A8 h (Nat.sub_eq_zero_iff_le.1 (Nat.le_zero.1 (Ai k (A5 (DF n)))))
end SG
namespace SG
open PySem PyProof.Rows SM
abbrev Ih (κ:KeyKind):Keyed->Keyed->Prop:=Le κ.blt (kf κ)
abbrev P2 (κ:KeyKind):Keyed->Keyed->Prop:=Lt κ.blt (kf κ)
def cD [Decidable c] {Q:α->SortSt->Prop}(hc:c)(h:wpS M A E s m1 Q sq0):wpS M A E s (if c then m1 else m2) Q sq0:=by rw [AK hc];exact h
def cE [Decidable c] {Q:α->SortSt->Prop}(hc:¬c)(h:wpS M A E s m2 Q sq0):wpS M A E s (if c then m1 else m2) Q sq0:=by rw [AH hc];exact h
def pB {xs:Array Keyed}(e:xs.toList=P++X++S)(hj:j<X.length):∃F9:P.length+j<xs.size,xs[P.length+j]=X[j]:=by
 have F9:P.length+j<xs.size:=by
  have:xs.toList.length=xs.size:=Z6;rw [<-this,e];simp;exact Nat.lt_add_right _ hj
 refine⟨F9,?_⟩;have:xs[P.length+j]=xs.toList[P.length+j]'(by simpa using F9):=Z6;rw [this];simp only [e];rw [Ef (by simp;assumption),C8 Z5];congr 1;exact Nat.add_sub_self_left _ _
end SG
namespace SM
theorem Hi {α:Type}{p:α->Bool}:∀{ys:List α},(∃y∈ys,p y=true)->∃l1 y l2,ys=l1++y::l2/\p y=true/\∀z∈l1,¬p z=true
 | [],h=>by obtain⟨y,hy,_⟩:=h;cases hy
 |z::ys,h=>by
  by_cases hz:p z=true
  ·exact⟨[],z,ys,rfl,hz,λ _ h=>nomatch h⟩
  ·obtain⟨y,hy,hp⟩:=h;rcases AB.mp hy with rfl|hy
   ·exact absurd hp hz
   ·obtain⟨l1,y,l2,e,h1,h2⟩:=Hi ⟨y,hy,hp⟩;refine⟨z::l1,y,l2,by rw [e];rfl,h1,λ u hu=>?_⟩;rcases AB.mp hu with rfl|hu
    ·exact hz
    ·exact h2 u hu
theorem GX {kf:α->κ}(O:Ord blt):∀{xs ys:List α},Stb blt kf xs ys->xs.Perm ys
 | [],ys,h=>by
  cases ys with
  |nil=>exact .nil
  |cons y ys=>have:=Stb.mem O h.symm (AE);cases this
 |x::xs,ys,h=>by
  have hx:=Stb.mem O h (AE);obtain⟨l1,y,l2,rfl,hy,h1⟩:=Hi ⟨x,hx,GY O x⟩;have e:=h (kf x);have n1:l1.filter (eqv blt kf (kf x))=[]:=BU.mpr h1;rw [AL (GY O x),AQ,n1,Bj,AL hy] at e;obtain⟨rfl,e2⟩:=Eo e;have ht:Stb blt kf xs (l1++l2):=λ k=>by
   by_cases hk:eqv blt kf k x=true
   ·have z:=Hh.mp hk;have:kf x=k:=O.tot _ _ z.1 z.2;subst this;rw [AQ,n1,Bj];exact e2
   ·have e3:=h k;rw [AS hk,AQ,AS hk] at e3;rw [AQ];exact e3
  exact(List.Perm.cons x (GX O ht)).trans Du.symm
end SM
namespace SG
open PySem PyProof.Rows SM
def toL {xs:Array Keyed}(k:Nat):xs[k]?=xs.toList[k]?:=Z6
def mO {A' M B:List Keyed}(e:xs.toList=A'++M++B):(mirror xs A'.length (A'.length+M.length) ((A'.length+M.length-A'.length)/2)).toList=A'++M.reverse++B:=by
 have hs:A'.length+M.length≤xs.size:=by
  rw [<-Ch,e];simp
 apply B5;intro k;rw [<-toL,getElem?_mirror_all hs k,toL,toL,e];by_cases h:A'.length≤k/\k<A'.length+M.length
 ·obtain⟨j,rfl⟩:=CN h.1;have hj:=Nat.lt_of_add_lt_add_left h.2;have e0:A'.length+(A'.length+M.length)-1-(A'.length+j)=A'.length+(M.length-1-j):=by clear h e hs;omega
  rw [AK h,e0,An,An,AY (BM _ _),AY (BM _ _),Cr,Cr,Bg (Be (EF _ _) (EZ hj)),Bg (by simp;exact hj),List.getElem?_reverse hj]
 ·rw [AH h,An,An];rcases A2 k A'.length with z|z
  ·rw [Bg z,Bg z]
  ·rw [AY z,AY z,AY Z5,AY (by simp;omega),Dq]
def nr {x:Keyed}(e:xs.toList=A'++M++[x]++B):(bubble xs (A'.length+M.length) (A'.length+M.length-A'.length)).toList=A'++[x]++M++B:=by
 have hs:A'.length+M.length<xs.size:=by
  rw [<-Ch,e];simp
 apply B5;intro k;rw [<-toL,getElem?_bubble hs _ (EF _ _) k,toL,toL,toL,e,show A'.length+M.length-(A'.length+M.length-A'.length)=A'.length by omega];have e1:(A'++M++[x]++B)[A'.length+M.length]?=some x:=by
  rw [An (A'++M),AY Z6];simp
 rw [e1];by_cases h1:k=A'.length
 ·subst h1;rw [AK rfl,An,An,AY (Ak _)];simp
 ·rw [AH h1];by_cases h2:A'.length<k/\k≤A'.length+M.length
  ·rw [AK h2,An (A'++M),An,AY (EX h2.1),Bg Z4,An (A'++[x]),AY (by simp;exact Nat.succ_le_of_lt h2.1),Bg (by simp;omega)];congr 1;simp;lia
  ·rw [AH h2];rcases A2 k A'.length with z|z
   ·rw [An (A'++M),An,Bg z,An (A'++[x]),An,Bg z]
   ·rw [AY (by simp;lia),AY (by simp;omega)];congr 1;simp
structure At (κ:KeyKind)(sq0:SortSt)(pe:Array (Nat×Nat×Nat))(l:List Keyed):Prop where
 k:kindOf sq0=oneType'
 f:failedOf sq0=none
 p:pendingOf sq0=pe
 a:(arrOf sq0).toList=l
 has:∀p∈l,T9 κ p
def At.setA (h:At κ sq0 pe l)(e:xs.toList=l')(hm:∀p∈l',p∈l):At κ (setArr sq0 xs) pe l':=⟨h.k,h.f,h.p,e,λ p hp=>h.has p (hm p hp)⟩
def iI (hO:κ.OneLt)(h:At κ sq0 pe (P++X++S))(hi:i<X.length)(hj:j<X.length)
  (hq:Q (some (κ.blt (kf κ X[i]) (kf κ X[j]))) sq0):wpS 'l' A E s (ltAt' (P.length+i) (P.length+j)) Q sq0:=by
 rw [ltAt'_eq];refine wpS_bind (wpS_get ?_);obtain⟨h1,e1⟩:=pB h.a hi;obtain⟨h2,e2⟩:=pB h.a hj;refine wpS_bind (l8 h1 (wpS_bind (l8 h2 ?_)));rw [e1,e2];exact yf hO h.k (h.has _ Z6) (h.has _ Z6) hq
def iD (h:At κ sq0 pe (A'++M++B))(ei:i=A'.length)(ej:j=A'.length+M.length)(hq:∀Gv,At κ Gv pe (A'++M.reverse++B)->Q () Gv):
  wpS 'l' A E s (reverseSlice' i j) Q sq0:=by
 subst ei ej;exact wpS_reverse (hq _ (h.setA (mO h.a) λ p hp=>by simpa using hp))
def u6 (h:At κ sq0 pe (A'++M++[x]++B))(ei:i=A'.length+M.length)(ej:j=A'.length)(hq:∀Gv,At κ Gv pe (A'++[x]++M++B)->Q () Gv):
  wpS 'l' A E s (moveDown' i j) Q sq0:=by
 subst ei ej;rw [moveDown'_eq];exact wpS_modify (hq _ (h.setA (nr h.a) λ p hp=>by
  simp only [AR,As] at hp ⊢;rcases hp with((z|z)|z)|z
  ·exact .inl (.inl (.inl z))
  ·exact .inl (.inr z)
  ·exact .inl (.inl (.inr z))
  ·exact .inr z))
def qL:Nat->Nat->StateT SortSt Sem (Option Nat):=sortPriv%PySem.Builtin.countRun
def vB (h:l.Pairwise (Ih κ))(hx:∀y∈l,Ih κ y x):(l++[x]).Pairwise (Ih κ):=by
 rw [DU];exact⟨h,Z6,λ a ha b hb=>by
  have:b=x:=by simpa using hb
  subst this;exact hx a ha⟩
def qq {l:List Keyed}(h:l.Pairwise (Ih κ))(hn:n+1=l.length)(hy:y∈l):Ih κ y (l[n]'(FB (A5 hn))):=by
 obtain⟨j,hj,rfl⟩:=Cw.mp hy;rcases A2 j n with z|z
 ·exact(Cf.mp h) j n hj (FB (A5 hn)) z
 ·have:j=n:=A8 (B4 (Av hj hn.symm)) z;subst this;exact(ord κ).irr _
structure Ds (κ:KeyKind)(X D0 Eb:List Keyed)(n IV:Nat):Prop where
 le:Eb.length=IV+1
 ln:D0.length+Eb.length=n
 eq:∀u∈Eb,∀v∈Eb,Ih κ u v
 sd:D0.reverse.Pairwise (Ih κ)
 lt:∀u∈Eb,∀d∈D0,P2 κ u d
 sq0:Stb κ.blt (kf κ) (Eb++D0.reverse) (X.take n)
def Ds.sorted (h:Ds κ X D0 Eb n IV):(Eb++D0.reverse).Pairwise (Ih κ):=by
 rw [DU];exact⟨List.pairwise_of_forall_mem_list λ u hu v hv=>h.eq u hu v hv,h.sd,λ u hu d hd=>le_of_lt (ord κ) (h.lt u hu d (Dw.mp hd))⟩
def dE {X:List Keyed}(hn:n<X.length):X.take (n+1)=X.take n++[X[n]]:=by
 rw [Bl,Ad hn];rfl
def Ds.next (h:Ds κ X D0 Eb n IV)(hn:n<X.length)(F9:∀u∈Eb,P2 κ X[n] u):Ds κ X (D0++Eb.reverse) [X[n]] (n+1) 0:=by
 have Hc:∀u∈Eb++D0.reverse,P2 κ X[n] u:=λ u hu=>by
  rcases AR.mp hu with z|z
  ·exact F9 u z
  ·have Hx:0<Eb.length:=by have:=h.le;exact Nat.lt_of_sub_eq_succ this
   have e0:Eb[0]∈Eb:=BL Hx;exact(ord κ).tr _ _ _ (F9 _ e0) (h.lt _ e0 u (Dw.mp z))
 refine⟨rfl,by rw [Ac,Dq,h.ln];rfl,λ u hu v hv=>?_,?_,λ u hu d hd=>?_,?_⟩
 ·have e1:u=X[n]:=by simpa using hu
  have e2:v=X[n]:=by simpa using hv
  subst e1;subst e2;exact(ord κ).irr _
 ·rw [Fg,Da];exact h.sorted
 ·have e1:u=X[n]:=by simpa using hu
  subst e1;refine Hc d ?_;rcases AR.mp hd with z|z
  ·exact AD _ (Dw.mpr z)
  ·exact Bm _ (Dw.mp z)
 ·rw [Fg,Da,dE hn];refine Stb.trans ?_ (h.sq0.app (Stb.refl [X[n]]));refine(gy (ord κ) λ y hy x hx=>?_).symm;have e1:y=X[n]:=by simpa using hy
  subst e1;exact Hc x hx
def Ds.more (h:Ds κ X D0 Eb n IV)(hn:n<X.length)(h1:∀u∈Eb,Ih κ X[n] u)(h2:∀u∈Eb,Ih κ u X[n]):Ds κ X D0 (Eb++[X[n]]) (n+1) (IV+1):=by
 have Hx:0<Eb.length:=by have:=h.le;exact Nat.lt_of_sub_eq_succ this
 have e0:Eb[0]∈Eb:=BL Hx;have hD:∀d∈D0,P2 κ X[n] d:=λ d hd=>m8 (ord κ) (h1 _ e0) (h.lt _ e0 d hd)
 refine⟨by rw [Ac,h.le];rfl,by rw [Ac,<-BW,h.ln];rfl,λ u hu v hv=>?_,h.sd,λ u hu d hd=>?_,?_⟩
 ·rcases AR.mp hu with z|z<;>rcases AR.mp hv with z2|z2
  ·exact h.eq u z v z2
  ·have:v=X[n]:=by simpa using z2
   subst this;exact h2 u z
  ·have:u=X[n]:=by simpa using z
   subst this;exact h1 v z2
  ·have e1:u=X[n]:=by simpa using z
   have e2:v=X[n]:=by simpa using z2
   subst e1;subst e2;exact(ord κ).irr _
 ·rcases AR.mp hu with z|z
  ·exact h.lt u z d hd
  ·have:u=X[n]:=by simpa using z
   subst this;exact hD d hd
 ·rw [dE hn];refine Stb.trans ?_ (h.sq0.app (Stb.refl [X[n]]));rw [An,An];refine(Stb.refl Eb).app (gy (ord κ) λ y hy x hx=>?_).symm;have:y=X[n]:=by simpa using hy
  subst this;exact hD x (Dw.mp hx)
def tE (hO:κ.OneLt){Q:(Option (Option Nat)×Nat)->SortSt->Prop}
  (h:At κ sq0 pe (P++X++S)) (hn:G8=X.length) (ha:1≤a) (han:a≤G8) (hs:(X.take a).Pairwise (Ih κ))
  (hf:∀(x n:Nat) (MM:1≤n) (Jl:n<G8),wpS 'l' A E s (f x (none,n)) (λ r Gv=>Gv=sq0/\r=if κ.blt (kf κ (X[n]'(Av Jl hn))) (kf κ (X[n-1]'(BS (Av Jl hn))))=true then .done (none,n) else .yield (none,n+1)) sq0)
  (hq:∀n,a≤n->n≤G8->(X.take n).Pairwise (Ih κ)->(n=G8\/∃F9:n<X.length,P2 κ X[n] (X[n-1]'(BS F9)))->Q (none,n) sq0):wpS 'l' A E s (forIn [a:G8] (none,a) f) Q sq0:=by
 refine EO (I:=λ x c Gv=>Gv=sq0/\c=(none,x)/\(X.take x).Pairwise (Ih κ)) ?_ ?_ ⟨rfl,rfl,hs⟩
 ·rintro x c Gv TJ Ll ⟨rfl,rfl,LX⟩;refine wpS_mono (hf x x (Ai ha TJ) Ll) ?_;rintro r KG ⟨rfl,rfl⟩;by_cases hc:κ.blt (kf κ (X[x]'(Av Ll hn))) (kf κ (X[x-1]'(BS (Av Ll hn))))=true
  ·rw [AK hc];exact hq x TJ (Cz Ll) LX (.inr ⟨Av Ll hn,hc⟩)
  ·rw [AH hc];refine⟨rfl,rfl,?_⟩;rw [dE (show x<X.length from Av Ll hn)];refine vB LX λ y hy=>?_
   have l1:=qq LX (by rw [Aq,Bu (B9 (Av Ll hn)),Nat.sub_add_cancel (Ai ha TJ)]) hy;rw [Dh] at l1;exact le_trans (ord κ) l1 (by simpa using hc)
 ·rintro c Gv ⟨rfl,rfl,LX⟩;rw [show max a G8=G8 from FJ han] at LX ⊢;exact hq G8 han (Ak _) LX (.inl rfl)
def lm (hO:κ.OneLt)(h:At κ sq0 pe (P++X++S))(LY:OS=P.length)(hn:G8=X.length)(h1:1≤G8)
  (hq:∀m Y Gv,1≤m->m≤G8->Y.length=m->Y.Pairwise (Ih κ)->Stb κ.blt (kf κ) Y (X.take m)->At κ Gv pe (P++(Y++X.drop m)++S)->Q (some m) Gv):wpS 'l' A E s (qL OS G8) Q sq0:=by
 subst LY;have up:∀{sq0} {X},At κ sq0 pe (P++X++S)->∀(hXn:G8=X.length) (n:Nat) (MM:1≤n) (Jl:n<G8) {Q:Option Bool->SortSt->Prop},Q (some (κ.blt (kf κ (X[n]'(Av Jl hXn))) (kf κ (X[n-1]'(BS (Av Jl hXn)))))) sq0->wpS 'l' A E s (ltAt' (P.length+n) (P.length+n-1)) Q sq0:=by
  intro sq0 X h hn n MM Jl Q hq;rw [show P.length+n-1=P.length+(n-1) from FC MM _];exact iI hO h (Av Jl hn) (BS (Av Jl hn)) hq
 refine wpS_bind (tE hO h hn (Ak 1) h1 ?_ ?_ λ n MM Jl hs hor=>?_)
 ·cases X with
  |nil=>simp
  |cons x X=>simp
 ·intro x n MM Jl;refine wpS_bind (up h hn n MM Jl ?_);dsimp only
  split
  ·exact CF ⟨rfl,rfl⟩
  ·exact CF ⟨rfl,rfl⟩
 dsimp-zeta only;have same:P++X++S=P++(X.take n++X.drop n)++S:=by rw [Bn]
 have lt:(X.take n).length=n:=by rw [Aq,Bu (Ai Jl (A5 hn))]
 by_cases e1:n=G8
 ·refine cD (Ed.mpr e1) (CF (hq n (X.take n) sq0 MM Jl lt hs (Stb.refl _) (same▸h)))
 refine cE (λ z=>e1 (Ed.mp z)) ?_;obtain⟨F9,JX⟩:=hor.resolve_left e1;have hn5:=Av F9 hn.symm;have PQ:=Be (A1 _) F9
 extract_lets v1 v2 jp
 have Tc:∀OM,At κ OM pe (P++((X.take n).reverse++X.drop n)++S)->(∀u∈X.take n,∀v∈X.take n,Ih κ u v)->wpS 'l' A E s (jp ()) Q OM:=by
  intro OM hA1 heq;refine wpS_bind (wpS_lift (Ea ⟨rfl,?_⟩));have Va:(X[n-1]'(BS F9))∈X.take n:=by
   rw [List.mem_take_iff_getElem];exact⟨n-1,Nat.lt_min.2 ⟨EZ MM,BS F9⟩,rfl⟩
  have hX0:∀u∈X.take n,P2 κ X[n] u:=λ u hu=>fk (ord κ) JX (heq _ Va u hu)
  have hD0:Ds κ X (X.take n).reverse [X[n]] (n+1) 0:=by
   refine⟨rfl,by rw [Dq,lt];rfl,λ u hu v hv=>?_,by rw [Da];exact hs,λ u hu d hd=>?_,?_⟩
   ·have e1:u=X[n]:=by simpa using hu
    have e2:v=X[n]:=by simpa using hv
    subst e1;subst e2;exact(ord κ).irr _
   ·have e1:u=X[n]:=by simpa using hu
    subst e1;exact hX0 d (Dw.mp hd)
   ·rw [Da,dE F9];refine(gy (ord κ) λ y hy x hx=>?_).symm;have e1:y=X[n]:=by simpa using hy
    subst e1;exact hX0 x hx
  have hA0:At κ OM pe (P++((X.take n).reverse++[X[n]]++X.drop (n+1))++S):=by
   rw [An (X.take n).reverse,Cm,<-Cc F9];exact hA1
  refine wpS_bind (wpS_mono (EO (I:=λ x c Gv=>∃D0 Eb IV,c=(none,x,IV)/\Ds κ X D0 Eb x IV/\At κ Gv pe (P++(D0++Eb++X.drop x)++S))
   (Q:=λ c Gv=>∃m D0 Eb IV,c=(none,m,IV)/\m≤G8/\n+1≤m/\Ds κ X D0 Eb m IV/\At κ Gv pe (P++(D0++Eb++X.drop m)++S)) ?_ ?_ ⟨_,_,0,rfl,hD0,hA0⟩) ?_)
  ·rintro x c LQ TJ Ll ⟨D0,Eb,IV,rfl,hD,hA⟩;have U0:n+1≤x:=TJ;have MN:=hD.le;have G5:=hD.ln;have Sx:x<X.length:=Av Ll hn;have lC:G8=(D0++Eb++X.drop x).length:=by rw [Ac,Ac,Au,G5,Cj (B9 Sx)];exact hn
   have hc1:(D0++Eb++X.drop x)[x]'(Av Ll lC)=X[x]:=by
    rw [C8 (by rw [Ac];exact A5 G5),EG];simp only [Ac,G5,DF,DB]
   have hE:=FB (A5 MN.symm);have WX:=Ap (Nat.succ_pos n) U0;have Py:x-1=D0.length+IV:=by rw [<-G5,MN];rfl
   have hc2:(D0++Eb++X.drop x)[x-1]'(BS (Av Ll lC))=Eb[IV]'hE:=by
    rw [Ef (by rw [Ac,G5];exact EZ WX),C8 (by rw [Py];exact BM _ _)];simp only [Py,Cr]
   have XE:(Eb[IV]'hE)∈Eb:=BL _;refine wpS_bind (up hA lC x WX Ll ?_);rw [hc1,hc2];dsimp only;cases e:κ.blt (kf κ X[x]) (kf κ (Eb[IV]'hE)) with
   |true=>
    refine cD rfl ?_;have hN:=hD.next Sx λ u hu=>fk (ord κ) e (hD.eq _ XE u hu)
    have fin:∀HW,At κ HW pe (P++D0++Eb.reverse++(X.drop x++S))->At κ HW pe (P++(D0++Eb.reverse++[X[x]]++X.drop (x+1))++S):=λ HW h3=>by
     rw [An (D0++Eb.reverse),Cm,<-Cc Sx];simpa [An] using h3
    by_cases Lw:IV>0
    ·refine cD Lw (wpS_bind (iD (by simpa [An] using hA) (by rw [Ac,<-G5,MN,<-BW];exact Nat.add_sub_cancel ..) (by rw [Ac,BW,G5]) λ HW Kf=>CF ⟨_,_,0,rfl,hN,fin HW Kf⟩))
    ·have QK:Eb.reverse=Eb:=by
      obtain⟨y,e⟩:=List.length_eq_one_iff.1 (MN.trans (Bx Nat.succ (Nat.eq_zero_of_not_pos Lw)));rw [e];rfl
     refine cE Lw (CF ⟨_,_,0,rfl,hN,fin LQ ?_⟩);rw [QK];simpa [An] using hA
   |false=>
    refine cE Z9 ?_;rw [FC WX];refine wpS_bind (iI hO hA (BS (Av Ll lC)) (Av Ll lC) ?_);rw [hc1,hc2];dsimp only;cases e2:κ.blt (kf κ (Eb[IV]'hE)) (kf κ X[x]) with
    |true=>exact cD rfl (CF ⟨x,D0,Eb,IV,rfl,B9 Ll,U0,hD,hA⟩)
    |false=>
     refine cE Z9 (CF ⟨D0,_,IV+1,rfl,hD.more Sx (λ u hu=>le_trans (ord κ) e2 (hD.eq _ XE u hu)) (λ u hu=>le_trans (ord κ) (hD.eq u hu _ XE) e),?_⟩);rw [<-An D0,An (D0++Eb),Cm,<-Cc Sx];exact hA
  ·rintro c LQ ⟨D0,Eb,IV,rfl,hD,hA⟩;have:max (n+1) G8=G8:=FJ hn5;have U5:max v1 G8=G8:=this;rw [U5] at hD hA ⊢;exact⟨G8,D0,Eb,IV,rfl,Ak _,hn5,hD,hA⟩
  ·rintro c LQ ⟨m,D0,Eb,IV,ec,OA,PB,hD,hA⟩;subst ec;have MN:=hD.le;have G5:=hD.ln;dsimp-zeta only
   extract_lets r1 r2 r3 r4 jp3
   have er3:m=r3:=rfl;have er4:IV=r4:=rfl
   clear_value r3 r4
   subst er3 er4;have UR:∀HW,At κ HW pe (P++D0++Eb.reverse++(X.drop m++S))->wpS 'l' A E s (jp3 ()) Q HW:=by
    intro HW Kf;have hm0:=Ap (Nat.succ_pos n) PB;refine wpS_bind (iD (M:=D0++Eb.reverse) (by simpa [An] using Kf) rfl (by rw [Ac,Dq,G5]) λ RZ hA4=>?_);rw [Fg,Da] at hA4;have lY:(Eb++D0.reverse).length=m:=by rw [Ac,Dq,EL,G5]
    have WT:G8=(Eb++D0.reverse++X.drop m).length:=by rw [Ac,lY,Au,Cj (Ai OA (A5 hn))];exact hn
    have XJ:At κ RZ pe (P++(Eb++D0.reverse++X.drop m)++S):=by simpa [An] using hA4
    refine wpS_bind (tE hO XJ WT hm0 OA ?_ ?_ λ n2 Qk VL Io _=>?_)
    ·rw [ET (A5 lY.symm),A3 (A5 lY)];exact hD.sorted
    ·intro x n2 Qk VL;refine wpS_bind (up XJ WT n2 Qk VL ?_);dsimp only
     split
     ·exact CF ⟨rfl,rfl⟩
     ·exact CF ⟨rfl,rfl⟩
    refine CF (hq n2 _ RZ (Ai hm0 Qk) VL (by rw [Aq,<-WT,Bu VL]) Io ?_ ?_)
    ·have e1:(Eb++D0.reverse++X.drop m).take n2=Eb++D0.reverse++(X.drop m).take (n2-m):=by
      rw [Dt,A3 (Ai (A5 lY) Qk),lY]
     have e2:X.take n2=X.take m++(X.drop m).take (n2-m):=by
      rw [<-List.take_add,Cj Qk]
     rw [e1,e2];exact hD.sq0.app (Stb.refl _)
    ·have e1:(Eb++D0.reverse++X.drop m).drop n2=X.drop n2:=by
      rw [List.drop_append,Dy (Ai (A5 lY) Qk),Bj,lY,Cn,Cj Qk]
     rw [<-e1,Bn];exact XJ
   clear_value jp3
   by_cases Lw:IV>0
   ·refine cD Lw (wpS_bind (iD (by simpa [An] using hA) (by rw [Ac,<-G5,MN,<-BW];exact Nat.add_sub_cancel ..) (by rw [Ac,BW,G5]) λ HW Kf=>UR HW Kf))
   ·have QK:Eb.reverse=Eb:=by
     obtain⟨y,e⟩:=List.length_eq_one_iff.1 (MN.trans (Bx Nat.succ (Nat.eq_zero_of_not_pos Lw)));rw [e];rfl
    refine cE Lw (UR LQ ?_);rw [QK];simpa [An] using hA
 clear_value jp
 by_cases VQ:n>1
 ·refine cD VQ ?_;rw [FC MM];refine wpS_bind (iI hO h PQ (BS F9) ?_);dsimp only;cases er:κ.blt (kf κ (X[0]'PQ)) (kf κ (X[n-1]'(BS F9))) with
  |true=>exact cD rfl (CF (hq n (X.take n) sq0 MM Jl lt hs (Stb.refl _) (same▸h)))
  |false=>
   refine cE Z9 (wpS_bind (iD ?_ rfl (by rw [lt]) λ HW Kf=>Tc HW (by simpa [An] using Kf) λ u hu v hv=>?_))
   ·have e0:P++X.take n++(X.drop n++S)=P++X++S:=by rw [An P,<-An (X.take n),Bn,<-An]
    rw [e0];exact h
   ·have l1:=qq hs (by rw [lt,Nat.sub_add_cancel MM]) hu;rw [Dh] at l1;obtain⟨j,hj,rfl⟩:=Cw.mp hv;rw [Dh];have l2:Ih κ (X[0]'PQ) (X[j]'(Ap hj (Ai (A5 lt) (B9 F9)))):=by
     rcases Nat.eq_zero_or_pos j with rfl|z
     ·exact(ord κ).irr _
     ·have:=(Cf.mp hs) 0 j (D9 z hj) hj z;rw [Dh,Dh] at this;exact this
    exact le_trans (ord κ) l1 (le_trans (ord κ) er l2)
 ·refine cE VQ (Tc sq0 ?_ λ u hu v hv=>?_)
  ·have:n=1:=A8 (Nat.not_lt.1 VQ) MM;subst this;rw [same] at h;have e1:(X.take 1).reverse=X.take 1:=by
    cases X with
    |nil=>rfl
    |cons x X=>rfl
   rw [e1];exact h
  ·have:n=1:=A8 (Nat.not_lt.1 VQ) MM;subst this;obtain⟨j,hj,rfl⟩:=Cw.mp hu;obtain⟨q,Lm,rfl⟩:=Cw.mp hv;have e1:j=0:=Nat.lt_one_iff.1 (lt▸hj);have e2:q=0:=Nat.lt_one_iff.1 (lt▸Lm);subst e1;subst e2;exact(ord κ).irr _
def jA (hO:κ.OneLt)(h:At κ sq0 pe (P++(Y++R)++S))(LY:OS=P.length)(hY:Y.Pairwise (Ih κ))(lY:Y.length=ok)(h1:1≤ok)(hok:ok≤n)(hn:n≤ok+R.length)
  (hq:∀Y' Gv,Y'.length=n->Y'.Pairwise (Ih κ)->Stb κ.blt (kf κ) Y' (Y++R.take (n-ok))->At κ Gv pe (P++(Y'++R.drop (n-ok))++S)->Q true Gv):wpS 'l' A E s (binarySort' OS n ok) Q sq0:=by
 subst LY;refine wpS_bind (wpS_mono (EO (I:=λ k c Gv=>c=(none,())/\∃Y',Y'.length=k/\Y'.Pairwise (Ih κ)/\Stb κ.blt (kf κ) Y' (Y++R.take (k-ok))/\At κ Gv pe (P++(Y'++R.drop (k-ok))++S))
  (Q:=λ c Gv=>c=(none,())/\∃Y',Y'.length=n/\Y'.Pairwise (Ih κ)/\Stb κ.blt (kf κ) Y' (Y++R.take (n-ok))/\At κ Gv pe (P++(Y'++R.drop (n-ok))++S)) ?step ?fin ?init) ?post)
 case post=>
  rintro c Gv ⟨rfl,Y',e1,e2,e3,e4⟩;exact CF (hq Y' Gv e1 e2 e3 e4)
 case init=>
  have e:max ok 1=ok:=Nat.max_eq_left h1;rw [e];refine⟨rfl,Y,lY,hY,?_,?_⟩
  ·rw [DF,DV,Bv];exact Stb.refl _
  ·rw [DF,EH];exact h
 case fin=>
  rintro c Gv ⟨rfl,Y',e1,e2,e3,e4⟩;rw [FJ (Nat.max_le.2 ⟨hok,Ai h1 hok⟩)] at e1 e3 e4;exact⟨rfl,Y',e1,e2,e3,e4⟩
 case step=>
  rintro k c Gv hak hkn ⟨rfl,Y',e1,e2,e3,e4⟩;have U1:ok≤k:=Ai (Nat.le_max_left _ _) hak;have SY:k-ok<R.length:=Z4;have lC:(Y'++R.drop (k-ok)).length=k+(R.length-(k-ok)):=by rw [Ac,Au,e1]
  have VO:k<(Y'++R.drop (k-ok)).length:=lC▸Ei (Nat.sub_pos_of_lt SY);clear lC;have hx:(Y'++R.drop (k-ok))[k]'VO=R[k-ok]:=by
   rw [C8 (A5 e1),EG];simp only [e1,DF,DB]
  have hy:∀m (hm:m<k),(Y'++R.drop (k-ok))[m]'(D9 hm VO)=Y'[m]'(Av hm e1.symm):=λ m hm=>Ef (Av hm e1.symm)
  extract_lets v1 v2
  refine wpS_bind (wpS_mono (EO (I:=λ x c KG=>KG=Gv/\∃l r,c=(none,l,r)/\l≤r/\r≤k/\r-l≤k-x/\
    (∀i (hi:i<l) (Tf:i<k),Ih κ (Y'[i]'(Av Tf e1.symm)) R[k-ok])/\(∀i,r≤i->∀hi:i<k,P2 κ R[k-ok] (Y'[i]'(Av hi e1.symm))))
   (Q:=λ c KG=>KG=Gv/\∃l r,c=(none,l,r)/\l≤k/\(∀i (hi:i<l) (Tf:i<k),Ih κ (Y'[i]'(Av Tf e1.symm)) R[k-ok])/\(∀i,l≤i->∀hi:i<k,P2 κ R[k-ok] (Y'[i]'(Av hi e1.symm)))) ?istep ?ifin ?iinit) ?ipost)
  case iinit=>exact⟨rfl,0,k,rfl,A1 _,Ak _,EF _ 0,λ i hi=>absurd hi (Dc _),λ i h1 h2=>absurd h2 (Nat.not_lt.2 h1)⟩
  case ifin=>
   rintro c KG ⟨rfl,l,r,rfl,Xa,SD,hm,LY,Qo⟩;have:l=r:=mz Xa hm;subst this;exact⟨rfl,l,l,rfl,SD,LY,Qo⟩
  case istep=>
   rintro x c KG _ hxk ⟨rfl,l,r,rfl,Xa,SD,hm,LY,Qo⟩;dsimp only;by_cases OB:l≥r
   ·have:l=r:=A8 Xa OB;subst this;exact cD (Ak _) (CF ⟨rfl,l,l,rfl,SD,LY,Qo⟩)
   ·have SR:(l+r)/2<r:=Z5;have Rn:l≤(l+r)/2:=Z5;have Rp:=Ap SR SD;refine cE OB (wpS_bind (iI hO e4 VO (D9 Rp VO) ?_));rw [hx,hy _ Rp];dsimp only;cases JX:κ.blt (kf κ R[k-ok]) (kf κ (Y'[(l+r)/2]'(Av Rp e1.symm)))
    case true=>
     refine cD rfl (CF ⟨rfl,l,(l+r)/2,rfl,Rn,B9 Rp,Ai (E1 (EX SR) _) (by rw [Nat.sub_right_comm];exact E1 hm 1),LY,λ i h1 h2=>?_⟩);rcases A2 ((l+r)/2) i with z|z
     ·exact fk (ord κ) JX ((Cf.mp e2) _ i (Av Rp e1.symm) (Av h2 e1.symm) z)
     ·have:i=(l+r)/2:=A8 z h1;subst this;exact JX
    case false=>
     refine cE Z9 (CF ⟨rfl,(l+r)/2+1,r,rfl,SR,SD,Ai (Nat.sub_le_sub_left (DZ Rn) _) (E1 hm 1),λ i h1 h2=>?_,Qo⟩);rcases A2 i ((l+r)/2) with z|z
     ·exact le_trans (ord κ) ((Cf.mp e2) i _ (Av h2 e1.symm) (Av Rp e1.symm) z) JX
     ·have:i=(l+r)/2:=A8 (B4 h1) z;subst this;exact JX
  case ipost=>
   rintro c KG ⟨rfl,l,r,rfl,LZ,LY,Qo⟩;have hd:R.drop (k-ok)=R[k-ok]::R.drop (k+1-ok):=by
    rw [Cc SY];rw [Nat.sub_add_comm U1]
   have hA:At κ KG pe ((P++Y'.take l)++Y'.drop l++[R[k-ok]]++(R.drop (k+1-ok)++S)):=by
    rw [hd] at e4;have e0:(P++Y'.take l)++Y'.drop l++[R[k-ok]]++(R.drop (k+1-ok)++S)=P++(Y'++R[k-ok]::R.drop (k+1-ok))++S:=by
     rw [An P,Bn];simp [An]
    rw [e0];exact e4
   have lt:(Y'.take l).length=l:=by rw [Aq,e1,Bu LZ]
   have ld:(Y'.drop l).length=k-l:=by rw [Au,e1]
   refine wpS_bind (u6 hA (by rw [Ac,lt,ld,BW,Cj LZ]) (by rw [Ac,lt]) λ HW Kf=>CF ⟨rfl,Y'.take l++[R[k-ok]]++Y'.drop l,?_,?_,?_,?_⟩)
   ·rw [Ac,Ac,lt,ld];show l+1+(k-l)=k+1;rw [Nat.add_right_comm,Cj LZ]
   ·have m1:∀y∈Y'.take l,Ih κ y R[k-ok]:=λ y hy=>by
     obtain⟨j,hj,rfl⟩:=Cw.mp hy;rw [lt] at hj;rw [Dh];exact LY j hj (Ap hj LZ)
    have m2:∀y∈Y'.drop l,Ih κ R[k-ok] y:=λ y hy=>by
     obtain⟨j,hj,rfl⟩:=Cw.mp hy;rw [ld] at hj;rw [EG];exact le_of_lt (ord κ) (Qo _ (BM _ _) (DG hj))
    rw [An,DU];refine⟨e2.sublist (DK _ _),?_,λ a ha b hb=>?_⟩
    ·rw [Cm,BX];exact⟨m2,e2.sublist (List.drop_sublist _ _)⟩
    ·rcases AR.mp hb with z|z
     ·have:b=R[k-ok]:=by simpa using z
      subst this;exact m1 a ha
     ·exact le_trans (ord κ) (m1 a ha) (m2 b z)
   ·have e5:R.take (k+1-ok)=R.take (k-ok)++[R[k-ok]]:=by
     rw [Nat.sub_add_comm U1,dE SY]
    rw [e5,<-An];refine Stb.trans ?_ (e3.app (Stb.refl [R[k-ok]]));have sw:Stb κ.blt (kf κ) (Y'.take l++([R[k-ok]]++Y'.drop l)) (Y'.take l++(Y'.drop l++[R[k-ok]])):=(Stb.refl _).app (gy (ord κ) λ y hy x hx=>by
     have:y=R[k-ok]:=by simpa using hy
     subst this;obtain⟨j,hj,rfl⟩:=Cw.mp hx;rw [ld] at hj;rw [EG];exact Qo _ (BM _ _) (DG hj)).symm
    rw [<-An,<-An,Bn] at sw;exact sw
   ·simpa [An] using Kf
def ia (κ:KeyKind)(a0:List Keyed)(n:Nat)(sq0:SortSt)(L:Nat):Prop:=(L=0/\At κ sq0 #[] a0)\/(L=n/\∃l,At κ sq0 #[(0,n,0)] l/\l.Pairwise (Ih κ)/\Stb κ.blt (kf κ) l a0)
def K' (hO:κ.OneLt)(hk:kindOf sq0=oneType')(hf:failedOf sq0=none)(hp:pendingOf sq0=#[])(Hc:∀p∈(arrOf sq0).toList,T9 κ p)(h2:2≤(arrOf sq0).size)(G6:(arrOf sq0).size<64)
  (h:∀Gv,failedOf Gv=none->(arrOf Gv).toList.Pairwise (Ih κ)->Stb κ.blt (kf κ) (arrOf Gv).toList (arrOf sq0).toList->Q () Gv):wpS 'l' A E s sortRuns' Q sq0:=by
 obtain⟨a0,VV⟩:∃a0,(arrOf sq0).toList=a0:=⟨_,rfl⟩;have hsz:(arrOf sq0).size=a0.length:=by rw [<-VV,Ch]
 refine wpS_bind (wpS_get ?_)
 extract_lets size Gi OS
 have SR:Gi=size:=by
  show minRun' (arrOf sq0).size (arrOf sq0).size 0=(arrOf sq0).size;obtain⟨f,hf⟩:∃f,(arrOf sq0).size=f+1:=⟨(arrOf sq0).size-1,by lia⟩;have:minRun' (f+1) (arrOf sq0).size 0=(arrOf sq0).size:=by rw [minRun'_succ,AK G6];rfl
  rw [<-hf] at this;exact this
 have U9:size=a0.length:=hsz;have Jl:2≤size:=h2
 clear_value Gi size
 subst SR;refine wpS_bind (wpS_mono (EO (I:=λ x c Gv=>∃L,c=(none,L)/\ia κ a0 Gi Gv L/\(0<x->L=Gi)) (Q:=λ c Gv=>c=(none,Gi)/\ia κ a0 Gi Gv Gi) ?_ ?_ ?_) ?_)
 rotate_left
 ·rintro c Gv ⟨L,rfl,hR,hx⟩;obtain rfl:=hx (by lia);exact⟨rfl,hR⟩
 ·exact⟨0,rfl,.inl ⟨rfl,hk,hf,hp,VV,λ p W7=>Hc p (by rw [VV];exact W7)⟩,λ z=>absurd z (BK 0)⟩
 ·rintro c LQ ⟨rfl,hR⟩;obtain⟨l,hA,hs,HY⟩:∃l,At κ LQ #[(0,Gi,0)] l/\l.Pairwise (Ih κ)/\Stb κ.blt (kf κ) l a0:=hR.elim (λ z=>absurd z.1 (by lia)) λ z=>z.2
  refine wpS_bind (wpS_mono (EO (I:=λ x c Gv=>c=(none,())/\Gv=LQ) ?_ (λ _ _ q=>q) ⟨rfl,rfl⟩) ?_)
  ·rintro x c HW _ hx ⟨rfl,rfl⟩;refine wpS_bind (wpS_get ?_)
   extract_lets p i before i2
   have h1:p.size≤1:=by
    show(pendingOf _).size≤1;rw [hA.p];exact Ak 1
   exact cD h1 (CF ⟨rfl,rfl⟩)
  ·rintro c HW ⟨rfl,rfl⟩;exact CF (h _ hA.f (by rw [hA.a];exact hs) (by rw [hA.a,VV];exact HY))
 rintro x c OM _ hx ⟨L,ec,hR,hxL⟩;subst ec
 extract_lets OS jp Qb nf
 have elo:OS=L:=rfl
 clear_value OS
 subst elo;by_cases OB:OS≥Gi
 ·have:OS=Gi:=hR.elim (λ z=>absurd z.1 (by lia)) λ z=>z.1
  subst this;exact cD OB (CF ⟨rfl,hR⟩)
 refine cE OB ?_;obtain⟨rfl,hA⟩:=hR.resolve_right λ z=>OB (A5 z.1.symm)
 refine wpS_bind (lm hO (P:=[]) (S:=[]) (by simpa using hA) rfl (show Gi-0=a0.length from U9) (by lia) λ m Y LQ m1 m2 lY sY tY XM=>?_);dsimp-zeta only
 extract_lets n0
 have Tc:∀Y HW,Y.Pairwise (Ih κ)->Stb κ.blt (kf κ) Y a0->At κ HW #[] Y->∀r,Gi=r->
   wpS 'l' A E s (jp () r) (λ r Gv=>match r with
    | .done c'=>c'=(none,Gi)/\ia κ a0 Gi Gv Gi
    | .yield c'=>∃L,c'=(none,L)/\ia κ a0 Gi Gv L/\(0<x+1->L=Gi)) HW:=by
  intro Y HW sY tY Kf r er;rw [<-er];refine wpS_bind (wpS_get ?_)
  extract_lets v1 jp2
  have hb:(pendingOf HW).back?=none:=by rw [Kf.p];rfl
  have:wpS 'l' A E s (jp2 ()) (λ r Gv=>match r with
    | .done c'=>c'=(none,Gi)/\ia κ a0 Gi Gv Gi
    | .yield c'=>∃L,c'=(none,L)/\ia κ a0 Gi Gv L/\(0<x+1->L=Gi)) HW:=by
   refine wpS_bind (wpS_modify (CF ⟨0+Gi,rfl,.inr ⟨DA _,Y,⟨Kf.k,Kf.f,?_,Kf.a,Kf.has⟩,sY,tY⟩,λ _=>DA _⟩));show(pendingOf HW).push _=_;rw [Kf.p];rfl
  simpa only [hb] using this
 clear_value jp
 have tm:∀{n},n=Gi->a0.take n=a0:=λ e=>A3 (by lia)
 by_cases F9:m<Gi
 ·refine cD F9 (wpS_bind (wpS_lift (Ea ⟨rfl,?_⟩)));have ef:min (Gi-0) Gi=Gi:=by lia
  refine wpS_bind (jA hO XM rfl sY lY m1 (show m≤min (Gi-0) Gi by lia) (show min (Gi-0) Gi≤m+(a0.drop m).length by rw [Au];lia) λ Y' HW lY' sY' tY' Kf=>?_);have e0:(a0.drop m).drop (min (Gi-0) Gi-m)=[]:=Dy (by rw [Au];lia);have e2:(a0.drop m).take (Qb-n0)=a0.drop m:=A3 (by rw [Au];show _≤min (Gi-0) Gi-m;lia);have e1:=tY'.trans (tY.app (Stb.refl _));rw [e2,Bn] at e1;have e3:(a0.drop m).drop (Qb-n0)=[]:=e0;rw [e3] at Kf;refine cE Z9 (wpS_mono (Tc Y' HW sY' e1 (by simpa using Kf) _ ef.symm) λ r Gv q=>by cases r<;>exact q)
 ·have em:m=Gi:=by lia
  rw [tm em] at tY;have e0:a0.drop m=[]:=Dy (by lia);rw [e0] at XM;exact cE F9 (wpS_mono (Tc Y LQ sY tY (by simpa using XM) m em.symm) λ r Gv q=>by cases r<;>exact q)
end SG
namespace SG
open PySem PyProof.Rows
abbrev ltI:Int->Int->Bool:=λ a b=>decide (a<b)
noncomputable abbrev ky {β:Type} (p:Int×β):Int:=p.1
def KI:SM.Ord ltI:=⟨λ a=>Bt (Int.lt_irrefl a),λ a b c h1 h2=>Ae (Int.lt_trans (Am h1) (Am h2)),λ a b c h=>by
  have:=Am h;by_cases c1:a<b
  ·exact .inl (Ae c1)
  ·exact .inr (Ae (Int.lt_of_le_of_lt (Int.not_lt.1 c1) this)),λ a b h1 h2=>by
  have:=CZ h1;have:=CZ h2;lia⟩
noncomputable def kInt:KeyKind where
 α:=Int
 blt:=λ a b=>decide (a<b)
 irrefl:=λ a=>Bt (Int.lt_irrefl a)
 trans:=λ a b c h1 h2=>Ae (Int.lt_trans (Am h1) (Am h2))
 negTrans:=λ a b c h=>by
  have:=Am h;by_cases c1:a<b
  ·exact .inl (Ae c1)
  ·exact .inr (Ae Z5)
 total:=λ a b h1 h2=>by
  have:=CZ h1;have:=CZ h2;lia
 keyOf:=λ v=>match v with
  | .int n _=>some n
  |_=>none
 dflt:=0
def Ox:kInt.OneLt:=by
 intro prog w A E s x y a b Q hx hy hq;cases x with
 |int n t=>
  cases y with
  |int m u=>
   cases hx;cases hy;exact oneLt_int hq
  |_=>cases hy
 |_=>cases hx
theorem Ou {α:Type}{R:α->α->Prop}:∀{l:List α},l.length<2->l.Pairwise R
 | [],_=>.nil
 | [x],_=>by simp
 |x::y::l,h=>by simp at h;lia
end SG
namespace L2
open PySem PyProof.Rows QQ
theorem mF:∀{l1} {x} {l2} {m},PR (l1++x::l2) m->∃m1 y m2,m=m1++y::m2/\PR l1 m1/\(∃t,x.1=.int y.1 t)/\RelV y.2 x.2/\PR l2 m2
 | [],x,l2,m,h=>by
  cases h with
  |cons a b c=>exact⟨[],_,_,rfl,.nil,a,b,c⟩
 |z::l1,x,l2,m,h=>by
  cases h with
  |cons a b c=>
   obtain⟨m1,y,m2,rfl,h1,h2,h3,h4⟩:=mF c;exact⟨_::m1,y,m2,rfl,.cons a b h1,h2,h3,h4⟩
def xK (g:PR l1 m1)(h:PR l2 m2):PR (l1++l2) (m1++m2):=by
 induction g with
 |nil=>exact h
 |cons a b _ ih=>exact .cons a b ih
def vw (h:PR l m){k:Int}(hn:∀z∈l,¬SM.eqv SG.kInt.blt (SG.kf SG.kInt) k z=true):∀z∈m,¬SM.eqv SG.ltI SG.ky k z=true:=by
 induction h with
 |nil=>intro z hz;cases hz
 |cons a b c ih=>
  intro z hz;rcases AB.mp hz with rfl|hz
  ·obtain⟨t,rfl⟩:=a;exact hn _ (AE ..)
  ·exact ih (λ u hu=>hn u (Az _ hu)) z hz
theorem vd:∀{l' l:List (FS×FS)} {m},SM.Stb SG.kInt.blt (SG.kf SG.kInt) l' l->PR l m->∃m',SM.Stb SG.ltI SG.ky m' m/\PR l' m'
 | [],l,m,hs,h=>by
  have e:=(SM.GX (SG.ord SG.kInt) hs).length_eq;cases h with
  |nil=>exact⟨[],SM.Stb.refl _,.nil⟩
  |cons a b c=>cases e
 |x::l',l,m,hs,h=>by
  have O:=SG.ord SG.kInt;have hx:=SM.Stb.mem O hs (AE);obtain⟨l1,y,l2,rfl,hy,h1⟩:=SM.Hi ⟨x,hx,SM.GY O x⟩;have e:=hs (SG.kf SG.kInt x);have n1:l1.filter (SM.eqv SG.kInt.blt (SG.kf SG.kInt) (SG.kf SG.kInt x))=[]:=BU.mpr h1;rw [AL (SM.GY O x),AQ,n1,Bj,AL hy] at e;obtain⟨rfl,e2⟩:=Eo e;have ht:SM.Stb SG.kInt.blt (SG.kf SG.kInt) l' (l1++l2):=λ k=>by
   by_cases hk:SM.eqv SG.kInt.blt (SG.kf SG.kInt) k x=true
   ·have z:=SM.Hh.mp hk;have:SG.kf SG.kInt x=k:=O.tot _ _ z.1 z.2;subst this;rw [AQ,n1,Bj];exact e2
   ·have e3:=hs k;rw [AS hk,AQ,AS hk] at e3;rw [AQ];exact e3
  obtain⟨m1,y,m2,rfl,p1,⟨t,hy1⟩,p2,p3⟩:=mF h;obtain⟨m',q1,q2⟩:=vd ht (xK p1 p3);have hkx:SG.kf SG.kInt x=y.1:=by
   obtain⟨x1,x2⟩:=x;have e9:x1=.int y.1 t:=hy1;subst e9;rfl
  have km:∀z∈m1,¬SM.eqv SG.ltI SG.ky y.1 z=true:=by
   rw [hkx] at h1;exact vw p1 h1
  refine⟨y::m',λ k=>?_,?_⟩
  ·by_cases hk:SM.eqv SG.ltI SG.ky k y=true
   ·have z:=SM.Hh.mp hk;have:y.1=k:=SG.KI.tot _ _ z.1 z.2;subst this;have n2:m1.filter (SM.eqv SG.ltI SG.ky y.1)=[]:=BU.mpr km;have q:=q1 y.1;rw [AQ,n2,Bj] at q;rw [AL hk,AQ,n2,Bj,AL hk,q]
   ·have q:=q1 k;rw [AQ] at q;rw [AS hk,AQ,AS hk,q]
  ·obtain⟨x1,x2⟩:=x;obtain⟨y1,y2⟩:=y;exact .cons ⟨t,hy1⟩ p2 q2
def rW {σ:St}
  (I:'b' s) (ho:s.heap.get? a=some (seqObj "list" Gd.toArray n)) (fa:G0 X F6 H a) (hl:Gd.length=ks.length) (G6:Gd.length<64)
  (N3:∀(G2:List (FR×F1)) (s':FT) (E':FS->FT->Prop) (i:Nat) (x:FS) (k:Int),Gd[i]?=some x->ks[i]?=some k->Inv X G2 σ H s'->wpAny 'd' A (call (.ref f) [x]) (λ r IH=>(∃t,r=.int k t)/\Inv X G2 σ H IH) E' s')
  (h:∀(s':FT) (out:Array Keyed) (kv:List FS),'b' s'->(∃e,s'.heap.get? a=some (seqObj "list" (out.map (·.2)) e))->IntsAre kv ks->out.toList.Pairwise (SG.Ih SG.kInt)->SM.Stb SG.kInt.blt (SG.kf SG.kInt) out.toList (kv.zip Gd)->P (.done (.ret .none)) s'):
  wpAny 'd' A (Builtin.«list.sort» ⟨[.ref a],[(Str.ofString "key",.ref f)]⟩) P E s:=by
 rw [jH];have ha:a<s.heap.objs.size:=AA ho;refine Ab (listItems_at ho rfl ?_);refine Ab (Ep ho rfl ?_);obtain⟨e1,ho1⟩:∃e1,(s.heap.update a (Obj.mapSeq λ _=>#[])).get? a=some (seqObj "list" #[] e1):=⟨_,get?_update_seq ho (λ _=>#[])⟩;have I1:'b' {s with heap:=s.heap.update a (Obj.mapSeq λ _=>#[])}:=I.turn fa;have Rh:(s.heap.update a (Obj.mapSeq λ _=>#[])).objs.size=s.heap.objs.size:=Heap.size_update ..;generalize s.heap.update a (Obj.mapSeq λ _=>#[])=h1 at*;refine Ab (seqEpoch_at ho1 rfl ?_);refine Ab (wpAny_newTuple ?_);refine Ab (wpAny_newList ?_);refine BI ?_;have ho3:((h1.push (seqObj "tuple" Gd.toArray 0)).push (seqObj "list" #[] 0)).get? a=some (seqObj "list" #[] e1):=Aj _ (Aj _ ho1);have I3:'b' {s with heap:=(h1.push (seqObj "tuple" Gd.toArray 0)).push (seqObj "list" #[] 0)}:=I1.kept λ b o e=>Aj _ (Aj _ e)
 have hc3:((h1.push (seqObj "tuple" Gd.toArray 0)).push (seqObj "list" #[] 0)).get? (h1.push (seqObj "tuple" Gd.toArray 0)).objs.size=some (seqObj "list" ([]:List FS).toArray 0):=AN _ rfl;have OC:s.heap.objs.size≤(h1.push (seqObj "tuple" Gd.toArray 0)).objs.size:=by rw [size_push',Rh];lia
 have fc:G0 X F6 H (h1.push (seqObj "tuple" Gd.toArray 0)).objs.size:=I.fpOk OC (I.hok.fresh OC);have ZN:a≠(h1.push (seqObj "tuple" Gd.toArray 0)).objs.size:=A7 (Ap ha OC);show wpAny 'd' A _ P E {s with heap:=(h1.push (seqObj "tuple" Gd.toArray 0)).push (seqObj "list" #[] 0)};generalize (h1.push (seqObj "tuple" Gd.toArray 0)).objs.size=c at*;generalize (h1.push (seqObj "tuple" Gd.toArray 0)).push (seqObj "list" #[] 0)=h3 at*;dsimp only;refine Ab (Ea ?_);refine Ab (wpAny_forIn_array' _ (λ rest _ s'=>∃(i:Nat) (kv:List FS),rest=Gd.drop i/\i≤Gd.length/\IntsAre kv (ks.take i)/\'b' s'/\s'.heap.get? a=some (seqObj "list" #[] e1)/\∃e2,s'.heap.get? c=some (seqObj "list" kv.toArray e2)) _ ?_ ?_ _ _ ⟨0,[],rfl,A1 _,.nil,I3,ho3,0,hc3⟩)
 ·rintro x rest _ s' ⟨i,kv,hr,hi,MO,I',VJ,e2,HH⟩;have hx:Gd[i]?=some x:=by
   have:(Gd.drop i)[0]?=some x:=by rw [<-hr];rfl
   rw [Dz] at this;simpa using this
  have HI:i<Gd.length:=(Af.mp hx).1;have hk:ks[i]?=some ks[i]:=Ad Z4;have hrest:rest=Gd.drop (i+1):=by
   rw [Cc HI] at hr;exact(Eo hr).2
  have Ip:=I'.pinned (λ b hb=>by
   rcases AB.mp hb with rfl|hb
   ·exact fa
   ·rw [As.mp hb];exact fc) (λ b hb=>by
   rcases AB.mp hb with rfl|hb
   ·exact⟨_,VJ,fY⟩
   ·rw [As.mp hb];exact⟨_,HH,fY⟩)
  refine Ab (CO (Br (N3 _ s' _ i x ks[i] hx hk Ip) (λ r IH z9=>?_) λ _ _ e=>e));obtain⟨⟨t,hrv⟩,T8⟩:=z9;subst hrv;have YL:IH.heap.get? a=some (seqObj "list" #[] e1):=(T8.pin _ (AD _ (AD _ (bS Z6 VJ)))).1;have UE:IH.heap.get? c=some (seqObj "list" kv.toArray e2):=(T8.pin _ (AD _ (AD _ (bS Z6 HH)))).1;have I2:=T8.unpinned;have LZ:kv.length=i:=by rw [MO.length,Aq];lia
  dsimp only;refine Ab (Ep UE rfl (AG ?_));refine⟨i+1,kv++[.int ks[i] t],hrest,HI,?_,I2.turn fc,?_,?_⟩
  ·rw [Bl,hk];exact qF MO
  ·show(IH.heap.update c _).get? a=_;rw [Do _ _ _ _ ZN];exact YL
  ·have e:=get?_update_seq UE (λ x=>x.push (Value.int ks[i] t));rw [List.push_toArray] at e;exact⟨_,e⟩
 ·rintro _ s' ⟨i,kv,hr,hi,MO,I',VJ,e2,HH⟩;have hie:i=Gd.length:=by
   have:=Bx List.length hr;rw [Au] at this;simp at this;lia
  rw [hie,hl,AT] at MO;have LZ:kv.length=Gd.length:=by rw [MO.length,hl]
  have hz:(kv.toArray.zip Gd.toArray).size=Gd.length:=by rw [Array.size_zip];simp;exact CJ (A5 LZ.symm)
  have I4:'b' {s' with heap:=s'.heap.update c (Obj.mapSeq λ _=>#[])}:=I'.turn fc;have NU:(s'.heap.update c (Obj.mapSeq λ _=>#[])).get? a=some (seqObj "list" #[] e1):=by rw [Do _ _ _ _ ZN];exact VJ
  have fin:∀out:Array Keyed,out.toList.Pairwise (SG.Ih SG.kInt)->SM.Stb SG.kInt.blt (SG.kf SG.kInt) out.toList (kv.zip Gd)->P (.done (.ret .none)) {s' with heap:=(s'.heap.update c (Obj.mapSeq λ _=>#[])).update a (Obj.mapSeq λ _=>out.map (·.2))}:=by
   intro out hp hs;have e5:=get?_update_seq NU (λ _=>out.map (·.2));generalize s'.heap.update c (Obj.mapSeq λ _=>#[])=h4 at*;have I5:'b' {s' with heap:=h4.update a (Obj.mapSeq λ _=>out.map (·.2))}:=Inv.turn I4 fa;generalize h4.update a (Obj.mapSeq λ _=>out.map (·.2))=h5 at*;exact h _ out kv I5 ⟨_,e5⟩ MO hp hs
  refine Ab (listItems_at HH rfl ?_);by_cases h2:Gd.toArray.size<2
  ·rw [AK h2,AK h2];refine Ab (AG ?_);rw [StateT.run_pure];refine Ab (AG ?_);dsimp only;refine Ab (Ep HH rfl ?_);refine Ab (wpAny_letGo ?_);refine Ab (seqEpoch_at NU rfl ?_);refine Ab (Ep NU rfl ?_ (hsz2:=by rw [Array.size_map];show(kv.toArray.zip Gd.toArray).size≤_;rw [hz,D4];lia));simp only [bne_self_eq_false,CH,if_false];refine AG (fin _ (SG.Ou ?_) ?_)
   ·rw [Ch];show(kv.toArray.zip Gd.toArray).size<2;rw [AC] at h2;exact lt_of_eq_of_lt hz h2
   ·have:(kv.toArray.zip Gd.toArray).toList=kv.zip Gd:=Z6;show SM.Stb _ _ (kv.toArray.zip Gd.toArray).toList _;rw [this];exact SM.Stb.refl _
  ·rw [AH h2,AH h2];rw [AC] at h2;have hkk:keyKind' kv.toArray=pure oneType':=by
    match kv,MO,LZ with
    | [],_,LZ=>simp at LZ;lia
    | [_],_,LZ=>simp at LZ;lia
    |v₁::v₂::vs,MO,_=>exact keyKind_ints MO
   rw [hkk];refine Ab (AG ?_);have hzl:(kv.toArray.zip Gd.toArray).toList=kv.zip Gd:=Z6;have Tf:∀p∈(arrOf (SortSt.mk' oneType' (kv.toArray.zip Gd.toArray) #[] 7 none)).toList,SG.T9 SG.kInt p:=by
    intro p hp;have W7:p∈kv.zip Gd:=by rw [<-hzl];exact hp
    obtain⟨n,t,e⟩:=MO.all _ (En W7).1;exact⟨n,by rw [e];rfl⟩
   refine Ab (Br (SG.K' SG.Ox
    (Q:=λ _ Gv=>(arrOf Gv).toList.Pairwise (SG.Ih SG.kInt)/\failedOf Gv=none/\SM.Stb SG.kInt.blt (SG.kf SG.kInt) (arrOf Gv).toList (kv.zip Gd))
    rfl rfl rfl Tf (by show 2≤(kv.toArray.zip Gd.toArray).size;rw [hz];lia) (by show(kv.toArray.zip Gd.toArray).size<64;rw [hz];exact G6) λ Gv a1 a2 a3=>⟨a2,a1,by rw [<-hzl];exact a3⟩) ?_ λ _ _ e=>e)
   rintro⟨⟨⟩,Gv⟩ IH ⟨rfl,hp,hf,hs⟩;have YE:(arrOf Gv).size=Gd.length:=by rw [<-Ch,(SM.GX (SG.ord SG.kInt) hs).length_eq,E8,LZ,Nat.min_self]
   dsimp only;refine Ab (Ep HH rfl ?_ (hsz:=by rw [AC,LZ,D4];lia));refine Ab (wpAny_letGo ?_);refine Ab (seqEpoch_at NU rfl ?_);refine Ab (Ep NU rfl ?_ (hsz2:=by rw [Array.size_map,YE,D4];omega));rw [hf];simp only [bne_self_eq_false,CH,if_false];exact AG (fin _ hp hs)
def mJ {σ:St}
  (I:'b' s) (hp:s.heap.IsList p Gd.toArray) (hl:Gd.length=ks.length) (G6:Gd.length<64)
  (N3:∀(G2:List (FR×F1)) (s':FT) (E':FS->FT->Prop) (i:Nat) (x:FS) (k:Int),Gd[i]?=some x->ks[i]?=some k->Inv X G2 σ H s'->wpAny 'd' X.A.in1.in1 (call (.ref f) [x]) (λ r IH=>(∃t,r=.int k t)/\Inv X G2 σ H IH) E' s')
  (h:∀(s':FT) (l:FR) (out:Array Keyed) (kv:List FS),'b' s'->G0 X F6 H l->(∃e,s'.heap.get? l=some (seqObj "list" (out.map (·.2)) e))->IntsAre kv ks->out.toList.Pairwise (SG.Ih SG.kInt)->SM.Stb SG.kInt.blt (SG.kf SG.kInt) out.toList (kv.zip Gd)->Q (.ref l) s'):
  wpAny 'd' X.A (call (.builtin "sorted") [.ref p] [(Str.ofString "key",.ref f)]) Q E s:=by
 refine call_function_entry_kw kind_sorted plain_sorted entry_sorted (iu _ _) ?_;unfold Builtin.«sorted»;refine Ab (AG ?_);refine Ab (collect_list hp ?_);refine Ab (wpAny_newList ?_);have hsz:((s.heap.push (seqObj "list" #[] 0)).update s.heap.objs.size (Obj.mapSeq (·++Gd.toArray))).objs.size=s.heap.objs.size+1:=by
  rw [Heap.size_update,size_push']
 have SN:(((s.heap.push (seqObj "list" #[] 0)).update s.heap.objs.size (Obj.mapSeq (·++Gd.toArray))).push (seqObj "list" Gd.toArray 0)).get? (s.heap.objs.size+1)=some (seqObj "list" Gd.toArray 0):=by
  rw [<-hsz];exact AN _ rfl
 have I2:'b' {s with heap:=((s.heap.push (seqObj "list" #[] 0)).update s.heap.objs.size (Obj.mapSeq (·++Gd.toArray))).push (seqObj "list" Gd.toArray 0)}:=I.kept λ b o e=>
  Aj _ (by rw [Do _ _ _ _ (A7 (AA e))];exact Aj _ e)
 show wpAny _ _ _ _ _ {s with heap:=((s.heap.push (seqObj "list" #[] 0)).update s.heap.objs.size (Obj.mapSeq (·++Gd.toArray))).push (seqObj "list" Gd.toArray 0)};rw [hsz];have fl:G0 X F6 H (s.heap.objs.size+1):=I.fpOk (DD _) (I.hok.fresh (DD _));refine Ab (BI (wpAny_call_entry_kw slot_list_sort ⟨_,SN,rfl⟩ entry_list_sort (rW I2 SN fl hl G6 N3 λ s' out kv a1 a2 a3 a4 a5=>⟨_,rfl,?_⟩) (fK _ _)));exact AG ⟨_,rfl,h s' _ out kv a1 fl a2 a3 a4 a5⟩
inductive JZ (K:Frag) (sp:Sp) (Q:VK) (zs:List V) (H1:Hp):Prop
 |mk (p:FR) (xs:List V) (ks:List Int) (h0:zs=[.ref p]) (h1:Gf K H1 p xs) (h2:xs.length=ks.length) (h3:xs.length<64) (h4:(∀(i:Nat) v k,xs[i]?=some v->ks[i]?=some k->sp [v] H1 (λ r H2=>r=.int k/\H2=H1) E0)) (h5:∀l m,H1 l=none->(m.map (·.1)).Pairwise (·≤·)->SM.Stb SG.ltI SG.ky m (ks.zip xs)->Q (.ref l) (upd H1 l (.lst (m.map (·.2))))):JZ K sp Q zs H1
def wu (K:Frag)(sp:Sp)(t:TA):TE:=λ σ H Q=>t σ H λ zs H1=>JZ K sp Q zs H1
def jX {fe:FZ}{p:Pos}{kp:Pos}(F:Gb X.prog X.w X.K X.mg X.base Gn k f fd [y] sp)(hr:Ge (k+2) X.A)(hb:Binds X.K fd [y] [])(hg:Gl X "sorted")(hm:X.mg "sorted"=none)(hf:PE X fe (tC (.ref f)))(ha:PA X [e] t)
  (he:autoParam (backTo pos (starEach (e:: []) X.env)=(false,eval e X.env)::backTo pos (starEach [] X.env)) Z0) (Ik:autoParam ((backTo pos (starEach (e:: []) X.env)).any (·.1)=false) Z0)
  (Hc:autoParam ((backToKw pos (keywordEach [⟨some "key",fe,kp⟩] X.env)).all (·.1.isSome)=true) Z0)
  (SX:autoParam ((backToKw pos (keywordEach [⟨some "key",fe,kp⟩] X.env)).any (·.1.isNone)=false) Z0)
  (Xn:autoParam ((backToKw pos (keywordEach [⟨some "key",fe,kp⟩] X.env)).filterMap (·.1)=[("key":Str)]) Z0):
  PE X (.Call (.Name "sorted" p) [e] [⟨some "key",fe,kp⟩] pos) (wu X.K sp t):=by
 intro F6 s σ H Q I h;refine BN (eF I hg hm (show bootBuiltins "sorted"=some (.builtin "sorted") from Z8) ?_);refine PyProof.Rows.callWith_kw (thn (ha pos F6 s σ H _ I h) λ us s1 z9=>?_) he Ik Hc SX;obtain⟨vs,H1,I1,r1,q1⟩:=z9;refine kws_cons (thn (hf F6 s1 σ H1 (λ v H2=>v=.ref f/\H2=H1) I1 ⟨rfl,rfl⟩) λ fv s2 ⟨v,H2,I2,r2,e1,e2⟩=>kws_nil ?_);subst e1 e2;obtain rfl:fv=Value.ref f:=r2;rw [Xn];obtain⟨p,xs,ks,rfl,hq,hlen,G6,JN,q⟩:=q1;obtain⟨u,rfl,ru⟩:=fg r1;obtain rfl:u=Value.ref p:=ru;obtain⟨Gd,rv,pl,hz⟩:=I2.list hq;have HI:=rv.length;show wpAny _ _ (call (.builtin "sorted") [.ref p] [(Str.ofString "key",.ref f)]) _ _ s2;refine mJ (ks:=ks) I2 pl.isList Z5 (lt_of_eq_of_lt HI.symm G6) (λ G2 s' E' i x k' hx hk I'=>?_) λ s' l out kv I' fl ⟨en,ho⟩ MO hp hs=>?_
 ·obtain⟨v,hv,rvv⟩:∃v,xs[i]?=some v/\RelV v x:=by
   have hix:i<xs.length:=by have:=(Af.mp hx).1;exact Av this HI.symm
   obtain⟨u,e3,r3⟩:=rv.get (Ad hix);rw [hx] at e3;cases e3;exact⟨_,Ad hix,r3⟩
  refine Ec (Dj (F.run X.A.in1.in1 X.stack s' H2 ⟨[x],[]⟩ [x] [v] _ E0 hr.in1.in1 I'.env0.in1.in1 (hb s' [x] I'.kIn rfl) (.cons rvv .nil) (JN i v k' hv hk)) λ r IH hq=>?_);cases r with
  |error e=>exact False.elim hq
  |ok fl=>
   cases fl with
   |ret u=>
    obtain⟨v',H',T8,rr,e1,e2⟩:=I'.after hq;subst e1 e2;exact⟨rr,T8⟩
   |next=>exact False.elim hq
   |brk=>exact False.elim hq
   |cont=>exact False.elim hq
 ·obtain⟨m,HY,W4⟩:=vd hs (yu MO rv);have U7:=wD W4;have Rn:=yt W4;have Rl:out.toList.length=Gd.length:=by rw [(SM.GX (SG.ord SG.kInt) hs).length_eq,E8,MO.length];lia
  refine⟨.ref l,_,I'.adopt fl U7 (by rw [Aa];rw [D4];lia) (by rw [ho,<-Array.toList_map]),rfl,q l m fl.1 ?_ HY⟩;rw [Cf];intro i j hi hj VP;rw [Aa] at hi hj;have key:∀i (h:i<m.length) (h2:i<out.toList.length),SG.kf SG.kInt (out.toList[i]'h2)=m[i].1:=by
   intro i hi hi2;obtain⟨t,v,e⟩:=zp W4 (Ad hi);have e':out.toList[i]=(.int m[i].1 t,v):=AJ ((Ad hi2).symm.trans e);rw [e'];rfl
  have l1:=(Cf.mp hp) i j Z5 Z5 VP;rw [List.getElem_map,List.getElem_map];have l2:SG.kInt.blt (SG.kf SG.kInt (out.toList[j]' Z4)) (SG.kf SG.kInt (out.toList[i]' Z4))=false:=l1;rw [key i hi,key j hj] at l2;have l3:¬m[j].1<m[i].1:=λ z=>by
   have:SG.kInt.blt m[j].1 m[i].1=true:=Ae z;rw [this] at l2;cases l2
  exact Int.not_lt.mp l3
end L2
namespace PM
abbrev Bd:=Nat×List Nat
noncomputable def pairs:List Bd->List Bd
 |a::b::r=>(a.1+b.1,a.2++b.2)::pairs r
 |_=>[]
def occ (R:List Bd)(p:Nat):Nat:=(R.map λ b=>b.2.count p).sum
def GV (B:List Bd):Prop:=B.Pairwise λ a b=>a.1≤b.1
def gl {a b:'c'}(h:a.Perm b):a.sum=b.sum:=by
 induction h with
 |nil=>rfl
 |cons x _ ih=>simp [ih]
 |swap x y l=>simp;exact Nat.add_left_comm _ _ _
 |trans _ _ h1 h2=>exact h1.trans h2
def mY {R S:List Bd}(h:R.Perm S)(p:Nat):occ R p=occ S p:=gl (h.map _)
def jv (R S:List Bd)(p:Nat):occ (R++S) p=occ R p+occ S p:=by simp [occ]
def d9 (b:Bd)(S:List Bd)(p:Nat):occ (b::S) p=b.2.count p+occ S p:=by simp [occ]
def zQ {R U X Y:List Bd}(h:(R++U).Perm (X++Y)):∃RX RY UX UY,R.Perm (RX++RY)/\U.Perm (UX++UY)/\X.Perm (RX++UX)/\Y.Perm (RY++UY):=by
 induction R generalizing X Y with
 |nil=>exact⟨[],[],X,Y,.nil,h,.refl _,.refl _⟩
 |cons r R ih=>
  have hr:r∈X++Y:=h.subset AE;rcases AR.mp hr with hX|hY
  ·have e:=DT hX;have h2:(R++U).Perm (X.erase r++Y):=(h.trans (e.append_right Y)).cons_inv;obtain⟨RX,RY,UX,UY,h3,h4,h5,h6⟩:=ih h2;exact⟨r::RX,RY,UX,UY,h3.cons r,h4,e.trans (h5.cons r),h6⟩
  ·have e:=DT hY;have h2:(R++U).Perm (X++Y.erase r):=(h.trans ((e.append_left X).trans Du)).cons_inv;obtain⟨RX,RY,UX,UY,h3,h4,h5,h6⟩:=ih h2;exact⟨RX,r::RY,UX,UY,(h3.cons r).trans Du.symm,h4,h5,e.trans (h6.cons r)⟩
def rz:∀(n:Nat) {B RP UP:List Bd},B.length≤n->GV B->(RP++UP).Perm (pairs B)->(∀r∈RP,∀u∈UP,r.1≤u.1)->
  ∃R U,(R++U).Perm B/\(∀r∈R,∀u∈U,r.1≤u.1)/\R.length=2*RP.length/\(∀p,occ R p=occ RP p)/\∀r∈R,∃q∈RP,∃x∈B,q.1=r.1+x.1:=by
 intro n
 induction n with
 |zero=>
  intro B RP UP hB _ h _;have e:B=[]:=Cs.mp (Nat.eq_zero_of_le_zero hB);subst e;have:RP=[]/\UP=[]:=by
   have:=FD.mp h;simpa using this
  obtain⟨rfl,rfl⟩:=this;exact⟨[],[],.nil,λ _ h=>(by simp at h),rfl,λ _=>rfl,λ _ h=>(by simp at h)⟩
 |succ n ih=>
  intro B RP UP hB hs h hle
  match B,hB,hs,h with
  | [],_,_,h=>
   have:RP=[]/\UP=[]:=by
    have:=FD.mp h;simpa using this
   obtain⟨rfl,rfl⟩:=this;exact⟨[],[],.nil,λ _ h=>(by simp at h),rfl,λ _=>rfl,λ _ h=>(by simp at h)⟩
  | [x],_,_,h=>
   have:RP=[]/\UP=[]:=by
    have:=FD.mp h;simpa using this
   obtain⟨rfl,rfl⟩:=this;exact⟨[],[x],.refl _,λ _ h=>(by simp at h),rfl,λ _=>rfl,λ _ h=>(by simp at h)⟩
  |a::b::r,hB,hs,h=>
   have LX:GV r:=(BX.mp (BX.mp hs).2).2;have ha:=(BX.mp hs).1;have hb:=(BX.mp (BX.mp hs).2).1;have Rt:a.1≤b.1:=ha b AE;have hm:(a.1+b.1,a.2++b.2)∈RP++UP:=h.symm.subset AE;rcases AR.mp hm with hR|hU
   ·have e:=DT hR;have h2:(RP.erase (a.1+b.1,a.2++b.2)++UP).Perm (pairs r):=((e.append_right UP).symm.trans h).cons_inv;obtain⟨R,U,h3,h4,h5,h6,h7⟩:=ih (by simp at hB;exact Cz hB) LX h2 λ x hx u hu=>hle x (EN hx) u hu
    have hl:=e.length_eq;rw [Ar] at hl;refine⟨a::b::R,U,(h3.cons b).cons a,?_,?_,λ p=>?_,?_⟩
    ·intro x hx u hu;have hur:u∈r:=h3.subset (AD _ hu);rcases AB.mp hx with rfl|hx
     ·exact ha u (Az _ hur)
     ·rcases AB.mp hx with rfl|hx
      ·exact hb u hur
      ·exact h4 x hx u hu
    ·rw [Ar,Ar,h5];lia
    ·rw [mY e p,d9,d9,d9,h6 p];show _=(a.2++b.2).count p+_;rw [CP];lia
    ·intro x hx;rcases AB.mp hx with rfl|hx
     ·exact⟨_,hR,b,Z6,rfl⟩
     ·rcases AB.mp hx with rfl|hx
      ·exact⟨_,hR,a,Z6,EL _ _⟩
      ·obtain⟨q,hq,y,hy,e⟩:=h7 x hx;exact⟨q,EN hq,y,Az _ (Az _ hy),e⟩
   ·have e:=DT hU;have h2:(RP++UP.erase (a.1+b.1,a.2++b.2)).Perm (pairs r):=(Du.symm.trans ((e.append_left RP).symm.trans h)).cons_inv;obtain⟨R,U,h3,h4,h5,h6,h7⟩:=ih (by simp at hB;lia) LX h2 λ x hx u hu=>hle x hx u (EN hu)
    have key:∀x∈R,x.1≤a.1/\x.1≤b.1:=by
     intro x hx;obtain⟨q,hq,y,hy,e⟩:=h7 x hx;have h8:q.1≤a.1+b.1:=hle q hq _ hU;have h9:=hb y hy;lia
    refine⟨R,a::b::U,?_,?_,h5,h6,λ x hx=>?_⟩
    ·exact Du.trans ((Du.trans (h3.cons b)).cons a)
    ·intro x hx u hu;rcases AB.mp hu with rfl|hu
     ·exact(key x hx).1
     ·rcases AB.mp hu with rfl|hu
      ·exact(key x hx).2
      ·exact h4 x hx u hu
    ·obtain⟨q,hq,y,hy,e⟩:=h7 x hx;exact⟨q,hq,y,Az _ (Az _ hy),e⟩
inductive NO (sg:List Bd):Nat->List Bd->Prop
 |zero:NO sg 0 []
 |step {k:Nat} {B B':List Bd}:NO sg k B->B'.Perm (sg++pairs B)->GV B'->NO sg (k+1) B'
noncomputable def sgl (wt:Nat->Nat) (p:Nat):Bd:=(wt p,[p])
def lV {wt:Nat->Nat}{L:'c'}{RX UX:List Bd}(h:(L.map (sgl wt)).Perm (RX++UX)):∃RL UL,L.Perm (RL++UL)/\RX=RL.map (sgl wt)/\UX=UL.map (sgl wt):=by
 have g:∀b∈RX++UX,sgl wt (b.2.headD 0)=b:=by
  intro b hb;obtain⟨p,_,rfl⟩:=BH.mp (h.symm.subset hb);rfl
 refine⟨RX.map (·.2.headD 0),UX.map (·.2.headD 0),?_,?_,?_⟩
 ·have:=h.map (·.2.headD 0);rw [BO,Aw] at this;have e:((λ b:Bd=>b.2.headD 0)∘sgl wt)=id:=by funext p;rfl
  rw [e,List.map_id] at this;exact this
 ·rw [BO]
  conv=>lhs;rw [<-List.map_id RX]
  exact D5 λ b hb=>(g b (Bm _ hb)).symm
 ·rw [BO]
  conv=>lhs;rw [<-List.map_id UX]
  exact D5 λ b hb=>(g b (AD _ hb)).symm
theorem pi {wt:Nat->Nat}:∀{M:List Nat} {p:Nat},occ (M.map (sgl wt)) p=M.count p
 | [],p=>rfl
 |q::M,p=>by
  rw [Bz,d9,pi];show [q].count p+_=_;rw [DC,DC];simp;exact EL _ _
theorem kz {p:Nat}:∀{M:List Nat},M.Nodup->p∈M->M.count p=1
 | [],_,h=>by simp at h
 |a::M,hn,h=>by
  have VM:=Es.mp hn;rw [DC];by_cases e:a=p
  ·subst e;rw [CK VM.1];simp
  ·have hm:p∈M:=by
    rcases AB.mp h with h|h
    ·exact absurd h.symm e
    ·exact h
   rw [kz VM.2 hm];simp [e]
def kr (R:List Bd)(k:Nat)(S:'c'):Nat:=(S.map λ p=>2^(k-occ R p)).sum
def rq {S:'c'}{f:Nat->Nat}{c:Nat}(h:∀p∈S,f p=c):(S.map f).sum=c*S.length:=by
 induction S with
 |nil=>rfl
 |cons a S ih=>
  rw [Bz,DL,h a AE,ih λ p hp=>h p (Az _ hp),Ar,Nat.mul_succ];exact EL _ _
def re {S:'c'}{f g:Nat->Nat}(h:∀p∈S,f p=g p):(S.map f).sum=(S.map g).sum:=by rw [D5 h]
def uG {wt:Nat->Nat}{L:'c'}(hL:L.Nodup)(hw:∀p∈L,0<wt p){k:Nat}{B:List Bd}(lv:NO (L.map (sgl wt)) k B):GV B/\(∀b∈B,0<b.1)/\
  ∀R U,(R++U).Perm B->(∀r∈R,∀u∈U,r.1≤u.1)->∃S T,L.Perm (S++T)/\(∀p∈S,1≤occ R p/\occ R p≤k/\sgl wt p∈R)/\(∀p,p∉S->occ R p=0)/\2*kr R k S+2^k*R.length=2^(k+1)*S.length:=by
 induction lv with
 |zero=>
  refine⟨.nil,λ _ h=>(by simp at h),λ R U h _=>?_⟩;have:R=[]/\U=[]:=by
   have:=FD.mp h;simpa using this
  obtain⟨rfl,rfl⟩:=this;exact⟨[],L,.refl _,λ _ h=>(by simp at h),λ _ _=>rfl,rfl⟩
 | @step k B B' _ hp hs ih=>
  obtain⟨hsB,Ij,ih⟩:=ih;have pos_pairs:∀(n:Nat) (B:List Bd),B.length≤n->(∀b∈B,0<b.1)->∀b∈pairs B,0<b.1:=by
   intro n
   induction n with
   |zero=>intro B hB _ b hb;have:B=[]:=Cs.mp Z5;subst this;simp [pairs] at hb
   |succ n ih2=>
    intro B hB h b hb
    match B,hB,h,hb with
    | [],_,_,hb=>simp [pairs] at hb
    | [x],_,_,hb=>simp [pairs] at hb
    |x::y::r,hB,h,hb=>
     rcases AB.mp hb with rfl|hb
     ·have:=h x AE;show 0<x.1+y.1;exact Nat.add_pos_left this _
     ·exact ih2 r (by simp at hB;lia) (λ b hb=>h b (Az _ (Az _ hb))) b hb
  refine⟨hs,λ b hb=>?_,λ R U h hle=>?_⟩
  ·rcases AR.mp (hp.subset hb) with hb|hb
   ·obtain⟨p,SJ,rfl⟩:=BH.mp hb;exact hw p SJ
   ·exact pos_pairs _ B (Ak _) Ij b hb
  ·obtain⟨RX,RP,UX,UP,h1,h2,h3,h4⟩:=zQ (h.trans hp);obtain⟨RL,UL,h5,rfl,rfl⟩:=lV h3;have mR:∀b,b∈RL.map (sgl wt)\/b∈RP->b∈R:=λ b hb=>h1.symm.subset (AR.mpr hb)
   have mU:∀b,b∈UL.map (sgl wt)\/b∈UP->b∈U:=λ b hb=>h2.symm.subset (AR.mpr hb)
   obtain⟨R',U',h6,h7,h8,h9,PN⟩:=rz _ (Ak _) hsB h4.symm λ r hr u hu=>hle r (mR r (.inr hr)) u (mU u (.inr hu))
   obtain⟨S,T,OH,QB,XS,h14⟩:=ih R' U' h6 h7;have Ph:∀p,occ R p=RL.count p+occ R' p:=λ p=>by rw [mY h1 p,jv,pi,h9 p]
   have UG:RL.Nodup:=(List.nodup_append.mp (h5.nodup_iff.mp hL)).1;have YQ:S.Nodup:=(List.nodup_append.mp (OH.nodup_iff.mp hL)).1;have Uy:∀p∈S,p∈RL:=by
    intro p SI;have SJ:p∈RL++UL:=h5.subset (OH.symm.subset (Bm _ SI));rcases AR.mp SJ with hh|hh
    ·exact hh
    ·obtain⟨q,hq,x,hx,e⟩:=PN _ (QB p SI).2.2;have:=hle q (mR q (.inr hq)) _ (mU _ (.inl (E9 hh)));have hx0:=Ij x hx;have e':q.1=wt p+x.1:=e;have:q.1≤wt p:=this;lia
   have QU:∀p∈RL,RL.count p=1:=λ p hp=>kz UG hp
   refine⟨RL,UL,h5,λ p Rk=>⟨?_,?_,mR _ (.inl (E9 Rk))⟩,λ p Rk=>?_,?_⟩
   ·rw [Ph,QU p Rk];exact BM 1 _
   ·rw [Ph,QU p Rk];by_cases SI:p∈S
    ·have:=(QB p SI).2.1;lia
    ·rw [XS p SI];lia
   ·rw [Ph,CK Rk,XS p λ z=>Rk (Uy p z)]
   ·
    have Uz:RL.Perm (S++RL.filter (λ p=> !decide (p∈S))):=by
     have e1:RL.Perm (RL.filter (λ p=>decide (p∈S))++RL.filter (λ p=> !decide (p∈S))):=(List.filter_append_perm _ _).symm;refine e1.trans (List.Perm.append_right _ ?_);rw [List.perm_ext_iff_of_nodup (UG.filter _) YQ];intro p;simp only [Cb,decide_eq_true_eq];exact⟨λ h=>h.2,λ h=>⟨Uy p h,h⟩⟩
    have SY:kr R (k+1) RL=kr R' k S+2^k*(RL.filter (λ p=> !decide (p∈S))).length:=by
     unfold kr;have e2:(RL.map λ p=>2^(k+1-occ R p)).sum=(RL.map λ p=>2^(k-occ R' p)).sum:=by
      refine re λ p hp=>?_
      rw [Ph,QU p hp,show k+1-(1+occ R' p)=k-occ R' p by lia]
     rw [e2,gl (Uz.map _),Aw,CT];congr 1;refine rq λ p hp=>?_
     simp only [Cb,Fy,decide_eq_false_iff_not] at hp;rw [XS p hp.2,Nat.sub_zero]
    have hlR:=h1.length_eq;have hlS:=Uz.length_eq;rw [Ac,Aa] at hlR;rw [Ac] at hlS;rw [SY,hlR,BZ 2 (k+1),BZ 2 k];rw [h8,BZ 2 k] at h14;generalize (RL.filter (λ p=> !decide (p∈S))).length=xl at*;generalize 2^k=q at*;rw [hlS];have e0:∀z,q*2*z=2*(q*z):=λ z=>by rw [BE q 2,BV]
    have e00:∀z,q*2*2*z=4*(q*z):=λ z=>by rw [BV (q*2) 2 z,e0 (2*z),FA q 2 z];lia
    have e3:q*(2*RP.length)=2*(q*RP.length):=by rw [FA]
    have e4:q*2*S.length=2*(q*S.length):=e0 _;have e5:q*2*(S.length+xl+RP.length)=2*(q*S.length)+2*(q*xl)+2*(q*RP.length):=by
     rw [e0,C6 q,C6 q];lia
    have e6:q*2*2*(S.length+xl)=4*(q*S.length)+4*(q*xl):=by
     rw [e00,C6 q];exact C6 4 _ _
    rw [e5,e6];rw [e3,e4] at h14;lia
theorem dW:∀(n:Nat) {B:List Bd},B.length≤n->(pairs B).length=B.length/2
 |0,[],_=>rfl
 |_+1,[],_=>rfl
 |_+1,[_],_=>by simp [pairs]
 |n+1,a::b::r,hB=>by
  have h1:=dW n (B:=r) (by simp at hB;lia);rw [pairs,Ar,h1,Ar,Ar];lia
theorem mw {L:'c'}:∀(n:Nat) {B:List Bd},B.length≤n->(∀b∈B,∀p∈b.2,p∈L)->∀b∈pairs B,∀p∈b.2,p∈L
 |0,[],_,_,_,hb=>by cases hb
 |_+1,[],_,_,_,hb=>by cases hb
 |_+1,[_],_,_,_,hb=>by cases hb
 |n+1,x::y::r,hB,h,b,hb=>by
  rcases AB.mp hb with rfl|hb
  ·exact λ p hp=>(AR.mp hp).elim (h x AE p) (h y (Az _ AE) p)
  ·exact mw n (by simp at hB;lia) (λ b hb=>h b (Az _ (Az _ hb))) b hb
def xI {L:'c'}{wt:Nat->Nat}{k:Nat}{B:List Bd}(lv:NO (L.map (sgl wt)) k B):∀b∈B,∀p∈b.2,p∈L:=by
 induction lv with
 |zero=>intro b hb;cases hb
 | @step k B B' _ hp hs ih=>
  intro b hb;rcases AR.mp (hp.subset hb) with hb|hb
  ·obtain⟨p,SJ,rfl⟩:=BH.mp hb;exact λ q hq=>by rw [As.mp hq];exact SJ
  ·exact mw _ (Ak _) ih b hb
def wW {L:'c'}{wt:Nat->Nat}{k:Nat}{B:List Bd}(lv:NO (L.map (sgl wt)) k B):2*L.length*2^k+1≤2^k*B.length+2*L.length+2^k:=by
 induction lv with
 |zero=>simp
 | @step k B B' _ hp hs ih=>
  have hl:=hp.length_eq;rw [Ac,Aa,dW _ (B:=B) (Ak _)] at hl;rw [hl,BZ];have h2:B.length≤2*(B.length/2)+1:=Z5;generalize B.length/2=h at*;generalize B.length=b at*;generalize L.length=n at*;generalize 2^k=q at*;have h3:q*b≤q*(2*h+1):=Cg _ h2;have e1:q*(2*h+1)=2*(q*h)+q:=by rw [C6,FA];lia
  have e2:2*n*q=2*(q*n):=by rw [BV,BE n]
  have e3:2*n*(q*2)=4*(q*n):=by rw [<-BV,e2];lia
  have e4:q*2*(n+h)=2*(q*n)+2*(q*h):=by rw [BE q 2,BV,C6 q];exact C6 2 _ _
  rw [e3,e4];rw [e2] at ih;lia
def best {L:'c'}{wt:Nat->Nat}(hL:L.Nodup)(hw:∀p∈L,0<wt p){m:Nat}{B:List Bd}(lv:NO (L.map (sgl wt)) m B)(hn:2≤L.length)(hm:L.length≤2^m):
  (∀p∈L,1≤occ (B.take (2*L.length-2)) p/\occ (B.take (2*L.length-2)) p≤m)/\(∀p,p∉L->occ (B.take (2*L.length-2)) p=0)/\
  (L.map λ p=>2^(m-occ (B.take (2*L.length-2)) p)).sum≤2^m:=by
 obtain⟨hs,Ij,Vb⟩:=uG hL hw lv;have hlen:2*L.length-2≤B.length:=by
  have h1:=wW lv;have h0:0<2^m:=D3 Z9;rcases A2 B.length (2*L.length-2) with h|h
  ·exfalso;have h2:2^m*(B.length+3)≤2^m*(2*L.length):=Cg _ Z5;rw [C6] at h2;rw [BE (2*L.length)] at h1;lia
  ·exact h
 have hRl:(B.take (2*L.length-2)).length=2*L.length-2:=by rw [Aq];exact Bu hlen
 have LM:(B.take (2*L.length-2)++B.drop (2*L.length-2)).Perm B:=by rw [Bn]
 have hle:∀r∈B.take (2*L.length-2),∀u∈B.drop (2*L.length-2),r.1≤u.1:=by
  have:GV (B.take (2*L.length-2)++B.drop (2*L.length-2)):=by rw [Bn];exact hs
  exact(DU.mp this).2.2
 obtain⟨S,T,h1,h2,h3,h4⟩:=Vb _ _ LM hle;rw [hRl] at h4;generalize B.take (2*L.length-2)=R at*;have Xe:=h1.length_eq;rw [Ac] at Xe;have hT:T=[]:=by
  rcases Nat.eq_zero_or_pos T.length with h|h
  ·exact Cs.mp h
  ·exfalso;have h0:0<2^m:=D3 Z9;have h5:2^(m+1)*S.length≤2^m*(2*L.length-2):=by
    have:2*S.length≤2*L.length-2:=Z5;rw [BZ,BV];exact Cg _ this
   have OX:kr R m S=0:=Z5;have hS0:S=[]:=by
    match S,OX with
    | [],_=>rfl
    |p::S',OX=>
     exfalso;unfold kr at OX;rw [Bz,DL] at OX;have:0<2^(m-occ R p):=D3 Z9;lia
   subst hS0;rw [OX] at h4;have h6:2^m*(2*L.length-2)=0:=by simpa using h4
   rcases Nat.mul_eq_zero.mp h6 with h|h<;>lia
 subst hT;rw [Bv] at h1;rw [Fc,DB] at Xe;have hkL:kr R m S=(L.map λ p=>2^(m-occ R p)).sum:=(gl (h1.map _)).symm;refine⟨λ p hp=>?_,λ p hp=>h3 p λ z=>hp (h1.symm.subset z),?_⟩
 ·obtain⟨a,b,_⟩:=h2 p (h1.subset hp);exact⟨a,b⟩
 ·rw [<-hkL];rw [<-Xe,BZ] at h4;have e:2^m*(2*L.length-2)+2*2^m=2^m*2*L.length:=by
   rw [BE 2 (2^m),<-C6,BV];congr 1;lia
  lia
def wm {wt:Nat->Nat}{p:Nat}{k:Nat}{B:List Bd}(lv:NO ([p].map (sgl wt)) k B):k=0\/B=[sgl wt p]:=by
 induction lv with
 |zero=>exact .inl rfl
 | @step k B B' _ hp hs ih=>
  right
  have:pairs B=[]:=by
   rcases ih with rfl|rfl
   ·rename_i h;cases h;rfl
   ·rfl
  rw [this] at hp;exact List.perm_singleton.mp hp
def LC (P:'c')(wt:Nat->Nat)(m:Nat)(ln:Nat->Nat):Prop:=
 (∀p∈P,1≤ln p/\ln p≤m)/\(∀p,p∉P->ln p=0)/\(P.map λ p=>2^(m-ln p)).sum≤2^m
def LC.perm {P L:'c'}{wt:Nat->Nat}{m:Nat}{ln:Nat->Nat}(h:LC L wt m ln)(hp:L.Perm P):LC P wt m ln:=by
 obtain⟨h1,h2,h3⟩:=h;exact⟨λ p W6=>h1 p (hp.symm.subset W6),λ p W6=>h2 p λ z=>W6 (hp.subset z),by rw [<-gl (hp.map _)];exact h3⟩
def tU {L:'c'}{wt:Nat->Nat}(hL:L.Nodup)(hw:∀p∈L,0<wt p){m:Nat}{B:List Bd}(lv:NO (L.map (sgl wt)) m B)(h1:1≤L.length)(OA:1≤m)(hm:L.length≤2^m):
  LC L wt m (occ (B.take (max 1 (2*L.length-2)))):=by
 by_cases hn:2≤L.length
 ·have e:max 1 (2*L.length-2)=2*L.length-2:=Z5;rw [e];exact best hL hw lv hn hm
 ·match L,h1,hn,hL,hw,lv with
  | [p],_,_,_,hw,lv=>
   rcases wm lv with h|rfl
   ·lia
   ·have e:∀q,occ ([sgl wt p].take (max 1 (2* [p].length-2))) q=[p].count q:=λ q=>by
     show occ [sgl wt p] q=_;rw [d9];show [p].count q+occ [] q=_;rfl
    have ep: [p].count p=1:=Z6;refine⟨λ q hq=>?_,λ q hq=>?_,?_⟩
    ·rw [As.mp hq,e,ep];exact⟨Ak _,OA⟩
    ·rw [e];exact CK hq
    ·rw [Bz,Fk,DL,List.sum_nil,e,ep];have:2^(m-1)≤2^m:=Cv Z9 (EF _ 1)
     assumption
  |a::b::r,_,hn,_,_,_=>exact absurd Z6 hn
end PM
namespace SM
theorem Jy {kf:β->κ}(O:Ord blt)(φ:α->β):∀{mm:List β} {Z:List α},Stb blt kf mm (Z.map φ)->∃Z',mm=Z'.map φ/\Stb blt (λ z=>kf (φ z)) Z' Z
 | [],Z,h=>by
  have e:=(GX O h).length_eq;rw [Aa] at e;have:Z=[]:=Cs.mp e.symm;subst this;exact⟨[],rfl,Stb.refl _⟩
 |x::mm,Z,h=>by
  have hx:=Stb.mem O h (AE);obtain⟨z0,hz0,ez0⟩:=BH.mp hx;obtain⟨l1,y,l2,rfl,hy,h1⟩:=Hi (p:=λ z=>eqv blt kf (kf x) (φ z)) ⟨z0,hz0,by rw [ez0];exact GY O x⟩;have e:=h (kf x);have n1:(l1.map φ).filter (eqv blt kf (kf x))=[]:=BU.mpr λ u hu=>by
   obtain⟨z,hz,rfl⟩:=BH.mp hu;exact h1 z hz
  rw [Aw,Bz,AL (GY O x),AQ,n1,Bj,AL hy] at e;obtain⟨ex,e2⟩:=Eo e;subst ex;have ht:Stb blt kf mm ((l1++l2).map φ):=λ k=>by
   rw [Aw,AQ];by_cases hk:eqv blt kf k (φ y)=true
   ·have z:=Hh.mp hk;have:kf (φ y)=k:=O.tot _ _ z.1 z.2;subst this;rw [n1,Bj];exact e2
   ·have e3:=h k;rw [Aw,Bz,AS hk,AQ,AS hk] at e3;exact e3
  obtain⟨Z',rfl,hs⟩:=Jy O φ ht;refine⟨y::Z',rfl,λ k=>?_⟩;have LX:=hs k;rw [AQ] at LX;rw [AQ];by_cases hk:eqv blt (λ z=>kf (φ z)) k y=true
  ·have z:=Hh.mp hk;have ek:kf (φ y)=k:=O.tot _ _ z.1 z.2;subst ek;have n2:l1.filter (eqv blt (λ z=>kf (φ z)) (kf (φ y)))=[]:=BU.mpr λ u hu=>h1 u hu
   rw [n2,Bj] at LX ⊢;rw [AL hk,AL hk,LX]
  ·rw [AS hk,AS hk,LX]
def KW (ψ:α->γ){Vz:α->κ}(hk:∀z,Vz z=kg (ψ z))(h:Stb blt Vz Z' Z):Stb blt kg (Z'.map ψ) (Z.map ψ):=λ k=>by
 rw [E6,E6];have e:(eqv blt kg k∘ψ)=eqv blt Vz k:=by
  funext z;show eqv blt kg k (ψ z)=eqv blt Vz k z;unfold eqv;rw [hk]
 rw [e,h k]
end SM
namespace D6
open PM SM
abbrev wI (b:Bd):Int:=(b.1:Int)
inductive Jc (sg:List Bd):Nat->List Bd->Prop
 |zero:Jc sg 0 []
 |step {k:Nat} {B B':List Bd}:Jc sg k B->Stb SG.ltI wI B' (sg++pairs B)->GV B'->Jc sg (k+1) B'
def Jc.lev (h:Jc sg k B):NO sg k B:=by
 induction h with
 |zero=>exact .zero
 |step _ hs SA ih=>exact .step ih (GX SG.KI hs) SA
def pT (h:GV B):B.Pairwise (Le SG.ltI wI):=h.imp λ {a b} Rt=>by
 show decide ((b.1:Int)<(a.1:Int))=false;exact Bt Z5
def Jc.uniq (h:Jc sg k B)(h':Jc sg k B'):B=B':=by
 induction h generalizing B' with
 |zero=>cases h';rfl
 |step _ hs SA ih=>
  cases h' with
  |step h2 Io YF=>
   have:=ih h2;subst this;exact Jx SG.KI (pT SA) (pT YF) (hs.trans Io.symm)
end D6
namespace QQ
open PySem PyProof.Rows
def on {i:Nat}(hq:Hq A s.heap)
  (he:IsEnum s.heap e it i old) (hit:s.heap.IsListIter it l i) (hl:s.heap.IsList l items) (hx:items[i]?=none)
  (hQ:∀h',Heap.ExtBut it s.heap h'->Q none {s with heap:=h'}):wpAny (model prog w) A (pyNext (.ref e)) Q E s:=by
 have hT:s.TypeIs (.ref e) "enumerate":=⟨_,he,rfl⟩;unfold pyNext;refine Ab (CO (B8 hT Ff
  (CW Ff hT PySem.F.entry_enumerate_next ?_ (PySem.F.args_enumerate_next_1 _))))
 show wpAny _ _ (field (.ref e) 2>>= _) _ _ _;refine Ab (A6 he rfl rfl ?_);refine Ab (lu hq hit hl hx λ h' x he' Sy=>?_);obtain⟨o,ho,hc⟩:=Sy;refine Ab (Dv ⟨o,ho,hc⟩ DX ?_);exact AG (hQ _ he')
end QQ
namespace L2
open PySem PySem.Spec PyProof.Rows QQ
def P4 (K:Frag)(a:FR):It:=
 ⟨λ i H=>∃xs x,Gf K H a xs/\xs[i]?=some x,λ i H v H'=>∃p x,H p=none/\v=.ref p/\H'=upd H p (.tup [.int (i:Int),x])/\∀xs,Gf K H a xs->xs[i]?=some x,λ i H=>∃xs,Gf K H a xs/\xs.length≤i⟩
def rJ {K:Frag}(a e it)(Hx:e≠it):
  Turn P w K (.Tuple es k pos) (P4 K a) [e,it] e (λ i h=>(∃old,IsEnum h e it (i:Int) old)/\h.IsListIter it a i) where
 mem:=Z6
 obj:=λ i h st b hb=>by
  obtain⟨⟨old,he⟩,hit⟩:=st;rcases AB.mp hb with hb|hb
  ·subst hb;exact⟨_,he,λ v z=>by
    have z':Data.fields _=Data.cell v:=z;cases z'⟩
  ·obtain rfl:=As.mp hb;obtain⟨o,e',c,d⟩:=hit;exact⟨o,e',λ v z=>by rw [d] at z;cases z⟩
 keep:=λ i h h' st k=>by
  obtain⟨⟨old,he⟩,hit⟩:=st;exact⟨⟨old,k e Z6 _ he⟩,hit.at λ o x=>k it Z6 o x⟩
 item:=by
  intro 'c';obtain⟨⟨old,he⟩,hit⟩:=st;obtain⟨xs,x,hq,hx⟩:=hg;obtain⟨Gd,rv,p,hz⟩:=I.list hq;obtain⟨u,hu,ru⟩:=rv.get hx;obtain⟨e0,e1,e2,e3,e4,e5⟩:=hf e Z6;obtain⟨f0,f1,f2,f3,f4,f5⟩:=hf it Z6;have elt:e<s.heap.objs.size:=AA he;have ilt:it<s.heap.objs.size:=by obtain⟨o,e',_⟩:=id hit;exact AA e'
  have hT:H s.heap.objs.size=none:=I.hok.fresh (Ak _);refine wpAny_pyNext_enum_item he hit p.isList (by simpa using hu) Hx λ h1 ho YW ht hsz kk=>?_
  refine⟨_,rfl,wpAny_letOwnedTupleGo_enum ho λ h2 Kd Io=>?_⟩;have kept:∀b o,b≠e->b≠it->s.heap.get? b='g'->h2.get? b='g':=λ b o n1 n2 x=>(Io.2 b n1).trans (kk b o n1 n2 x)
  have MY:h2.get? s.heap.objs.size=some {cls:=.type "tuple",data:=.seq #[.int i s.toks,u]}:=(Io.2 _ (DH elt)).trans ht;have MQ:∀b o,s.heap.get? b='g'->b≠s.heap.objs.size:=λ b o x=>A7 (AA x)
  have nT:∀b o,H b='g'->b≠s.heap.objs.size:=λ b o x z=>by rw [z,hT] at x;cases x
  have nE:∀b o,H b='g'->b≠e/\b≠it:=λ b o x=>⟨λ z=>(by rw [z,e0] at x;cases x),λ z=>(by rw [z,f0] at x;cases x)⟩
  have Qp:IsEnum h2 e it (⇑(i+1)) u:=by
   have:(⇑(i+1))=(i:Int)+1:=Nat.ToInt.add_congr rfl rfl;rw [this];exact Kd
  have QR:h2.IsListIter it a (i+1):=YW.at λ o x=>(Io.2 it Hx.symm).trans x
  have I2:Inv X F6 σ (upd H s.heap.objs.size (.tup [.int (i:Int),x])) {s with heap:=h2,toks:=s.toks+1}:=by
   refine I.step (ch:=[e,it]) (λ b hb=>?_) (λ b o _ _ hb x _=>kept b o (λ z=>hb (by simp [z])) (λ z=>hb (by simp [z])) x)
    (λ b o _ _ hb x _=>⟨o.slots,kept b o (λ z=>hb (by simp [z])) (λ z=>hb (by simp [z])) x⟩) (λ b o _ x n=>by rw [aj (MQ b o x)];exact n)
    (λ b o hb x=>⟨o,kept b o (λ z=>hb (by simp [z])) (λ z=>hb (by simp [z])) x⟩) (λ b xs x=>by rw [aj (nT b _ x)];exact x) (λ b o u x=>by rw [aj (nT b _ x)];exact x)
    (λ b ps x=>⟨#[],by rw [aj (nT b _ x),x];simp⟩) (λ m hm=>?_) (λ b o x=>?_) I.bare
   ·rcases AB.mp hb with hb|hb
    ·subst hb;exact⟨e3,e1,e4,e5⟩
    ·obtain rfl:=As.mp hb;exact⟨f3,f1,f4,f5⟩
   ·obtain⟨o,TY,ep,NB,r⟩:=hm;exact⟨o,TY,ep,kept _ o (B7 e1) (B7 f1) NB,r⟩
   ·by_cases hb:b=s.heap.objs.size
    ·subst hb;rw [af] at x;cases x;exact⟨by show 2≤sizeLine;decide,[.int i s.toks,u],.cons ⟨_,rfl⟩ (.cons ru .nil),⟨_,MY,rfl,_,rfl⟩⟩
    ·rw [aj hb] at x;refine(I.hok b o x).stay (λ c v PH q=>?_) (λ c q=>by rw [aj (nT c _ q)];exact q) λ c xs q=>by rw [aj (nT c _ q)];exact q
     rcases PH with z|z
     ·subst z;exact kept c v (nE c _ x).1 (nE c _ x).2 q
     ·exact kept c v (nE c _ z).1 (nE c _ z).2 q
  refine⟨.ref s.heap.objs.size,_,I2,rfl,⟨_,x,hT,rfl,rfl,λ ys hy=>by rw [I.list_inj hy hq];exact hx⟩,⟨⟨u,Qp⟩,QR⟩,λ b hb=>?_⟩;rcases AB.mp hb with hb|hb
  ·subst hb;rw [aj (A7 elt)];exact e0
  ·obtain rfl:=As.mp hb;rw [aj (A7 ilt)];exact f0
 done:=by
  intro 'c';obtain⟨⟨old,he⟩,hit⟩:=st;obtain⟨xs,hq,hx⟩:=hg;obtain⟨Gd,rv,p,hz⟩:=I.list hq;obtain⟨f0,f1,f2,f3,f4,f5⟩:=hf it Z6;have hl:=rv.length;exact on I.hq he hit p.isList (by simp;exact Cq hl.symm hx) λ h' eb=>⟨rfl,I.turned (λ b o hb e=>eb b o hb e) f0 f1 f3 f4 f5⟩
 self:=λ _ _ _ _ _ st h=>by
  obtain⟨⟨old,he⟩,hit⟩:=st;exact wpAny_pyIter_enum he h
inductive MJ (K:Frag) (R:It->Hp->Prop) (vs:List V) (H1:Hp):Prop
 |mk (l:_) (xs:_) (h0:vs=[.ref l]) (h1:Gf K H1 l xs) (h2:R (P4 K l) H1):MJ K R vs H1
def y4 (K:Frag)(ta:TA):TI:=λ σ H R=>ta σ H λ vs H1=>MJ K R vs H1
def iz {X:Cx}(hg:Gl X "enumerate")(hm:X.mg "enumerate"=none)(ha:PA X [a] ta)(hs:autoParam (starEach [a] X.env=[(false,eval a X.env)]) Z0):
  PI X (.Tuple es k q) (.Call (.Name "enumerate" p) [a] [] pos) (y4 X.K ta):=by
 intro F6 s σ H R I h;refine Call_ (eF I hg hm boot_enumerate (Ct (thn (ha pos F6 s σ H _ I h) λ us s1 z9=>?_) hs rfl));obtain⟨vs,H1,I1,r1,q1⟩:=z9;obtain⟨l,xs,e,hq,q⟩:=q1;subst e;cases r1 with
 |cons r rr=>
  cases rr;cases r;obtain⟨Gd,rv,p,hz⟩:=I1.list hq;refine call_enumerate_list p.isList λ h' he hit hsz hk=>?_
  have I2:Inv X F6 σ H1 {s1 with heap:=h'}:=I1.kept (t':=s1.toks) hk;refine wpAny_pyIter_enum he ⟨s1.heap.objs.size+1,[s1.heap.objs.size+1,s1.heap.objs.size],_,_,H1,rfl,I2,rJ l _ _ (Nat.succ_ne_self _),⟨⟨_,he⟩,hit⟩,λ b hb=>?_,q⟩;have NG:s1.heap.objs.size≤b:=by
   rcases AB.mp hb with hb|hb
   ·rw [hb];exact DD _
   ·rw [As.mp hb];exact Ak _
  exact I1.fpOk NG (I1.hok.fresh NG)
def uP {K:Frag}{g:TG}{tt:TT}{te:TE}{R:Hp->Prop}(Pv:Nat->List V->Hp->Prop)(h0:Pv 0 [] (upd H1 l (.lst [])))(hl:∀i ys H,i≤xs.length->Pv i ys H->Gf K H a xs)
  (hs:∀i x ys σ H p,xs[i]?=some x->Pv i ys H->σ.length=n->H p=none->g (.ref p) σ (upd H p (.tup [.int (i:Int),x])) λ σ3 H3=>tt σ3 H3 λ c H5=>if c=true then te σ3 H5 λ y H4=>H4 l=↥ys/\ys.length<sizeLine/\σ3.length=n/\Pv (i+1) (ys++[y]) (upd H4 l (.lst (ys++[y]))) else σ3.length=n/\Pv (i+1) ys H5)
  (hd:∀ys H,Pv xs.length ys H->R H) (mg:∀x σ H (A B:St->Hp->Prop),(∀σ' H',A σ' H'->B σ' H')->g x σ H A->g x σ H B) (Sv:∀σ H (A B:Bool->Hp->Prop),(∀v H',A v H'->B v H')->tt σ H A->tt σ H B) (mt:∀σ H (A B:VK),(∀v H',A v H'->B v H')->te σ H A->te σ H B):
  ∃W:Nat->Nat->List V->St->Hp->Prop,(∃m,W 0 m [] (List.replicate n none) (upd H1 l (.lst [])))/\∀i m ys σ' H',W i m ys σ' H'->
   ((P4 K a).stop i H'/\R H')\/((P4 K a).go i H'/\∀x H2,(P4 K a).yld i H' x H2->g x σ' H2 λ σ3 H3=>tt σ3 H3 λ c H5=>if c=true then te σ3 H5 λ y H4=>
    H4 l=↥ys/\ys.length<sizeLine/\∃m',m'<m/\W (i+1) m' (ys++[y]) σ3 (upd H4 l (.lst (ys++[y]))) else∃m',m'<m/\W (i+1) m' ys σ3 H5):=by
 refine⟨λ i m ys σ H=>m=xs.length-i/\i≤xs.length/\σ.length=n/\Pv i ys H,⟨xs.length,Z6,A1 _,Al,h0⟩,?_⟩;rintro i m ys σ H ⟨rfl,hi,hn,p⟩;have q:=hl i ys H hi p;by_cases F9:i<xs.length
 ·refine .inr ⟨⟨xs,xs[i],q,by simp [F9]⟩,λ x H' y=>?_⟩;obtain⟨p1,x1,Kw,e1,e2,y⟩:=y;subst e1 e2;refine mg _ _ _ _ _ (λ σ3 H3 z=>Sv _ _ _ _ (λ c H5 z=>?_) z) (hs i x1 ys σ _ p1 (y xs q) p hn Kw);cases c with
  |true=>
   rw [AK rfl] at z ⊢;exact mt _ _ _ _ (λ y H4 z9=>by obtain⟨z1,z2,z3,z4⟩:=z9;exact⟨z1,z2,xs.length-(i+1),Bs _ _ F9,rfl,F9,z3,z4⟩) z
  |false=>
   rw [AH Ax] at z ⊢;exact⟨xs.length-(i+1),Bs _ _ F9,rfl,F9,z.1,z.2⟩
 ·have e:i=xs.length:=A8 hi (Nat.not_lt.1 F9);subst e;exact .inl ⟨⟨xs,q,Ak _⟩,hd ys H p⟩
end L2
namespace K21.S
open PySem L2 QQ PM D6
seal PE PA PS PSs PT PW PG PI
inductive KY (vs:List V) (H:Hp) (Q:VK) (Gj:XK):Prop
 |mk (a:FR) (B:'c') (hi:Nat) (h0:vs=[.ref a,vN hi]) (h1:H a=↥(B.map vN)) (h2:(∀b∈B,b≤hi)) (h3:1≤B.length) (h4:B.length≤300) (h5:(∃b∈B,0<b)) (h6:Q (.bl true) H):KY vs H Q Gj
inductive J5 (vs:List V) (H:Hp) (Q:VK) (Gj:XK):Prop
 |mk (a:FR) (B:'c') (hi:Nat) (p:Bool) (h0:vs=[.ref a,vN hi]) (h1:H a=↥(B.map vN)) (h2:(∀b∈B,b≤hi)) (h3:1≤B.length) (h4:B.length≤300) (h5:(p=true<->∃b∈B,0<b)) (h6:Q (.bl p) H):J5 vs H Q Gj
def t9:y' ["thing","most"] ["thing","most"] (am eE):=Gw Z8
def xp (R:'c'):R.map vN=(R.map λ b=>⇑b).map V.int:=by rw [BO];rfl
def JF {P:FU}{f fA fW:FR}(F:'h' "are_of_things" eE ["thing","most"] f fd)(AW:'h' "are_whole" bV Jaa fA PX)(W:'h' "is_whole" bQ Jaa fW JV)(T:Txt K mg):'a' Gn 31 f fd ["thing","most"] J5:=by
 obtain⟨tt,ht⟩:=T.things;refine F.F.ok t9 ?_
 intro 'b';obtain⟨a,B,hi,p,rfl,hB,hb,h1,h3,hp,k⟩:=h;have IW:Ge 2 _:=hr.mono Z9;have hn:=hr.hd Z9;refine⟨_,ad (aM (cv (bX (ap (dg AW W T) IW Z7 AW.m AW.F.kp AW.b .nil az (aa (pv 0) (aa ae (aa (pv 1) ac)))))) (ag (aB cO)) aF)
  (ag (aB (gQ (jh jL jL ae (ay ax Z7 T.len Ay (aa (pv 0) ac)) (aJ (v:=.int 300) Z7 ht ⟨tt,rfl⟩))
   (g8 (gG dk (ay (se hn) Z7 T.max C4 (aa (pv 0) ac)) ae (aC _)))))),?_⟩
 refine⟨_,rfl,_,rfl,a,B,0,_,rfl,hB,λ b z=>by have:=hb b z;lia,_,rfl,cV ?_⟩;refine⟨_,rfl,a,_,rfl,.inl (Gf.of hB),_,_,rfl,rfl,_,rfl,bc (λ _=>?_) (λ h=>absurd (Ae (by rw [Aa];exact Int.toNat_le.mp h1)) h)⟩;refine⟨_,_,rfl,rfl,_,rfl,bc (λ _=>?_) (λ h=>absurd (Ae (by rw [Aa];exact Nat.ToInt.of_le rfl rfl h3)) h)⟩;refine⟨_,rfl,a,B.map (λ b=>⇑b),rfl,by rw [<-xp];exact Gf.of hB,by rw [Aa];assumption,λ n hn YR=>?_⟩;have e:decide (0<n)=p:=by
  obtain⟨c,hc,rfl⟩:=BH.mp hn;cases p with
  |false=>exact Bt λ z=>nomatch hp.mpr ⟨c,hc,Int.ofNat_lt.1 z⟩
  |true=>
   obtain⟨b0,h0,h0'⟩:=hp.mp rfl;have:=YR _ (E9 h0);exact Ae (Int.lt_of_lt_of_le (Int.ofNat_lt.2 h0') this)
 refine⟨_,_,rfl,rfl,?_⟩
 try dsimp only
 rw [e];exact k
def Kc {f fA fW:FR}(F:'h' "are_of_things" eE ["thing","most"] f fd)(AW:'h' "are_whole" bV Jaa fA PX)(W:'h' "is_whole" bQ Jaa fW JV)(T:Txt K mg):'a' Gn 31 f fd ["thing","most"] KY:=(JF F AW W T).imp λ vs H Q E h=>by
 obtain⟨a,B,hi,e,hB,hb,h1,h3,h0,k⟩:=h;exact⟨a,B,hi,true,e,hB,hb,h1,h3,⟨λ _=>h0,λ _=>rfl⟩,k⟩
inductive Of (vs:List V) (H:Hp) (Q:VK) (Gj:XK):Prop
 |mk (a:FR) (B:List Nat) (m:Nat) (h0:vs=[.ref a,vN m]) (h1:H a=↥(B.map vN)) (h2:(∀b∈B,b≤1000000)) (h3:1≤B.length) (h4:B.length≤300) (h5:(∃b∈B,0<b)) (h6:1≤m) (h7:m≤12) (h8:(B.filter (λ b=>decide (0<b))).length≤2^m) (h9:∀H',C' H H'->Q .non H'):Of vs H Q Gj
def xF:y' Jam Jam (am qh):=Gw Z8
def ndC:(["count"]:List Str).Nodup:=Z8
def wc {f fT fA fW:FR}(F:'h' "need_shares" qh Jam f fd)(Th:'h' "are_of_things" eE ["thing","most"] fT PV)(AW:'h' "are_whole" bV Jaa fA PX)(W:'h' "is_whole" bQ Jaa fW JV)(T:Txt K mg):'a' Gn 32 f fd Jam Of:=by
 obtain⟨tc,hc⟩:=T.count;obtain⟨tm,hm⟩:=T.mlen;refine F.F.ok xF ?_
 intro 'b';obtain⟨a,B,m,rfl,hB,hb,h1,h3,Ij,m1,m2,Pk,k⟩:=h;have Gz:Ge 1 _:=hr.mono Z9;refine⟨_,ad (aM (cv (bX (ap (Kc Th AW W T) hr Z7 Th.m Th.F.kp Th.b .nil az (aa (pv 0) (aa (aJ (v:=.int 1000000) Z7 hc ⟨tc,rfl⟩) ac))))) (ag bN) aF)
  (ad (aM (cv (bX (ap (dD W T) Gz Z7 W.m W.F.kp W.b .nil az (aa (pv 1) (aa ae (aa (aJ (v:=.int 12) Z7 hm ⟨tm,rfl⟩) ac)))))) (ag bN) aF)
  (ag (aM (aA dk (ay ax Z7 T.len Ay (aa (iM rfl rfl Z8 Z8 Z8 (bi (pv 0))
   (λ fp s H=>aG (i:=0) ndC) (λ fp s H=>aA dk (pv 0) ae (aC _)) (λ fp s H=>pv 0)) ac)) (ao dP ae (pv 1)) (aC _)) (ag bN) aF))),?_⟩
 refine aw λ _ g1=>⟨_,rfl,a,B,1000000,rfl,hB,hb,h1,h3,Ij,_,rfl,cV (g1 _ _ ?_)⟩
 clear g1;refine aw λ R1 g1=>?_
 have e1:(decide ((1:Int)≤(m:Int))&&decide ((m:Int)≤12))=true:=by
  rw [Ae (show(1:Int)≤(m:Int) from Int.toNat_le.mp m1),Ae (show(m:Int)≤12 by lia)];rfl
 refine⟨_,rfl,(m:Int),1,12,rfl,?_⟩;rw [e1];refine⟨_,rfl,cV (g1 _ _ ?_)⟩;clear g1;refine⟨_,rfl,a,rfl,⟨_,Gf.of hB⟩,λ l nl=>?_⟩;refine jc (K:=K) (a:=a) (l:=l) (xs:=B.map vN) (n:=1) (g:=bw 0) (tt:=fE (Im (LV λ i j=>.bl (decide (j<i))) (Gs 0) (tC (.int 0)))) (te:=Gs 0)
  (λ i ys H'=>ys=((B.take i).filter (λ b=>decide (0<b))).map vN/\H' l=↥ys/\C' H H') ⟨rfl,af,ak nl⟩ (λ i ys H' _ z9=>by obtain⟨_,_,sm⟩:=z9;exact Gf.of (sm _ _ hB)) ?_ ?_ ?_ ?_ ?_
 ·rintro i x ys σ H' hx ⟨rfl,hl,sm⟩ hσ;obtain⟨b,Ib,rfl⟩:=ck hx;have HI:i<B.length:=(Af.mp Ib).1;obtain⟨u0,rfl⟩:∃u0,σ=[u0]:=match σ,hσ with| [u0],_=>⟨u0,rfl⟩
  have hlen:((B.take i).filter (λ b=>decide (0<b))).length≤300:=Ai (DE _ _) (by rw [Aq];exact Ai (BQ _ _) h3);refine⟨_,rfl,_,_,rfl,rfl,_,rfl,?_⟩;rw [dY Ib,AQ]
  try dsimp only
  by_cases h0:0<b
  ·rw [AK (Ae (show(0:Int)<(b:Int) from FL.mpr h0))];refine⟨_,rfl,hl,bA (by rw [Aa];exact Ai hlen Z9),rfl,?_,af,λ c o e=>?_⟩
   ·rw [AL (by simpa using h0),Aw];rfl
   ·rw [aj (ai e nl)];exact sm _ _ e
  ·rw [AH (λ z=>absurd (Am z) Z5)];refine⟨rfl,?_,?_,sm⟩
   ·rw [AS (by simpa using h0)];simp
   ·exact hl
 ·rintro ys H' ⟨rfl,hl,sm⟩;rw [Aa,AT] at hl;refine⟨l,_,rfl,.inl (Gf.of hl),_,rfl,_,_,rfl,rfl,⟨Z5,Z5,Z9⟩,_,_,rfl,rfl,_,rfl,bc (λ h=>?_) (λ _=>k _ sm)⟩;exfalso;have:=Am h;rw [Aa,AM] at this;have e2:(1:Int)*2^m=⇑(2^m):=by rw [FQ];simp
  rw [e2] at this;lia
 ·exact λ x σ H A B h z=>h _ _ z
 ·exact λ σ H A B h z9=>by obtain⟨v,e1,i,j,e2,e3,c,e4,z⟩:=z9;exact⟨v,e1,i,j,e2,e3,c,e4,h _ _ z⟩
 ·exact λ σ H A B h z9=>by obtain⟨v,e1,z⟩:=z9;exact⟨v,e1,h _ _ z⟩
def Wc (H:Hp)(A:List FR)(t:FR)(b:Bd):Prop:=∃l,t∉A/\l∉A/\H t=some (.tup [vN b.1,.ref l])/\H l=↥(b.2.map vN)
inductive IC (vs:List V) (H:Hp) (Q:VK) (Gj:XK):Prop
 |mk (t:_) (l:_) (n:_) (h0:vs=[.ref t]) (h1:H t=some (.tup [vN n,.ref l])) (h2:Q (vN n) H):IC vs H Q Gj
def tV:y' ["bundle"] ["bundle"] (am gB):=Gw Z8
def jO (F:'h' "weight_of" gB ["bundle"] f fd):'a' Gn 1 f fd ["bundle"] IC:=by
 refine F.F.ok tV ?_
 intro 'b';obtain⟨t,l,n,rfl,ht,k⟩:=h;refine⟨_,ag (aB (aU bL (pv 0) ae (λ _ _=>rfl))),?_⟩;exact⟨_,rfl,t,_,_,_,rfl,rfl,GF.of ht,aD rfl,k⟩
inductive Gu (H:Hp) (A:List FR):List FR->List Bd->Prop
 |nil:Gu H A [] []
 |cons {t:FR} {b:Bd} {ts:List FR} {bs:List Bd}:Wc H A t b->Gu H A ts bs->Gu H A (t::ts) (b::bs)
def Gu.keepA {H H':Hp}{A:List FR}{bs:List Bd}(h:Gu H A ts bs)(s:∀c o,c∉A->H c='g'->H' c='g'):Gu H' A ts bs:=by
 induction h with
 |nil=>exact .nil
 |cons a _ ih=>
  obtain⟨l,n1,n2,h1,h2⟩:=a;exact .cons ⟨l,n1,n2,s _ _ n1 h1,s _ _ n2 h2⟩ ih
def Gu.keep {H H':Hp}{A:List FR}{bs:List Bd}(h:Gu H A ts bs)(s:C' H H'):Gu H' A ts bs:=h.keepA λ c o _ e=>s c o e
def Gu.sub {H:Hp}{A A':List FR}{bs:List Bd}(h:Gu H A ts bs)(s:∀a∈A',a∈A):Gu H A' ts bs:=by
 induction h with
 |nil=>exact .nil
 |cons a _ ih=>
  obtain⟨l,n1,n2,h1,h2⟩:=a;exact .cons ⟨l,λ z=>n1 (s _ z),λ z=>n2 (s _ z),h1,h2⟩ ih
def Gu.app {H:Hp}{A:List FR}{bs cs:List Bd}(h:Gu H A ts bs)(g:Gu H A us cs):Gu H A (ts++us) (bs++cs):=by
 induction h with
 |nil=>exact g
 |cons a _ ih=>exact .cons a ih
def Gu.len {H:Hp}{A:List FR}{bs:List Bd}(h:Gu H A ts bs):ts.length=bs.length:=by
 induction h with
 |nil=>rfl
 |cons a _ ih=>rw [Ar,Ar,ih]
theorem Gu.at {H:Hp}{A:List FR}(h:Gu H A ts bs):∀{i:Nat} {b},bs[i]?=some b->∃t,ts[i]?=some t/\Wc H A t b:=by
 induction h with
 |nil=>intro i b h;simp at h
 |cons a _ ih=>
  intro i b h;cases i with
  |zero=>simp at h;subst h;exact⟨_,rfl,a⟩
  |succ i=>simp at h;simpa using ih h
def ud:∀n {B} {i} {a b},B.length≤n->B[2*i]?=some a->B[2*i+1]?=some b->(pairs B)[i]?=some (a.1+b.1,a.2++b.2):=by
 intro n
 induction n with
 |zero=>intro B i a b hB h1 _;have:B=[]:=Cs.mp Z5;subst this;simp at h1
 |succ n ih=>
  intro B i a b hB h1 h2
  match B,hB,h1,h2 with
  | [],_,h1,_=>simp at h1
  | [x],_,h1,h2=>simp at h2
  |x::y::r,hB,h1,h2=>
   cases i with
   |zero=>simp at h1 h2;subst h1 h2;rfl
   |succ i=>
    rw [show 2*(i+1)=2*i+1+1 from FP (Nat.succ_add _ 1)] at h1 h2;simp at h1 h2;show(pairs r)[i]?=_;exact ih (by simp at hB;exact Cz hB) h1 h2
def gs {ts:List FR}{i:Nat}(h:ts[i]?=some t):(ts.map V.ref)[i]?=↑t:=by rw [AU,h];rfl
def yq (m:Nat)(h:m≤2000):Builtin.Range.small 1 (m:Int) 2=true/\Builtin.Range.rangeSize 1 (m:Int) 2=⇑(m/2):=by
 have e:Builtin.Range.rangeSize 1 (m:Int) 2=⇑(m/2):=by
  unfold Builtin.Range.rangeSize;rw [AK Z9]
  split<;>lia
 refine⟨?_,e⟩;have f:∀i,0≤i->i<100000->Builtin.Range.rangeFitsLong i=true:=λ i h0 h1=>by
  unfold Builtin.Range.rangeFitsLong;rw [Ae Z5,Ae Z5];rfl
 unfold Builtin.Range.small;rw [e]
 try dsimp only
 rw [f 1 Z9 Z9,f (m:Int) Z5 (Int.ofNat_lt.2 (Be h Z9)),f 2 Z9 Z9,f ⇑(m/2) (BG _) Z5,AK Z9,f ((m:Int)+(2-1)) Z5 Z5];simp
inductive Mr (vs:List V) (H:Hp) (Q:VK) (Gj:XK):Prop
 |mk (p av:FR) (ts:List FR) (B:List Bd) (h0:vs=[.ref p]) (h1:H p=↥(ts.map V.ref)) (h2:(∃o,H av='g')) (h3:Gu H [av] ts B) (h4:B.length≤1000) (h5:(∀b∈B,b.2.length≤8000000)) (h6:∀l us H',C' H H'->H l=none->H' l=↥(us.map V.ref)->Gu H' [av] us (pairs B)->Q (.ref l) H'):Mr vs H Q Gj
def Iz:y' ["bundles","pairs","place","first","second"] ["bundles"] (am jo):=Gw Z8
def sW (F:'h' "in_pairs" jo ["bundles"] f fd)(T:Txt K mg):'a' Gn 1 f fd ["bundles"] Mr:=by
 refine F.F.ok Iz ?_
 intro 'b';obtain⟨p,av,ts,B,rfl,hp,⟨oav,Xu⟩,hB,O2,hsm,k⟩:=h;refine⟨_,ad (aq (i:=1) Iz.nd (aH ac))
  (ad (bp AV rfl (kn Z7 T.range (aa ae (aa (ay ax Z7 T.len Ay (aa (pv 0) ac)) (aa ae ac)))) (aG (i:=2) Iz.nd)
   (ad (aq (i:=3) Iz.nd (aU aW (pv 0) (ao bd (pv 2) ae) (λ _ _=>rfl)))
   (ad (aq (i:=4) Iz.nd (aU aW (pv 0) (pv 2) (λ _ _=>rfl)))
   (ag (aE (d8 Bc Bp By bO (pv 1) (aa (aO (aa (ao aI (aU bL (pv 3) ae (λ _ _=>rfl)) (aU bL (pv 4) ae (λ _ _=>rfl)))
    (aa (ao bz (aU bL (pv 3) ae (λ _ _=>rfl)) (aU bL (pv 4) ae (λ _ _=>rfl))) ac))) ac)))))))
  (ag (aB (pv 1)))),?_⟩
 have Nz:=hB.len;refine aw λ _ g1=>⟨Z9,λ l nl=>g1 _ _ ?_⟩
 clear g1;have s0:=ak (o:=.lst []) nl;have Io:=yq ts.length Z5;refine aw λ _ g1=>⟨_,rfl,p,_,rfl,.inl (Gf.of (s0 _ _ hp)),1,_,2,ts.length/2,rfl,Z9,by rw [Aa];exact Io.1,by rw [Aa];exact Io.2,Ex Z9,jx (n:=ts.length/2)
  (λ i σ H2=>∃v2 v3 v4 us,σ=[↑p,↑l,v2,v3,v4]/\H2 l=↥(us.map V.ref)/\Gu H2 [l,av] us ((pairs B).take i)/\C' H H2) ⟨none,none,none,[],rfl,af,.nil,s0⟩ ?_ ?_⟩
 ·clear g1;rintro i σ H2 hi ⟨v2,v3,v4,us,rfl,Hy,LW,sm⟩;have l0:2*i<B.length:=Z5;have l1:2*i+1<B.length:=Z5;have g0:B[2*i]?=some B[2*i]:=Ad l0;have g1:B[2*i+1]?=some B[2*i+1]:=Ad l1;have z0:=hsm _ (BL l0);have z1:=hsm _ (BL l1);have hpa:=ud _ (Ak _) g0 g1;obtain⟨t0,ht0,la,_,_,TK,OE⟩:=(hB.keep sm).at g0;obtain⟨t1,ht1,lb,_,_,Ib,TH⟩:=(hB.keep sm).at g1;generalize B[2*i]=ba at*;generalize B[2*i+1]=bb at*;have e1:(1:Int)+(i:Int)*2=⇑(2*i+1):=Z5;have e2:⇑(2*i+1)-1=⇑(2*i):=Z5;have Hw:=sm _ _ hp;rw [e1];refine aw λ _ g2=>⟨_,rfl,_,rfl,_,_,rfl,rfl,?_⟩
  try dsimp only
  rw [e2];refine⟨p,_,_,_,rfl,rfl,Gf.of Hw,aD (gs ht0),g2 _ _ ?_⟩;clear g2;refine aw λ _ g2=>⟨_,rfl,_,rfl,p,_,_,_,rfl,rfl,Gf.of Hw,aD (gs ht1),g2 _ _ ?_⟩
  clear g2;have hul:=LW.len;rw [Aq] at hul;refine⟨_,rfl,.inl ⟨rfl,_,Gf.of Hy⟩,_,rfl,t0,_,_,_,rfl,rfl,GF.of TK,aD (j:=0) rfl,_,rfl,t1,_,_,_,rfl,rfl,GF.of Ib,aD (j:=0) rfl,_,_,rfl,rfl,
   _,rfl,t0,_,_,_,rfl,rfl,GF.of TK,aD (j:=1) rfl,_,rfl,t1,_,_,_,rfl,rfl,GF.of Ib,aD (j:=1) rfl,la,lb,_,_,rfl,rfl,OE,TH,(by rw [Aa,Aa,D4];lia),λ q nq=>?_⟩
  have e3:V.int ((ba.1:Int)+(bb.1:Int))=vN (ba.1+bb.1):=Bx V.int Z5;have s3:=ak (o:=.lst (ba.2.map vN++bb.2.map vN)) nq;have h3q:(upd H2 q (.lst (ba.2.map vN++bb.2.map vN))) q=↥((ba.2++bb.2).map vN):=by rw [af,Aw]
  have Ir:=s3 _ _ Hy;generalize upd H2 q (.lst (ba.2.map vN++bb.2.map vN))=H3 at*;refine⟨(by show 2≤sizeLine;decide),λ t nt=>?_⟩
  try dsimp only
  rw [e3];have s4:=ak (o:=.tup [vN (ba.1+bb.1),V.ref q]) nt;have h4t:(upd H3 t (.tup [vN (ba.1+bb.1),V.ref q])) t=some (.tup [vN (ba.1+bb.1),V.ref q]):=af;have KC:=s4 _ _ Ir;have XN:=s4 _ _ h3q;have Vt:q≠l:=λ z=>by rw [z,Hy] at nq;cases nq
  generalize upd H3 t (.tup [vN (ba.1+bb.1),V.ref q])=H4 at*;have Vm:C' H2 H4:=s3.trans s4;refine⟨l,_,_,rfl,rfl,KC,bA (by rw [Aa];lia),some (vN (2*i+1)),↑t0,↑t1,us++[t],rfl,?_,?_,λ c o e=>?_⟩
  ·rw [af,Aw];rfl
  ·rw [Bl,hpa];have kk:∀c o,c∉ [l,av]->H4 c='g'->(upd H4 l (.lst (us.map V.ref++[V.ref t]))) c='g':=λ c o n e=>by rw [aj (λ z=>n (by simp [z]))];exact e
   have U2:=sm _ _ Xu;have Sn:t∉ [l,av]:=λ z=>by
    simp only [AB,List.not_mem_nil,or_false] at z;rcases z with rfl|rfl
    ·rw [Ir] at nt;cases nt
    ·rw [s3 _ _ U2] at nt;cases nt
   have ZF:q∉ [l,av]:=λ z=>by
    simp only [AB,List.not_mem_nil,or_false] at z;rcases z with rfl|rfl
    ·exact Vt rfl
    ·rw [U2] at nq;cases nq
   exact(LW.keepA λ c o n e=>kk _ _ n (Vm _ _ e)).app (.cons ⟨q,Sn,ZF,kk _ _ Sn h4t,kk _ _ ZF XN⟩ .nil)
  ·rw [aj (ai e nl)];exact Vm _ _ (sm _ _ e)
 ·rintro σ H2 ⟨v2,v3,v4,us,rfl,Hy,LW,sm⟩;rw [A3 (by rw [dW _ (B:=B) (Ak _)];exact A5 (congrFun (Bx HDiv.hDiv Nz.symm) 2))] at LW;exact g1 _ _ ⟨_,rfl,k l us H2 sm nl Hy (LW.sub λ a h=>by simp at h;simp [h])⟩
theorem Gu.zip {H:Hp}{A:List FR}{bs:List Bd}(h:Gu H A ts bs):∀z∈ts.zip bs,Wc H A z.1 z.2:=by
 induction h with
 |nil=>intro z hz;simp at hz
 |cons a _ ih=>
  intro z hz;rw [List.zip_cons_cons] at hz;rcases AB.mp hz with rfl|hz
  ·exact a
  ·exact ih z hz
theorem lB:∀(as:List FR) bs,(bs.map (λ b=>(b.1:Int))).zip (as.map V.ref)=(as.zip bs).map (λ z:FR×Bd=>((z.2.1:Int),V.ref z.1))
 | [],bs=>by simp
 |a::as,[]=>by simp
 |a::as,b::bs=>by
  have:=lB as bs;simp only [Bz,List.zip_cons_cons,this]
theorem Gu.take {H:Hp}{A:List FR}{bs:List Bd}(h:Gu H A ts bs):∀n,Gu H A (ts.take n) (bs.take n):=by
 induction h with
 |nil=>intro n;rw [List.take_nil,List.take_nil];exact .nil
 |cons a _ ih=>
  intro n;cases n with
  |zero=>exact .nil
  |succ n=>exact .cons a (ih n)
theorem kW {H:Hp}{A:List FR}:∀{Z:List (FR×Bd)},(∀z∈Z,Wc H A z.1 z.2)->Gu H A (Z.map (·.1)) (Z.map (·.2))
 | [],_=>.nil
 |z::Z,h=>.cons (h z AE) (kW λ y hy=>h y (Az _ hy))
def u8 {L:'c'}(lv:NO (L.map (sgl wt)) k B):(∀b∈B,b.2.length≤2^k)/\B.length≤2*L.length:=by
 have ps:∀n q B,B.length≤n->(∀b∈B,b.2.length≤q)->∀b∈pairs B,b.2.length≤2*q:=by
  intro n
  induction n with
  |zero=>intro q B hB _ b hb;have:B=[]:=Cs.mp (Nat.eq_zero_of_le_zero hB);subst this;simp [pairs] at hb
  |succ n ih=>
   intro q B hB h b hb
   match B,hB,h,hb with
   | [],_,_,hb=>simp [pairs] at hb
   | [x],_,_,hb=>simp [pairs] at hb
   |x::y::r,hB,h,hb=>
    rcases AB.mp hb with rfl|hb
    ·have h1:=h x AE;have h2:=h y (Az _ AE);show(x.2++y.2).length≤_;rw [Ac];lia
    ·exact ih q r (by simp at hB;exact Cz hB) (λ b hb=>h b (Az _ (Az _ hb))) b hb
 induction lv with
 |zero=>exact⟨λ b hb=>by simp at hb,A1 _⟩
 | @step k B B' _ hp hs ih=>
  have HZ:=dW _ (B:=B) (Ak _);have hl:=hp.length_eq;rw [Ac,Aa,HZ] at hl;refine⟨λ b hb=>?_,by have:=ih.2;lia⟩;have h1:1≤2^(k+1):=Nat.one_le_two_pow;rcases AR.mp (hp.subset hb) with hb|hb
  ·obtain⟨p,_,rfl⟩:=BH.mp hb;exact h1
  ·have:=ps _ _ B (Ak _) ih.1 b hb;rw [BZ];lia
inductive Ms (vs:List V) (H:Hp) (Q:VK) (Gj:XK):Prop
 |mk (p av:FR) (ts:List FR) (L:'c') (wt:Nat->Nat) (m:Nat) (h0:vs=[.ref p,vN m]) (h1:H p=↥(ts.map V.ref)) (h2:(∃o,H av='g')) (h3:Gu H [av] ts (L.map (sgl wt))) (h4:GV (L.map (sgl wt))) (h5:1≤L.length) (h6:L.length≤30) (h7:1≤m) (h8:m≤12) (h9:∀l us B H',C' H H'->H l=none->H' l=↥(us.map V.ref)->Gu H' [av] us (B.take (max 1 (2*L.length-2)))->Jc (L.map (sgl wt)) m B->Q (.ref l) H'):Ms vs H Q Gj
def Jh:y' ["singles","most","bundles","step"] ["singles","most"] (am li):=Gw Z8
def t7 {P:FU}{w:FV}{f fP fW:FR}(F:'h' "lightest_bundles" li ["singles","most"] f fd)(Pa:'h' "in_pairs" jo ["bundles"] fP XT)(We:'h' "weight_of" gB ["bundle"] fW JV)(T:Txt K mg):'a' Gn 31 f fd ["singles","most"] Ms:=by
 refine F.F.ok Jh ?_
 intro 'b';obtain⟨p,av,ts,L,wt,m,rfl,hp,⟨oav,Xu⟩,hB,SA,n1,n2,m1,m2,k⟩:=h;have Gz:Ge 1 _:=hr.mono Z9;have HS:Ge 3 _:=hr.mono Z9;have hn:=hr.hd Z9;refine⟨_,ad (aq (i:=2) Jh.nd (cK dt Z7 T.list Cy (aa (pv 0) ac)))
  (ad (bp AV rfl (cZ Z7 T.range (aa (ao bd (pv 1) ae) ac)) (aG (i:=3) Jh.nd)
   (ag (aq (i:=2) Jh.nd (jX (sp:=IC) (jO We) HS We.b Z7 T.sort (aJ (v:=.ref fW) Z7 We.m rfl) (aa (ao bz (pv 0) (ap (sW Pa T) Gz Z7 Pa.m Pa.F.kp Pa.b .nil az (aa (pv 2) ac))) ac)))))
  (ag (aB (cf dI (pv 2) fu (bM (ay (fD hn) Z7 T.max C4 (aa ae (aa (ao bd (ao eV ae (ay ax Z7 T.len Ay (aa (pv 0) ac))) ae) ac)))))))),?_⟩
 have Nz:=hB.len;rw [Aa] at Nz;refine aw λ _ g1=>⟨_,rfl,p,_,rfl,.inl (Gf.of hp),λ l0 Px=>g1 _ _ ?_⟩
 clear g1;have s0:=ak (o:=.lst (ts.map V.ref)) Px;have lv1:Jc (L.map (sgl wt)) 1 (L.map (sgl wt)):=.step .zero (by rw [show pairs ([]:List Bd)=[] from rfl,Bv];exact SM.Stb.refl _) SA;have e1:(m:Int)-1=⇑(m-1):=(DM m1).symm;refine aw λ _ g1=>⟨_,rfl,_,_,rfl,rfl,?_⟩
 try dsimp only
 rw [e1];refine⟨⇑(m-1),rfl,Int.neg_ofNat_le_natCast (2^62) _,Z5,?_⟩;rw [AM];refine du (D:=⟨_,_,λ _ _=>False,λ _ _=>False⟩) (lo:=0) (n:=m-1) (λ i σ H2=>∃(lb:FR) (us:List FR) (B:List Bd) (v3:Option V),σ=[↑p,some (vN m),↑lb,v3]/\H2 lb=↥(us.map V.ref)/\Gu H2 [av] us B/\Jc (L.map (sgl wt)) (i+1) B/\C' H H2)
  ⟨l0,ts,_,none,rfl,af,hB.keep s0,lv1,s0⟩ ?_ ?_
 ·clear g1;rintro i σ H2 hi ⟨lb,us,B,v3,rfl,JI,LW,lv,sm⟩;obtain⟨hsz,O2⟩:=u8 lv.lev;have hsz2:∀b∈B,b.2.length≤8000000:=λ b hb=>by
   have h1:=hsz b hb;have h2:2^(i+1)≤2^12:=Cv Z9 Z5;have h3:(2:Nat)^12=4096:=Z9;exact Ai h1 (Ai h2 Z9)
  have HZ:=dW _ (B:=B) (Ak _);refine⟨_,rfl,_,rfl,lb,av,us,B,rfl,JI,⟨_,sm _ _ Xu⟩,LW,Z5,hsz2,λ l ps H3 s3 nl hl ML=>?_⟩;have hpsl:=ML.len;refine⟨p,l,_,_,rfl,rfl,s3 _ _ (sm _ _ hp),hl,(by rw [Aa,Aa,D4];lia),λ q nq=>?_⟩;have s4:=ak (o:=.lst (ts.map V.ref++ps.map V.ref)) nq;have Hc:Gu (upd H3 q (.lst (ts.map V.ref++ps.map V.ref))) [av] (ts++ps) (L.map (sgl wt)++pairs B):=((hB.keep (sm.trans s3)).app ML).keep s4;have XN:(upd H3 q (.lst (ts.map V.ref++ps.map V.ref))) q=↥((ts++ps).map V.ref):=by rw [af,Aw]
  have Vm:=(sm.trans s3).trans s4;generalize upd H3 q (.lst (ts.map V.ref++ps.map V.ref))=H4 at*;have Kz:=Hc.len;refine⟨q,(ts++ps).map V.ref,(L.map (sgl wt)++pairs B).map (λ b=>(b.1:Int)),rfl,Gf.of XN,by rw [Aa,Aa];exact Kz,by rw [Aa,Ac];lia,λ j v kk hv hk=>?_,λ lo mm WH Qj M0=>?_⟩
  ·rw [AU] at hk;cases e:(L.map (sgl wt)++pairs B)[j]? with
   |none=>rw [e] at hk;cases hk
   |some b=>
    rw [e] at hk;obtain⟨t,ht,lt,_,_,h1,h2⟩:=Hc.at e;rw [gs ht] at hv;cases hv;cases hk;exact⟨t,lt,b.1,rfl,h1,rfl,rfl⟩
  ·have hz:((L.map (sgl wt)++pairs B).map (λ b=>(b.1:Int))).zip ((ts++ps).map V.ref)=((ts++ps).zip (L.map (sgl wt)++pairs B)).map (λ z:FR×Bd=>((z.2.1:Int),V.ref z.1)):=lB _ _;rw [hz] at M0;obtain⟨Z',rfl,KJ⟩:=SM.Jy SG.KI _ M0;have hZ:=(SM.GX SG.KI KJ).symm;have VW:SM.Stb SG.ltI wI (Z'.map (·.2)) (L.map (sgl wt)++pairs B):=by
    have:=SM.KW (kg:=wI) (λ z:FR×Bd=>z.2) (λ _=>rfl) KJ;rw [EU (A5 Kz.symm)] at this;exact this
   have Xw:(Z'.map (·.2)).Perm (L.map (sgl wt)++pairs B):=by
    have:=(hZ.symm.map (·.2));rw [EU (A5 Kz.symm)] at this;exact this
   have M1:GV (Z'.map (·.2)):=by
    rw [BO,EE] at Qj;unfold GV;rw [EE];exact Qj.imp (λ {a b} h=>by have h':(a.2.1:Int)≤(b.2.1:Int):=h;exact Int.ofNat_le.mp h')
   have s5:=ak (o:=.lst ((Z'.map (λ z:FR×Bd=>(⇑z.2.1,V.ref z.1))).map (·.2))) WH;refine⟨lo,Z'.map (·.1),Z'.map (·.2),some (.int (0+(i:Int))),rfl,?_,?_,.step lv VW M1,Vm.trans s5⟩
   ·rw [af,BO,BO];rfl
   ·exact(kW λ z hz=>Hc.zip z (hZ.symm.subset hz)).keep s5
 ·rintro σ H2 ⟨lb,us,B,v3,rfl,JI,LW,lv,sm⟩;rw [show m-1+1=m by lia] at lv;refine g1 _ _ ?_;clear g1;obtain⟨_,O2⟩:=u8 lv.lev;have hul:=LW.len;refine⟨_,rfl,_,rfl,p,_,rfl,.inl (Gf.of (sm _ _ hp)),_,_,rfl,rfl,.inl ⟨Z9,Z9⟩,_,_,rfl,rfl,_,_,rfl,?_⟩;have e2:(if(2:Int)*⇑((ts.map V.ref).length)-2>1 then(2:Int)*⇑((ts.map V.ref).length)-2 else 1)=⇑(max 1 (2*L.length-2)):=by
   rw [Aa,Nz];split<;>lia
  try dsimp only
  rw [e2];refine⟨_,rfl,lb,_,rfl,Gf.of JI,λ l5 n5=>?_⟩
  try dsimp only
  rw [nj,<-Eh];have s5:=ak (o:=.lst ((us.take (max 1 (2*L.length-2))).map V.ref)) n5;exact k l5 _ B _ (sm.trans s5) (none_of sm n5) af ((LW.take _).keep s5) lv
structure Ub (K:Frag)(mg:Str->Option FS)(x:Str)(st:F5)(ps:List Str)(f:FR)(fd:FW):Prop where
 F:∃dV,KO K x x st dV f fd
 m:mg x=↑f
 b:Binds K fd ps []
 d:∃t,Binds K fd ps [.int 6 t]
theorem Ub.kp (F:Ub K mg x st ps f fd):keepIn K (.ref f)=true:=F.F.elim λ _ z=>z.kp
def cw (C:'c')(p:Nat):Nat:=C.getD p 0
def pos (C:'c'):'c':=(List.range C.length).filter (λ p=>decide (0<cw C p))
def M4 (C:'c')(m:Nat)(ln:Nat->Nat):Prop:=∃(L:List Nat) (B:List Bd),GV (L.map (sgl (cw C)))/\SM.Stb SG.ltI wI (L.map (sgl (cw C))) ((pos C).map (sgl (cw C)))/\Jc (L.map (sgl (cw C))) m B/\ln=occ (B.take (max 1 (2*L.length-2)))
theorem M4.uniq (h:M4 C m ln)(h':M4 C m ZR):ln=ZR:=by
 obtain⟨L,B,a1,a2,a3,a4⟩:=h;obtain⟨L',B',b1,b2,b3,b4⟩:=h';have e:=SM.Jx SG.KI (pT a1) (pT b1) (a2.trans b2.symm);have el:=Bx List.length e;rw [Aa,Aa] at el;rw [<-e] at b3;have:=a3.uniq b3;subst this;rw [a4,b4,el]
def Gu.fresh {H:Hp}{A:List FR}(h:Gu H A ts bs)(n:H av=none):Gu H [av] ts bs:=by
 induction h with
 |nil=>exact .nil
 |cons a _ ih=>
  obtain⟨l,_,_,h1,h2⟩:=a;exact .cons ⟨l,λ z=>ai h1 n (As.mp z),λ z=>ai h2 n (As.mp z),h1,h2⟩ ih
def ixN_nat (h:j<n):ixN n (j:Int)=some j:=by
 unfold ixN;rw [AK (BG _),AK (D8.mpr h)];simp
def set_range {f f':Nat->Nat}(h:∀p,f' p=f p+ [q].count p):((List.range n).map λ p=>vN (f p)).set q (vN (f q+1))=(List.range n).map λ p=>vN (f' p):=by
 refine B5 λ i=>?_
 rw [Fw,Aa,CS,AU,AU];by_cases hi:i<n
 ·rw [Dn hi];by_cases e:q=i
  ·subst e;rw [AK rfl,AK hi,CU,h q];simp
  ·rw [AH e,CU,CU,h i];have: [q].count i=0:=CK (by simp;exact λ z=>e z.symm);rw [this,DB]
 ·have e2:(List.range n)[i]?=none:=A4 (by rw [CS];exact BF hi);rw [e2];by_cases e:q=i
  ·subst e;rw [AK rfl,AH hi];rfl
  ·rw [AH e];rfl
inductive J8 (vs:List V) (H:Hp) (Q:VK) (Gj:XK):Prop
 |mk (a:FR) (C:List Nat) (m:Nat) (h0:vs=[.ref a,vN m]) (h1:H a=↥(C.map vN)) (h2:(∀b∈C,b≤1000000)) (h3:1≤C.length) (h4:C.length≤300) (h5:(∃b∈C,0<b)) (h6:1≤m) (h7:m≤12) (h8:(C.filter (λ b=>decide (0<b))).length≤2^m) (h9:(pos C).length≤30) (PN:1≤(pos C).length) (OH:(pos C).length≤2^m) (QB:∀l ln H',H l=none->C' H H'->H' l=↥((List.range C.length).map λ p=>vN (ln p))->LC (pos C) (cw C) m ln->M4 C m ln->Q (.ref l) H'):J8 vs H Q Gj
def Hu:y' ["counts","most","singles","lengths","bundle","place"] Jam (am i6):=Gw Z8
def yZ:(["place","count"]:List Str).Nodup:=Z8
def yW:TE:=iq (aP (Gs 1) (aP (gh (aP (Gs 0) bF)) bF))
def zg:TT:=fE (Im (LV λ i j=>.bl (decide (j<i))) (Gs 1) (tC (.int 0)))
def LO {P:FU}{w:FV}{K:Frag}{f fN fT fA RC fL fP fW:FR}(F:Ub K mg "lengths_of" i6 Jam f fd)(Ne:'h' "need_shares" qh Jam fN Ng)(Th:'h' "are_of_things" eE ["thing","most"] fT PV)(AW:'h' "are_whole" bV Jaa fA PX)(W:'h' "is_whole" bQ Jaa RC fdW')
  (Li:'h' "lightest_bundles" li ["singles","most"] fL fdL) (Pa:'h' "in_pairs" jo ["bundles"] fP XT) (We:'h' "weight_of" gB ["bundle"] fW JV) (T:Txt K mg):'a' Gn 33 f fd Jam J8:=by
 obtain⟨dV,F0⟩:=F.F;refine F0.ok Hu ?_
 intro 'b';obtain⟨a,C,m,rfl,ha,hC,c1,c3,Ij,m1,m2,Pk,p30,p1,pm,k⟩:=h;have IZ:Ge 31 _:=hr.mono Z9;have HS:Ge 3 _:=hr.mono Z9;refine⟨_,ad (aE (ap (wc Ne Th AW W T) hr Z7 Ne.m Ne.F.kp Ne.b .nil az (aa (pv 0) (aa (pv 1) ac))))
  (ad (aq (i:=2) Hu.nd (jX (sp:=IC) (jO We) HS We.b Z7 T.sort (aJ (v:=.ref fW) Z7 We.m rfl) (aa (iM (N:=["place","count"]) (g:=Ly K 2 (HF (bw 0) (HF (bw 1) Lz))) (tt:=zg) (te:=yW) rfl rfl Z8 Z8 Z8
   (iz Z7 T.enum (aa (pv 0) ac)) (λ fp s H=>dR rfl (bh (aG (i:=0) yZ) (bh (aG (i:=1) yZ) df)))
   (λ fp s H=>aA dk (pv 1) ae (aC _)) (λ fp s H=>aO (aa (pv 1) (aa (aH (aa (pv 0) ac)) ac)))) ac)))
  (ad (aq (i:=3) Hu.nd (ao cU (aH (aa ae ac)) (ay ax Z7 T.len Ay (aa (pv 0) ac))))
  (ad (bp AV rfl (bi (ap (t7 Li Pa We T) IZ Z7 Li.m Li.F.kp Li.b .nil az (aa (pv 2) (aa (pv 1) ac)))) (aG (i:=4) Hu.nd)
   (ag (bp AV rfl (bi (aU bL (pv 4) ae (λ _ _=>rfl))) (aG (i:=5) Hu.nd)
    (ag (fh (ao aI (aU aW (pv 3) (pv 5) (λ _ _=>rfl)) ae) (gP (pv 3) (pv 5) eg))))))
  (ag (aB (pv 3)))))),?_⟩
 refine aw λ _ g1=>⟨_,rfl,_,rfl,a,C,m,rfl,ha,hC,c1,c3,Ij,m1,m2,Pk,λ H1 s1=>g1 _ _ ?_⟩
 clear g1;have TK:=s1 _ _ ha;refine aw λ _ g1=>⟨_,rfl,a,_,rfl,Gf.of TK,λ l nl=>?_⟩
 refine uP (K:=K) (a:=a) (l:=l) (xs:=C.map vN) (n:=2) (g:=Ly K 2 (HF (bw 0) (HF (bw 1) Lz))) (tt:=zg) (te:=yW)
  (λ i ys H2=>∃ts,ys=ts.map V.ref/\H2 l=↥ys/\C' H1 H2/\Gu H2 [l] ts (((List.range i).filter (λ p=>decide (0<cw C p))).map (sgl (cw C))))
  ⟨[],rfl,af,ak nl,.nil⟩ (λ i ys H2 _ z9=>by obtain⟨_,_,_,sm,_⟩:=z9;exact Gf.of (sm _ _ TK)) ?_ ?_ ?_ ?_ ?_
 ·clear g1;rintro i x ys σ H2 p hx ⟨ts,rfl,hl,sm,hb⟩ hσ hp;obtain⟨c,hc,rfl⟩:=ck hx;have HI:i<C.length:=(Af.mp hc).1;have Xr:cw C i=c:=by rw [cw,AO,hc];rfl
  obtain⟨u0,u1,rfl⟩:∃u0 u1,σ=[u0,u1]:=match σ,hσ with| [u0,u1],_=>⟨u0,u1,rfl⟩
  have sp:=ak (o:=.tup [.int ⇑i,vN c]) hp;have Xb:=sp _ _ hl;have OV:(upd H2 p (.tup [.int (i:Int),vN c])) p=some (.tup [vN i,vN c]):=af;generalize upd H2 p (.tup [.int (i:Int),vN c])=H3 at*;refine⟨p,_,rfl,GF.of OV,rfl,_,_,rfl,_,_,rfl,rfl,?_⟩;refine⟨_,rfl,_,_,rfl,rfl,_,rfl,?_⟩;have Nz:=hb.len;rw [Aa] at Nz;have PD:((List.range i).filter (λ p=>decide (0<cw C p))).length≤300:=Ai (DE _ _) (by rw [CS];exact Ai (B9 HI) c3)
  try dsimp only
  rw [E7,AQ];by_cases h0:0<c
  ·rw [AK (Ae (show(0:Int)<(c:Int) from FL.mpr h0)),AL (by rw [Xr];exact Ae h0)];refine⟨_,rfl,_,rfl,(by show 1≤sizeLine;decide),λ q nq=>⟨(by show 2≤sizeLine;decide),λ t nt=>?_⟩⟩;have sq:=ak (o:=.lst [vN i]) nq;have SS:=sq _ _ Xb;have hqq:(upd H3 q (.lst [vN i])) q=↥[vN i]:=af;have Vt:q∉ [l]:=λ z=>by rw [As.mp z,Xb] at nq;cases nq
   generalize upd H3 q (.lst [vN i])=H4 at*;have st:=ak (o:=.tup [vN c,V.ref q]) nt;have F9:=st _ _ SS;have hqt:=st _ _ hqq;have Kv:(upd H4 t (.tup [vN c,V.ref q])) t=some (.tup [vN c,V.ref q]):=af;have Sn:t∉ [l]:=λ z=>by rw [As.mp z,SS] at nt;cases nt
   generalize upd H4 t (.tup [vN c,V.ref q])=H5 at*;have Q2:C' H2 H5:=(sp.trans sq).trans st;have kk:∀c' o,c'∉ [l]->H5 c'='g'->(upd H5 l (.lst (ts.map V.ref++[V.ref t]))) c'='g':=λ c' o n e=>by rw [aj (λ z=>n (by simp [z]))];exact e
   refine⟨F9,bA (by rw [Aa];lia),rfl,ts++[t],by rw [Aw];rfl,af,λ c' o e=>?_,?_⟩
   ·rw [aj (ai e nl)];exact Q2 _ _ (sm _ _ e)
   ·rw [Aw];refine(hb.keepA λ c' o n e=>kk _ _ n (Q2 _ _ e)).app (.cons ⟨q,Sn,Vt,?_,kk _ _ Vt hqt⟩ .nil);show _=some (HO.tup [vN (cw C i),V.ref q]);rw [Xr];exact kk _ _ Sn Kv
  ·rw [AH (λ z=>absurd (Am z) Z4),AS (by rw [Xr];simpa using h0)];refine⟨rfl,ts,rfl,Xb,sm.trans sp,?_⟩;rw [List.filter_nil,Bv];exact hb.keep sp
 rotate_left
 ·rintro x σ H3 A' B' hAB ⟨a',xs,e,hq,Xg,v,r,e2,v2,r2,e3,e4,h⟩;exact⟨a',xs,e,hq,Xg,v,r,e2,v2,r2,e3,e4,hAB _ _ h⟩
 ·exact λ σ H A B h z9=>by obtain⟨v,e1,i,j,e2,e3,c,e4,z⟩:=z9;exact⟨v,e1,i,j,e2,e3,c,e4,h _ _ z⟩
 ·exact λ σ H A B h z9=>by obtain⟨v,e1,v2,e2,n1,z⟩:=z9;exact⟨v,e1,v2,e2,n1,λ q nq=>⟨(z q nq).1,λ t nt=>h _ _ ((z q nq).2 t nt)⟩⟩
 rintro ys H2 ⟨ts,rfl,hl,sm,hb⟩;rw [Aa] at hb;have NG:Gu H2 [l] ts ((pos C).map (sgl (cw C))):=hb;clear hb;have Kz:=NG.len;rw [Aa] at Kz;refine⟨l,ts.map V.ref,((pos C).map (sgl (cw C))).map (λ b=>(b.1:Int)),rfl,Gf.of hl,by rw [Aa,Aa,Aa];exact Kz,by rw [Aa];lia,λ j v kk hv hk=>?_,λ lo mm WH Qj M0=>g1 _ _ ?_⟩
 ·rw [AU] at hk;cases e:((pos C).map (sgl (cw C)))[j]? with
  |none=>rw [e] at hk;cases hk
  |some b=>
   rw [e] at hk;obtain⟨t,ht,lt,_,_,h1,h2⟩:=NG.at e;rw [gs ht] at hv;cases hv;cases hk;exact⟨t,lt,b.1,rfl,h1,rfl,rfl⟩
 clear g1;rw [lB] at M0;obtain⟨Z',rfl,KJ⟩:=SM.Jy SG.KI _ M0;have hZ:=(SM.GX SG.KI KJ).symm;have VW:SM.Stb SG.ltI wI (Z'.map (·.2)) ((pos C).map (sgl (cw C))):=by
  have:=SM.KW (kg:=wI) (λ z:FR×Bd=>z.2) (λ _=>rfl) KJ;rw [EU (by rw [Aa];exact A5 Kz.symm)] at this;exact this
 have Xw:(Z'.map (·.2)).Perm ((pos C).map (sgl (cw C))):=by
  have:=(hZ.symm.map (·.2));rw [EU (by rw [Aa];exact A5 Kz.symm)] at this;exact this
 have M1:GV (Z'.map (·.2)):=by
  rw [BO,EE] at Qj;unfold GV;rw [EE];exact Qj.imp (λ {a b} h=>by have h':(a.2.1:Int)≤(b.2.1:Int):=h;omega)
 obtain⟨L,UL,Rv,eL,eU⟩:=lV (RX:=Z'.map (·.2)) (UX:=[]) (by rw [Bv];exact Xw.symm);have eU':UL=[]:=by simpa using eU.symm
 subst eU';rw [Bv] at Rv;have s5:=ak (o:=.lst ((Z'.map (λ z:FR×Bd=>(⇑z.2.1,V.ref z.1))).map (·.2))) WH;have Rr:=(kW λ z hz=>NG.zip z (hZ.symm.subset hz)).keep s5;have LY:(upd H2 lo (.lst ((Z'.map (λ z=>((z.2.1:Int),V.ref z.1))).map (·.2)))) lo=↥((Z'.map (·.1)).map V.ref):=by
  rw [af,BO,BO];rfl
 have sm3:=sm.trans s5;generalize upd H2 lo (.lst ((Z'.map (λ z=>((z.2.1:Int),V.ref z.1))).map (·.2)))=H3 at*;rw [eL] at Rr M1 VW;generalize Z'.map (·.1)=ss at*;clear hZ Xw M0 KJ Qj eL eU hl NG sm s5 Kz;have XA:=Rv.length_eq;have IL:=s1.trans sm3;have ha3:=IL _ _ ha;refine aw λ _ g1=>⟨(by show 1≤sizeLine;decide),λ l4 n4=>?_⟩
 have s4:=ak (o:=.lst [V.int 0]) n4;have MS:(upd H3 l4 (.lst [V.int 0])) l4=↥[vN 0]:=af;generalize upd H3 l4 (.lst [V.int 0])=H4 at*;refine⟨_,rfl,a,_,rfl,.inl (Gf.of (s4 _ _ ha3)),l4,_,_,rfl,rfl,MS,Z5,by rw [Aa];exact Int.ofNat_lt.2 (Be c3 Z9),(by rw [Aa,AM];exact dO (by show 1*C.length≤2000;lia)),λ l5 n5=>g1 _ _ ?_⟩;clear g1;have ez:(List.replicate (((C.map vN).length:Nat):Int).toNat [vN 0]).flatten=(List.range C.length).map λ p=>vN (occ [] p):=by
  rw [AM,Aa];show(List.replicate C.length [vN 0]).flatten=(List.range C.length).map λ _=>vN 0
  rw [FK,CS];generalize C.length=n
  induction n with
  |zero=>rfl
  |succ n ih=>rw [Bh,CQ,ih,Bh];rfl
 try dsimp only
 rw [ez];have s5:=ak (o:=.lst ((List.range C.length).map λ p=>vN (occ [] p))) n5;have Ry:(upd H4 l5 (.lst ((List.range C.length).map λ p=>vN (occ [] p)))) l5=↥((List.range C.length).map λ p=>vN (occ [] p)):=af;have TF:=((Rr.keep s4).fresh n5).keep s5;have UM:=s5 _ _ (s4 _ _ LY);have Qg:=(IL.trans s4).trans s5;have Su:H l5=none:=none_of (IL.trans s4) n5;generalize upd H4 l5 (.lst ((List.range C.length).map λ p=>vN (occ [] p)))=H5 at*;clear s4 s5 MS n4 n5 ez;refine aw λ _ g1=>⟨_,rfl,_,rfl,lo,l5,ss,L,cw C,m,rfl,UM,⟨_,Ry⟩,TF,M1,le_of_le_of_eq p1 XA,Z5,m1,m2,λ lb ub B H6 s6 Vv JI hub lv=>?_⟩
 have h65:=s6 _ _ Ry;have Sf:=Qg.trans s6;have Vg:LC L (cw C) m (occ (B.take (max 1 (2*L.length-2)))):=by
  refine tU (Rv.nodup_iff.mp ?_) (λ p hp=>?_) lv.lev (le_of_le_of_eq p1 XA) m1 (Cq XA.symm pm)
  ·exact List.Pairwise.filter _ List.nodup_range
  ·have:=(Cb.mp (Rv.symm.subset hp)).2;exact Am this
 have hwR:∀b∈B.take (max 1 (2*L.length-2)),∀q∈b.2,q<C.length:=λ b hb q hq=>by
  have:=xI lv.lev b (DQ hb) q hq;exact C7.mp (Cb.mp (Rv.symm.subset this)).1
 have Xc:M4 C m (occ (B.take (max 1 (2*L.length-2)))):=⟨L,B,M1,VW,lv,rfl⟩;generalize B.take (max 1 (2*L.length-2))=R at*;have Uu:=hub.len;have Pj:lb≠l5:=(ai Ry Vv).symm;clear TF UM Ry M1 Rr LY;refine⟨lb,rfl,⟨_,Gf.of JI⟩,bH (D:=⟨_,_,λ _ _=>False,λ _ _=>False⟩) (K:=K) (a:=lb) (xs:=ub.map V.ref) (λ i σ H7=>∃v4 v5,σ=[↑a,some (vN m),↑lo,↑l5,v4,v5]/\H7 l5=↥((List.range C.length).map λ p=>vN (occ (R.take i) p))/\∀c o,c≠l5->H6 c='g'->H7 c='g')
  ⟨none,none,rfl,h65,λ _ _ _ e=>e⟩ (λ i σ H7 _ z9=>by obtain⟨_,_,_,_,kp⟩:=z9;exact Gf.of (kp _ _ Pj JI)) ?_ ?_⟩
 ·clear g1;rintro i y σ H7 hi ⟨v4,v5,rfl,h7,kp⟩;have HI:i<R.length:=by have:=(Af.mp hi).1;rw [Aa] at this;exact Av this Uu
  have hRi:R[i]?=some R[i]:=Ad HI;obtain⟨t,ht,lq,nt,nq,h1,h2⟩:=hub.at hRi;have hy:y=.ref t:=by rw [gs ht] at hi;exact(AJ hi).symm
  subst hy;have F9:=hwR _ (BL HI);have e1:∀p,occ (R.take (i+1)) p=occ (R.take i) p+R[i].2.count p:=λ p=>by
   rw [Bl,hRi];show occ (R.take i++[R[i]]) p=_;rw [jv,d9];rfl
  generalize R[i]=bb at*;have ZG:lq≠l5:=λ z=>nq (by simp [z])
  have nt':t≠l5:=λ z=>nt (by simp [z])
  refine⟨_,rfl,t,_,_,_,rfl,rfl,GF.of (kp _ _ nt' h1),aD (j:=1) rfl,lq,rfl,⟨_,Gf.of (kp _ _ ZG h2)⟩,bH (D:=⟨_,_,λ _ _=>False,λ _ _=>False⟩) (K:=K) (a:=lq) (xs:=bb.2.map vN) (λ j σ H8=>∃v5,σ=[↑a,some (vN m),↑lo,↑l5,↑t,v5]/\H8 l5=↥((List.range C.length).map λ p=>vN (occ (R.take i) p+(bb.2.take j).count p))/\∀c o,c≠l5->H6 c='g'->H8 c='g')
   ⟨v5,rfl,by simpa using h7,kp⟩ (λ j σ H8 _ z9=>by obtain⟨_,_,_,kp⟩:=z9;exact Gf.of (kp _ _ ZG h2)) ?_ ?_⟩
  ·rintro j y σ H8 hj ⟨v5,rfl,h8,Nx⟩;obtain⟨q,hq,rfl⟩:=ck hj;have Ri:q<C.length:=F9 q (AX hq);have hg:((List.range C.length).map λ p=>vN (occ (R.take i) p+(bb.2.take j).count p))[q]?=some (vN (occ (R.take i) q+(bb.2.take j).count q)):=by
    rw [AU,Dn Ri];rfl
   have e2:⇑(occ (R.take i) q+(bb.2.take j).count q)+1=⇑(occ (R.take i) q+(bb.2.take j).count q+1):=Int.ofNat_add_one_out _;refine⟨_,rfl,_,rfl,l5,_,_,_,rfl,rfl,Gf.of h8,aD hg,_,_,rfl,rfl,?_⟩
   try dsimp only
   rw [e2];refine⟨_,rfl,_,rfl,l5,_,_,q,rfl,rfl,h8,ixN_nat (by rw [Aa,CS];exact Ri),some (vN q),rfl,?_,λ c o n e=>?_⟩
   ·rw [af,set_range (f:=λ p=>occ (R.take i) p+(bb.2.take j).count p) (f':=λ p=>occ (R.take i) p+(bb.2.take (j+1)).count p) λ p=>?_];rw [dY hq,CP,BW]
   ·rw [aj n];exact Nx _ _ n e
  ·rintro σ H8 ⟨v5,rfl,h8,Nx⟩;rw [Aa,AT] at h8;refine⟨_,_,rfl,?_,Nx⟩;rw [h8];congr 2;refine D5 λ p _=>?_
   rw [e1 p]
 ·rintro σ H7 ⟨v4,v5,rfl,h7,kp⟩;rw [Aa,Uu,AT] at h7;refine g1 _ _ ⟨_,rfl,k l5 _ H7 Su (λ c o e=>kp _ _ (ai e Su) (Sf _ _ e)) h7 (Vg.perm Rv.symm) Xc⟩
end K21.S
namespace K21.Tb
open PySem L2 QQ W13 BP
seal PE PA PS PSs PT PW PG PI
inductive IT (vs:List V) (H:Hp) (Q:VK) (Gj:XK):Prop
 |mk (a:FR) (L:'c') (h0:vs=[.ref a]) (h1:H a=↥(L.map vN)) (h2:L.length=272) (h3:(∀b∈L,b≤6)) (h4:Q .non H):IT vs H Q Gj
def mv:y' Jae Jae (am eK):=Gw Z8
def lg {P:FU}(F:'h' "need_table" eK Jae f fd)(Y:Rows K mg):'a' Gn 3 f fd Jae IT:=by
 obtain⟨T,⟨_,_,W⟩,⟨_,_,AW⟩,_⟩:=Y;obtain⟨tb,hb⟩:=T.bits;obtain⟨tm,hm⟩:=T.many;refine F.F.ok mv ?_
 intro 'b';obtain⟨a,L,rfl,hL,hl,h6,k⟩:=h;refine⟨_,ag (aM (PW.pt (jg (cv (bX (ap (dg AW W T) hr Z7 AW.m AW.F.kp AW.b .nil az (aa (pv 0) (aa ae (aa (aJ (v:=.int 6) Z7 hb ⟨tb,rfl⟩) ac))))))
  (fX (aA qw (ay ax Z7 T.len Ay (aa (pv 0) ac)) (aJ (v:=.int 272) Z7 hm ⟨tm,rfl⟩) (aC _))))) (ag bN) aF),?_⟩
 refine⟨_,rfl,a,L,0,6,rfl,hL,λ b z=>by have:=h6 b z;lia,_,rfl,cV ?_⟩;refine⟨_,rfl,a,_,rfl,.inl (Gf.of hL),rfl,_,rfl,yL ?_ k⟩;rw [Aa,hl];rfl
inductive Mx (vs:List V) (H:Hp) (Q:VK) (Gj:XK):Prop
 |mk (a:FR) (L:'c') (p ah:Nat) (h0:vs=[.ref a,vN p,vN ah]) (h1:H a=↥(L.map vN)) (h2:L.length=272) (h3:p≤272) (h4:Q (vN (min 66 (run ah (L.drop p)))) H):Mx vs H Q Gj
def Jj:y' ["lengths","place","ahead","most","again"] ["lengths","place","ahead"] (am kH):=Gw Z8
def tG {P:FU}(F:'h' "again_from" kH ["lengths","place","ahead"] f fd)(T:Txt K mg):'a' Gn 31 f fd ["lengths","place","ahead"] Mx:=by
 obtain⟨tm,hm⟩:=T.many;obtain⟨ta,hma⟩:=T.mostA;refine F.F.ok Jj ?_
 intro 'a';obtain⟨a,L,p,ah,rfl,hL,hl,hp,k⟩:=h;have hn:=hr.hd Z9;refine⟨_,ad (aq (i:=3) Jj.nd (ay (gW hn) Z7 T.min EJ (aa (aJ (v:=.int 66) Z7 hma ⟨ta,rfl⟩) (aa (ao bd (aJ (v:=.int 272) Z7 hm ⟨tm,rfl⟩) (pv 1)) ac))))
  (ad (aq (i:=4) Jj.nd ae)
  (ad (cA AV (PW.pt (lf (aA eO (pv 4) (pv 3) (aC _)) (iE (aA bE (aU aW (pv 0) (ao aI (pv 1) (pv 4)) (λ _ _=>rfl)) (pv 2) (aC _)))))
   (ag (aq (i:=4) Jj.nd (ao aI (pv 4) ae))))
  (ag (aB (pv 4))))),?_⟩
 refine aw λ _ g1=>⟨_,rfl,_,_,rfl,rfl,_,_,rfl,g1 _ _ ?_⟩
 clear g1;obtain⟨m,em,OA⟩:∃m:Nat,(if(272:Int)-(p:Int)<66 then(272:Int)-(p:Int) else 66)=(m:Int)/\m=min 66 (272-p):=⟨min 66 (272-p),by split<;>lia,rfl⟩
 try dsimp only
 rw [em];clear em;refine aw λ R1 g1=>g1 _ _ ?_
 clear g1;refine aw λ R1 g1=>?_
 have MK:=jk ah (L.drop p);rw [Au] at MK;refine⟨λ n σ H2=>∃i,n=m-i/\σ=[↑a,some (vN p),some (vN ah),some (vN m),some (vN i)]/\H2=H/\i≤m/\∀j<i,(L.drop p)[j]?=some ah,⟨m,0,rfl,rfl,rfl,A1 _,λ j hj=>absurd hj (Dc _)⟩,?_⟩;rintro n σ H2 ⟨i,rfl,rfl,rfl,hi,Hc⟩;refine⟨_,rfl,_,rfl,_,_,rfl,rfl,_,rfl,bc (λ h1=>?_) (λ h1=>?_)⟩
 ·have h2:i<m:=by have:=Am h1;exact D8.mp this
  have e1:(p:Int)+(i:Int)=⇑(p+i):=Z5;have l1:p+i<L.length:=Av (DG (Ap h2 (Ai (A5 OA) (BQ _ _)))) hl.symm;refine⟨_,rfl,_,rfl,_,rfl,_,_,rfl,rfl,?_⟩
  try dsimp only
  rw [e1];have hgd:(L.drop p)[i]?=some L[p+i]:=by rw [Dz,Ad l1]
  refine⟨a,_,_,_,rfl,rfl,Gf.of hL,aD (di l1),_,rfl,rfl,_,rfl,bc (λ h3=>?_) (λ h3=>?_)⟩
  ·have h4:L[p+i]=ah:=Gr.mp (Am h3);refine⟨λ σ' H'=>σ'=[↑a,some (vN p),some (vN ah),some (vN m),some (vN (i+1))]/\H'=H2,λ σ' H' z=>⟨m-(i+1),Bs _ _ h2,i+1,rfl,z.1,z.2, ‹_›,λ j hj=>?_⟩,?_⟩
   ·by_cases e:j=i
    ·subst e;rw [hgd,h4]
    ·exact Hc j (CY (B4 hj) e)
   ·exact⟨_,rfl,_,_,rfl,rfl,rfl,rfl⟩
  ·refine g1 _ _ ⟨_,rfl,?_⟩;have h4:(L.drop p)[i]?≠some ah:=by
    rw [hgd];intro z;exact h3 (Ae (Gr.mpr (AJ z)))
   rw [sD Hc h4,CJ (Ai (B9 h2) (Ai (A5 OA) (Db _ _)))] at k;exact k
 ·refine cV (g1 _ _ ⟨_,rfl,?_⟩);have h2:i=m:=by
   have KD:¬(decide ((i:Int)<(m:Int))=true):=h1;have:¬((i:Int)<(m:Int)):=λ z=>KD (Ae z)
   exact A8 hi (BF λ z=>this (Int.ofNat_lt.2 z))
  subst h2;have h5:=oG Hc;have e:min 66 (run ah (L.drop p))=i:=A8 (Ai (Nat.le_min.2 ⟨Db _ _,Ai (BQ _ _) (hl▸MK)⟩) (A5 OA.symm)) (Nat.le_min.2 ⟨Ai (A5 OA) (Db _ _),h5⟩);rw [e] at k;exact k
def vt:∀P,tots (puts P)≤9*P.length:=by
 intro P;have e:tots (puts P)=(P.map Itm.cost).sum:=ii P;rw [e];clear e
 induction P with
 |nil=>simp
 |cons x P ih=>
  have:x.cost≤9:=by cases x<;>simp [Itm.cost]
  simp;lia
inductive JD (C:FR) (vs:List V) (H:Hp) (Q:VK) (Gj:XK):Prop
 |mk (p:_) (d:_) (a:_) (N0:_) (T0:_) (L:_) (h0:vs=[.ref p,.ref a]) (h1:Gh C H p d N0 T0) (h2:T0≤1000) (h3:H a=↥(L.map vN)) (h4:L.length=272) (h5:(∀b∈L,b≤6)) (h6:a≠d) (h7:∀Pp b H',Walk L 0 0 Pp 272 b->Gh C H' p d (eS (puts Pp) N0) (T0+tots (puts Pp))->(∀c o,H c='g'->c≠p->c≠d->H' c='g')->Q .non H'):JD C vs H Q Gj
def GH:y' ["bits","lengths","place","ahead","again"] ["bits","lengths"] (am ib):=Gw Z8
def Lb {P:FU}(F:'h' "put_table" ib ["bits","lengths"] f fd)(NT:'h' "need_table" eK Jae fN Ng)(AF:'h' "again_from" kH ["lengths","place","ahead"] fA PX)(B:OK K mg C):'a' Gn 32 f fd ["bits","lengths"] (JD C):=by
 have X:=B.R.X;obtain⟨_,_,W⟩:=B.R.whole;obtain⟨_,_,S⟩:=B.needsize;obtain⟨_,_,O⟩:=B.ones;obtain⟨_,_,Pu⟩:=B.put;obtain⟨_,_,M⟩:=B.move;have T:=B.T;have GP:=g7 (P:=P) (w:=w) (base:=base) Pu.F S W O M T X;obtain⟨tm,hm⟩:=X.many;obtain⟨ta,Xv⟩:=X.again;obtain⟨tl,hle⟩:=X.leastA;refine F.F.ok GH ?_
 intro 'a';obtain⟨p,d,a,N0,T0,L,rfl,hB,NI,ha,hl,h6,nad,k⟩:=h;have HS:Ge 3 _:=hr.mono Z9;have Ss:a≠p:=by
  obtain⟨dx,_,_,_,hp,_⟩:=hB;exact aT ha hp 'f'
 refine⟨_,ad (aE (ap (lg NT B.R) HS Z7 NT.m NT.F.kp NT.b .nil az (aa (pv 1) ac)))
  (ad (aq (i:=2) GH.nd ae)
  (ad (aq (i:=3) GH.nd ae)
  (ag (cA AV (aA eO (pv 2) (aJ (v:=.int 272) Z7 hm ⟨tm,rfl⟩) (aC _))
   (ad (aq (i:=4) GH.nd (ap (tG AF X) hr Z7 AF.m AF.F.kp AF.b .nil az (aa (pv 1) (aa (pv 2) (aa (pv 3) ac)))))
   (ag (aM (aA uo (pv 4) (aJ (v:=.int 3) Z7 hle ⟨tl,rfl⟩) (aC _))
    (ad (aE (aN (pv 0) T.cl Pu.m GP HS Pu.b .nil az (aa (aJ (v:=.int 7) Z7 Xv ⟨ta,rfl⟩) (aa ae ac))))
    (ad (aE (aN (pv 0) T.cl Pu.m GP HS Pu.b .nil az (aa (ao bd (pv 4) (aJ (v:=.int 3) Z7 hle ⟨tl,rfl⟩)) (aa ae ac))))
    (ag (aq (i:=2) GH.nd (ao aI (pv 2) (pv 4))))))
    (ad (aq (i:=3) GH.nd (aU aW (pv 1) (pv 2) (λ _ _=>rfl)))
    (ad (aE (aN (pv 0) T.cl Pu.m GP HS Pu.b .nil az (aa (pv 3) (aa ae ac))))
    (ag (aq (i:=2) GH.nd (ao aI (pv 2) ae)))))))))))),?_⟩
 refine aw λ _ g1=>⟨_,rfl,a,L,rfl,ha,hl,h6,g1 _ _ ?_⟩
 clear g1;refine aw λ R1 g1=>g1 _ _ ?_
 clear g1;refine aw λ R1 g1=>g1 _ _ ?_
 clear g1;refine⟨λ n σ H2=>∃q ah Pp v4,n=272-q/\σ=[↑p,↑a,some (vN q),some (vN ah),v4]/\q≤272/\Walk L 0 0 Pp q ah/\Gh C H2 p d (eS (puts Pp) N0) (T0+tots (puts Pp))/\(∀c o,H c='g'->c≠p->c≠d->H2 c='g'),
  ⟨272,0,0,[],none,rfl,rfl,Z9,⟨rfl,rfl⟩,hB,λ c o e _ _=>e⟩,?_⟩
 rintro n σ H2 ⟨q,ah,Pp,v4,rfl,rfl,hq,hw,IF,kp⟩;refine⟨_,rfl,_,_,rfl,rfl,_,rfl,bc (λ hc=>?_) (λ hc=>?_)⟩
 ·have Lg:q<272:=by have:=Am hc;exact D8.mp this
  have SF:q<L.length:=Av Lg hl.symm;refine⟨λ σ' H'=>∃q' ah Pp v4,q<q'/\σ'=[↑p,↑a,some (vN q'),some (vN ah),v4]/\q'≤272/\Walk L 0 0 Pp q' ah/\Gh C H' p d (eS (puts Pp) N0) (T0+tots (puts Pp))/\(∀c o,H c='g'->c≠p->c≠d->H' c='g'),
   λ σ' H' z9=>by obtain⟨q',ah,Pp,v4,F9,z1,z2,z⟩:=z9;exact⟨272-q',Nat.sub_lt_sub_left (Ap F9 z2) F9,q',ah,Pp,v4,rfl,z1,z2,z⟩,?_⟩
  have VD:=dh hw;have OD:=vt Pp;have OE:=kp _ _ ha Ss nad;have VC:=dz hw SF;have hsz:=kx (a:=ah) SF;refine aw λ _ g2=>⟨_,rfl,_,rfl,_,rfl,a,L,q,ah,rfl,OE,hl, ‹_›,g2 _ _ ?_⟩
  clear g2;obtain⟨dx,B2,r2,k2,Hw,hd2,V4,ND⟩:=id IF;have no:∀r k,(fW d r k).lookup ("put":Str)=none:=λ r k=>dj _ _ _
  refine⟨_,rfl,_,_,rfl,rfl,_,rfl,bc (λ h3=>?_) (λ h3=>?_)⟩
  ·have h4:3≤min 66 (run ah (L.drop q)):=by have:=Am h3;exact Int.ofNat_le.mp this
   have XU:stAt L q ah=.rep (min 66 (run ah (L.drop q))):=by unfold stAt;rw [AK h4]
   rw [XU] at VC hsz;have hr66:min 66 (run ah (L.drop q))≤66:=Db 66 _;generalize min 66 (run ah (L.drop q))=r at*;refine⟨_,rfl,p,dx,_,rfl,Hw,no _ _,p,d,_,_,7,3,rfl,IF,Z5,Z9,Z9,λ H3 Ln G4=>?_⟩;obtain⟨JJ,B3,r3,k3,M9,hd3,br3,hk3⟩:=id Ln;have er:(r:Int)-3=⇑(r-3):=Z5;refine⟨_,rfl,p,JJ,_,rfl,M9,no _ _,_,rfl,_,_,rfl,rfl,?_⟩
   try dsimp only
   rw [er];refine⟨p,d,_,_,r-3,6,rfl,Ln,Z5,Z9,(by show r-3<2^6;lia),λ H4 Nf IM=>?_⟩;refine⟨_,rfl,_,rfl,_,_,rfl,rfl,q+r,ah,Pp++[.rep r],some (vN r),Z5,?_,by have:=hsz.2;show q+r≤272;have e:(Itm.rep r).size=r:=rfl;lia,VC,?_,λ c o e n1 n2=>IM _ _ (G4 _ _ (kp _ _ e n1 n2) n1 n2) n1 n2⟩
   ·have e2:(q:Int)+(r:Int)=⇑(q+r):=Int.ofNat_add_ofNat _ _
    try dsimp only
    rw [e2];rfl
   ·rw [ip,bY,aR];have e5:T0+(tots (puts Pp)+tots (puts [Itm.rep r]))=T0+tots (puts Pp)+3+6:=by
     have:tots (puts [Itm.rep r])=9:=rfl;lia
    rw [e5];exact Nf
  ·have h4:¬3≤min 66 (run ah (L.drop q)):=λ z=>h3 (Ae Z5)
   have XU:stAt L q ah=.one L[q]:=by unfold stAt;rw [AH h4];simp [List.getD,SF]
   rw [XU] at VC;have hx6:L[q]≤6:=h6 _ (BL SF);refine⟨_,rfl,_,rfl,a,_,_,_,rfl,rfl,Gf.of OE,aD (di SF),?_⟩;refine⟨_,rfl,p,dx,_,rfl,Hw,no _ _,_,rfl,p,d,_,_,L[q],3,rfl,IF,Z4,Z9,(by show L[q]<2^3;lia),λ H3 Ln G4=>?_⟩;refine⟨_,rfl,_,_,rfl,rfl,q+1,L[q],Pp++[.one L[q]],_,FO _,rfl, ‹_›,VC,?_,λ c o e n1 n2=>G4 _ _ (kp _ _ e n1 n2) n1 n2⟩;rw [ip,bY,aR];have e5:T0+(tots (puts Pp)+tots (puts [Itm.one L[q]]))=T0+tots (puts Pp)+3:=by
    have:tots (puts [Itm.one L[q]])=3:=rfl;lia
   rw [e5];exact Ln
 ·have Lg:q=272:=by
   have h1:¬(decide ((q:Int)<272)=true):=hc;have:¬((q:Int)<272):=λ z=>h1 (Ae z)
   lia
  subst Lg;exact k Pp ah H2 hw IF kp
end K21.Tb
namespace C9
noncomputable def ed (L:'c'):Nat->Nat
 |0=>0
 |j+1=>2*ed L j+L.count (j+1)
noncomputable def cdAt (L:'c') (q s:Nat):Nat:=2*ed L (s-1)+(L.take q).count s
noncomputable def itm (L:'c') (j p q:Nat):Option (Nat×Nat):=if 1≤L.getD q 0/\(L.getD q 0≤j\/(L.getD q 0=j+1/\q<p)) then some (cdAt L q (L.getD q 0),L.getD q 0) else none
def row (L:'c')(j p:Nat):List (Option (Nat×Nat)):=(List.range L.length).map (itm L j p)
def codes (L:'c'):List (Option (Nat×Nat)):=row L 12 0
def bv (L:'c')(j p:Nat):(row L j p).length=L.length:=by simp [row]
def dm {L:'c'}{j p q:Nat}(h:q<L.length):(row L j p)[q]?=some (itm L j p q):=by simp [row,h]
def tJ (L:'c'):row L 0 0=List.replicate L.length none:=by
 apply B5;intro q;by_cases h:q<L.length
 ·rw [dm h,Dm,AK h];congr 1;unfold itm;rw [AH Z5]
 ·rw [A4 (by rw [bv];exact BF h),A4 (by rw [Al];exact BF h)]
def uy (L:'c')(j:Nat):row L j L.length=row L (j+1) 0:=by
 apply B5;intro q;by_cases h:q<L.length
 ·rw [dm h,dm h];congr 1;unfold itm;by_cases c:1≤L.getD q 0/\(L.getD q 0≤j\/(L.getD q 0=j+1/\q<L.length))
  ·rw [AK c,AK Z5]
  ·rw [AH c,AH Z5]
 ·rw [A4 (by rw [bv];exact BF h),A4 (by rw [bv];exact BF h)]
def ww {L:'c'}{j p:Nat}(h:L[p]?=some (j+1)):row L j (p+1)=(row L j p).set p (some (cdAt L p (j+1),j+1)):=by
 have hp:p<L.length:=(Af.mp h).1;have hg:L.getD p 0=j+1:=by rw [AO,h];rfl
 apply B5;intro q;by_cases e:p=q
 ·subst e;rw [dm hp,Ca (by rw [bv];exact hp)];congr 1;unfold itm;rw [hg,AK Z5]
 ·rw [CM e];by_cases hq:q<L.length
  ·rw [dm hq,dm hq];congr 1;unfold itm;by_cases c:1≤L.getD q 0/\(L.getD q 0≤j\/(L.getD q 0=j+1/\q<p))
   ·rw [AK c,AK Z5]
   ·rw [AH c,AH Z5]
  ·rw [A4 (by rw [bv];exact BF hq),A4 (by rw [bv];exact BF hq)]
def tN {L:'c'}{j p:Nat}(h:L[p]?≠some (j+1)):row L j (p+1)=row L j p:=by
 apply B5;intro q;by_cases hq:q<L.length
 ·rw [dm hq,dm hq];congr 1;unfold itm;have Hx:q=p->L.getD q 0≠j+1:=by
   rintro rfl e;apply h;rw [AO,Ad hq] at e;rw [Ad hq];exact Bx some e
  by_cases c:1≤L.getD q 0/\(L.getD q 0≤j\/(L.getD q 0=j+1/\q<p))
  ·rw [AK c,AK Z4]
  ·rw [AH c,AH (by
    intro z;apply c;refine⟨z.1,?_⟩;rcases z.2 with z|⟨z1,z2⟩
    ·exact .inl z
    ·refine .inr ⟨z1,?_⟩;have:q≠p:=λ e=>Hx e z1
     lia)]
 ·rw [A4 (by rw [bv];exact BF hq),A4 (by rw [bv];exact BF hq)]
def qi (L:'c')(j p:Nat):cdAt L p (j+1)=2*ed L j+(L.take p).count (j+1):=rfl
def mQ {L:'c'}{j p:Nat}(h:L[p]?=some (j+1)):cdAt L (p+1) (j+1)=cdAt L p (j+1)+1:=by
 unfold cdAt;rw [Bl,h,CP];simp;lia
def rF {L:'c'}{j p:Nat}(h:L[p]?≠some (j+1)):cdAt L (p+1) (j+1)=cdAt L p (j+1):=by
 unfold cdAt;rw [Bl,CP];cases e:L[p]? with
 |none=>simp
 |some z=>
  rw [e] at h;have:z≠j+1:=λ q=>h (by rw [q])
  simp [List.count_singleton,this]
def mh (L:'c')(j:Nat):cdAt L L.length (j+1)=ed L (j+1):=by
 rw [qi,AT];rfl
theorem ql (L:'c')(a:Nat):∀d,2^d*ed L a≤ed L (a+d)
 |0=>by simp
 |d+1=>by
  have:=ql L a d;show _≤2*ed L (a+d)+_;rw [BZ];have:2^d*2*ed L a=2*(2^d*ed L a):=by rw [BE (2^d) 2,BV]
  omega
theorem xc (L:'c'):∀j,ed L j+L.length≤L.length*2^j
 |0=>by simp [ed]
 |j+1=>by
  have:=xc L j;have:=List.count_le_length (a:=j+1) (l:=L);rw [ed,BZ,<-BV];lia
def pS {L:'c'}{q s:Nat}(h:L[q]?=some s)(hs:1≤s):cdAt L q s<ed L s:=by
 obtain⟨j,rfl⟩:∃j,s=j+1:=⟨s-1,(Nat.sub_eq_iff_eq_add hs).mp rfl⟩;have h1:=mQ (j:=j) h;have h2:cdAt L (q+1) (j+1)≤ed L (j+1):=by
  rw [<-mh];unfold cdAt;have:List.count (j+1) (List.take (q+1) L)≤List.count (j+1) (List.take L.length L):=by
   rw [AT];exact List.Sublist.count_le _ (DK _ _)
  exact Eg.mpr this
 exact Ap (A5 h1.symm) h2
def zu {L:'c'}{q1 q2 s1 s2:Nat}(h1:L[q1]?=some s1)(p1:1≤s1)(lt:s1<s2):cdAt L q2 s2/2^(s2-s1)≠cdAt L q1 s1:=by
 have a:=pS h1 p1;have b:2^(s2-s1)*ed L s1≤cdAt L q2 s2:=by
  have:=ql L s1 (s2-1-s1);rw [show s1+(s2-1-s1)=s2-1 by omega] at this;rw [show s2-s1=(s2-1-s1)+1 by omega,BZ];unfold cdAt;have e:2^(s2-1-s1)*2*ed L s1=2*(2^(s2-1-s1)*ed L s1):=by rw [BE (2^(s2-1-s1)) 2,BV]
  omega
 have c:ed L s1≤cdAt L q2 s2/2^(s2-s1):=(Nat.le_div_iff_mul_le (D3 Z9)).mpr (by rw [BE];exact b);omega
def krf (m:Nat)(L:'c'):Nat:=((L.filter (λ l=>decide (0<l))).map (λ l=>2^(m-l))).sum
def gv (m:Nat)(L M:'c'):krf m (L++M)=krf m L+krf m M:=by
 unfold krf;rw [AQ,Aw,CT]
theorem Om {m:Nat}(hm:m≤12):∀L:List Nat,(∀l∈L,l≤m)->krf 12 L=2^(12-m)*krf m L
 | [],_=>rfl
 |a::L,h=>by
  have ih:=Om hm L λ l z=>h l (Az _ z)
  have ha:=h a AE;unfold krf at ih ⊢;by_cases c:0<a
  ·simp only [DY,c,decide_true,if_true,Bz,DL];rw [ih,C6,<-Dl];congr 2;exact FP (Nat.sub_add_sub_cancel hm ha)
  ·simp only [DY,c,decide_false,CH,if_false];exact ih
structure Good (L:'c'):Prop where
 ne:1≤L.length
 le:L.length≤300
 most:∀l∈L,l≤12
 some:∃l∈L,0<l
 room:krf 12 L≤4096
end C9
namespace C10
open BP C9
def kle (L:'c')(j:Nat):Nat:=krf 12 (L.filter λ l=>decide (l≤j))
theorem fF (p:Nat->Bool):∀L:List Nat,krf 12 (L.filter p)≤krf 12 L
 | []=>Ak _
 |a::L=>by
  have ih:=fF p L;have e:∀M:List Nat,krf 12 (a::M)=krf 12 [a]+krf 12 M:=λ M=>gv 12 [a] M
  by_cases h:p a=true
  ·rw [AL h,e (L.filter p),e L];exact Eg.mpr ih
  ·rw [AS h,e L];exact Nat.le_add_left_of_le ih
def tS (L:'c')(j:Nat):kle L (j+1)=kle L j+L.count (j+1)*2^(12-(j+1)):=by
 induction L with
 |nil=>simp [kle]
 |cons a L ih=>
  have e:∀M:List Nat,krf 12 (a::M)=krf 12 [a]+krf 12 M:=λ M=>gv 12 [a] M
  unfold kle at ih ⊢;rw [DC];by_cases h1:a≤j
  ·rw [AL (by simp;exact BD h1),AL (by simpa using h1),e (L.filter λ l=>decide (l≤j+1)),e (L.filter λ l=>decide (l≤j)),ih,AH (by simp;lia)];simp only [DB];exact FP (BW _ _ (_*2^(12-_)))
  ·by_cases h2:a=j+1
   ·subst h2;rw [AL Z6,AS Z6,e (L.filter λ l=>decide (l≤j+1)),ih,AK Z6];have:krf 12 [j+1]=2^(12-(j+1)):=by
     unfold krf;simp
    rw [this,EB,Nat.one_mul];lia
   ·rw [AS (by simp;exact CY (Nat.not_le.1 h1) λ a=>h2 (id (FP a))),AS (by simpa using h1),ih,AH (by simpa using h2)];simp only [DB]
theorem tR (L:'c'):∀j,j≤12->ed L j*2^(12-j)=kle L j
 |0,_=>by
  unfold kle krf;have:((L.filter λ l=>decide (l≤0)).filter λ l=>decide (0<l))=[]:=by
   rw [List.filter_filter,BU];intro a _;simp;lia
  rw [this];simp [ed]
 |j+1,h=>by
  have ih:=tR L j (Cz h);rw [tS,<-ih];show(2*ed L j+L.count (j+1))*2^(12-(j+1))=_;rw [EB,show 12-j=(12-(j+1))+1 by lia,BZ];congr 1;rw [BE 2,BV,BE 2]
def yn {L:'c'}(g:Good L){j:Nat}(hj:j≤12):ed L j≤2^j:=by
 have h:=tR L j hj;have h1:kle L j≤4096:=Ai (fF _ L) g.room;have h2:2^j*2^(12-j)=4096:=by rw [<-Dl,show j+(12-j)=12 from Cj hj]
 rw [<-h,<-h2] at h1;exact Nat.le_of_mul_le_mul_right h1 (D3 Z9)
def oI {L:'c'}(g:Good L){q s:Nat}(h:L[q]?=some s):s≤12:=g.most s (AX h)
def cd_lt {L:'c'}(g:Good L){q s:Nat}(h:L[q]?=some s)(hs:1≤s):cdAt L q s<2^s:=
 Ap (pS h hs) (yn g (oI g h))
def ua {L:'c'}{q r s:Nat}(h1:L[q]?=some s)(h2:L[r]?=some s)(e:cdAt L q s=cdAt L r s):q=r:=by
 have key:∀q r:Nat,L[q]?=some s->q<r->(L.take q).count s<(L.take r).count s:=λ q r h1 h=>by
  have e1:L.take (q+1)=L.take q++[s]:=by rw [Bl,h1];rfl
  have e2:(L.take (q+1)).count s=(L.take q).count s+1:=by rw [e1,CP];simp
  have e3:(L.take (q+1)).count s≤(L.take r).count s:=by
   have:L.take (q+1)=(L.take r).take (q+1):=by rw [List.take_take,Bu Z4]
   rw [this];exact List.Sublist.count_le _ (DK _ _)
  omega
 unfold cdAt at e;rcases Nat.lt_trichotomy q r with h|h|h
 ·have:=key q r h1 h;omega
 ·exact h
 ·have:=key r q h2 h;omega
def dQ (L:'c')(u:List Bool)(q:Nat):Prop:=L[q]?=some u.length/\1≤u.length/\cdAt L q u.length=num u
def Nk (L:'c')(u:List Bool):Prop:=∃q s,L[q]?=some s/\u.length<s/\cdAt L q s/2^(s-u.length)=num u
def iL {L:'c'}{u:List Bool}{q:Nat}(h:dQ L u q)(b:Nk L u):False:=by
 obtain⟨h1,h2,h3⟩:=h;obtain⟨q2,s2,b1,b2,b3⟩:=b;exact zu h1 h2 b2 (b3.trans h3.symm)
def pj {L:'c'}(g:Good L):Nk L []:=by
 obtain⟨l,hl,h0⟩:=g.some;obtain⟨q,hq⟩:=List.mem_iff_getElem?.mp hl;exact⟨q,l,hq,h0,EQ (cd_lt g hq h0)⟩
def n9 {L:'c'}{u:List Bool}{q r:Nat}(h:dQ L u q)(h':dQ L u r):q=r:=ua h.1 h'.1 (h.2.2.trans h'.2.2.symm)
inductive Res where
 |thing (q s:Nat)
 |bad
 |none
def Due (L:'c')(rest:List Bool):Res->Prop
 | .thing q s=>s≤rest.length/\dQ L (rest.take s) q/\∀j<s,Nk L (rest.take j)
 | .bad=>∃s,s≤rest.length/\(∀j<s,Nk L (rest.take j))/\¬Nk L (rest.take s)/\∀q,¬dQ L (rest.take s) q
 | .none=>∀j≤rest.length,Nk L (rest.take j)
def Due.uniq {L:'c'}{rest:List Bool}{a b:Res}(ha:Due L rest a)(hb:Due L rest b):a=b:=by
 have tt:∀{q s q' s'},Due L rest (.thing q s)->Due L rest (.thing q' s')->s≤s':=λ {q s q' s'} h h'=>by
  rcases A2 s' s with c|c
  ·exact(iL h'.2.1 (h.2.2 s' c)).elim
  ·exact c
 have tb:∀{q s},Due L rest (.thing q s)->Due L rest .bad->False:=λ {q s} h ⟨r,h1,h2,h3,h4⟩=>by
  rcases Nat.lt_trichotomy s r with c|c|c
  ·exact iL h.2.1 (h2 s c)
  ·subst c;exact h4 q h.2.1
  ·exact h3 (h.2.2 r c)
 have tn:∀{q s},Due L rest (.thing q s)->Due L rest .none->False:=λ {q s} h h'=>iL h.2.1 (h' s h.1)
 have bn:Due L rest .bad->Due L rest .none->False:=λ z9 h'=>by obtain⟨r,h1,h2,h3,h4⟩:=z9;exact h3 (h' r h1)
 cases a with
 |thing q s=>
  cases b with
  |thing q' s'=>
   have e:s=s':=A8 (tt ha hb) (tt hb ha);subst e;rw [n9 ha.2.1 hb.2.1]
  |bad=>exact(tb ha hb).elim
  |none=>exact(tn ha hb).elim
 |bad=>
  cases b with
  |thing q' s'=>exact(tb hb ha).elim
  |bad=>rfl
  |none=>exact(bn ha hb).elim
 |none=>
  cases b with
  |thing q' s'=>exact(tn hb ha).elim
  |bad=>exact(bn hb ha).elim
  |none=>rfl
theorem MC:∀{a b:List Bool},a.length=b.length->num a=num b->a=b
 | [],[],_,_=>rfl
 |x::a,y::b,h,e=>by
  have hl:a.length=b.length:=by simpa using h
  rw [fo,fo,hl] at e;have h1:=HB a;have h2:=HB b;rw [hl] at h1;have exy:x=y:=by
   cases x<;>cases y<;>first|rfl|(exfalso;simp at e;omega)
  subst exy;rw [MC hl Z4]
def lW (u:List Bool){k:Nat}(h:k≤u.length):num (u.take k)=num u/2^(u.length-k):=by
 have e:num u=num (u.take k)*2^(u.length-k)+num (u.drop k):=by
  have:=dC (u.take k) (u.drop k);rw [Bn,Au] at this;exact this
 have F9:=HB (u.drop k);rw [Au] at F9;rw [e,BE,Nat.mul_add_div (D3 Z9),EQ F9];rfl
def j4 {L:'c'}{q:Nat}(g:Good L):(codes L)[q]?=if q<L.length then some (if 1≤L.getD q 0 then some (cdAt L q (L.getD q 0),L.getD q 0) else none) else none:=by
 unfold codes;by_cases h:q<L.length
 ·rw [dm h,AK h];congr 1;unfold itm;have:L.getD q 0≤12:=by
   rw [AO,Ad h];exact g.most _ (BL h)
  by_cases c:1≤L.getD q 0
  ·rw [AK ⟨c,.inl this⟩,AK c]
  ·rw [AH (λ z=>c z.1),AH c]
 ·rw [AH h,A4 (by rw [bv];exact BF h)]
def oJ {L:'c'}(g:Good L){q:Nat}{c:Nat×Nat}(h:(codes L)[q]?=some (some c)):L[q]?=some c.2/\1≤c.2/\c.1=cdAt L q c.2:=by
 rw [j4 g] at h
 split at h
 ·rename_i hq
  injection h with h
  split at h
  ·rename_i h1
   cases h;refine⟨?_,h1,rfl⟩;rw [AO,Ad hq];rfl
  ·cases h
 ·cases h
def IE {L:'c'}(g:Good L){q s:Nat}(h:L[q]?=some s)(hs:1≤s):(codes L)[q]?=some (some (cdAt L q s,s)):=by
 have hq:=(Af.mp h).1;have e:L.getD q 0=s:=by rw [AO,h];rfl
 rw [j4 g,AK hq,e,AK hs]
end C10
namespace L2
open PySem PySem.Spec PyProof.Rows QQ
section
variable {κ:Type}[DecidableEq κ]
def cy (Gg:List (κ×V))(k:κ):Option V:=(Gg.find? λ kv=>decide (kv.1=k)).map (·.2)
def putK (Gg:List (κ×V))(k:κ)(v:V):List (κ×V):=
 if(Gg.any λ kv=>decide (kv.1=k))=true then Gg.map (λ kv=>if kv.1=k then(kv.1,v) else kv) else Gg++[(k,v)]
def cg {k:κ}(e:p.1=k):cy (p::r) k=some p.2:=by simp [cy,DJ,e]
def bZ {k:κ}(e:¬p.1=k):cy (p::r) k=cy r k:=by simp [cy,DJ,e]
theorem gp (k:κ):∀Gg:List (κ×V),(Gg.any λ kv=>decide (kv.1=k))=(cy Gg k).isSome
 | []=>rfl
 |p::r=>by
  rw [E5];by_cases e:p.1=k
  ·simp only [cg e,Ae e,Bool.true_or,Option.isSome_some]
  ·rw [bZ e,Bt e,Bool.false_or];exact gp k r
theorem mI (k j:κ)(y):∀Gg:List (κ×V),cy (Gg.map λ kv=>if kv.1=k then(kv.1,y) else kv) j=(cy Gg j).map λ x=>if j=k then y else x
 | []=>rfl
 |p::r=>by
  have ih:=mI k j y r;rw [Bz];by_cases h:p.1=k
  ·rw [AK h];by_cases e:p.1=j
   ·rw [cg (p:=(p.1,y)) e,cg e,CU,AK (e.symm.trans h)]
   ·rw [bZ (p:=(p.1,y)) e,bZ e,ih]
  ·rw [AH h];by_cases e:p.1=j
   ·rw [cg e,cg e,CU,AH (λ z=>h (e.trans z))]
   ·rw [bZ e,bZ e,ih]
theorem ki (k j:κ)(y):∀Gg:List (κ×V),cy Gg k=none->cy (Gg++[(k,y)]) j=if j=k then some y else cy Gg j
 | [],_=>by
  by_cases e:k=j
  ·rw [AK e.symm];exact cg e
  ·rw [AH (λ z=>e z.symm)];exact bZ e
 |p::r,hn=>by
  rw [FH];have hk:¬p.1=k:=λ z=>by rw [cg z] at hn;cases hn
  rw [bZ hk] at hn;have ih:=ki k j y r hn;by_cases e:p.1=j
  ·rw [cg e,cg e,AH (λ z=>hk (e.trans z))]
  ·rw [bZ e,bZ e,ih]
def iT (Gg:List (κ×V))(k j:κ)(y):cy (putK Gg k y) j=if j=k then some y else cy Gg j:=by
 unfold putK;by_cases a:(Gg.any λ kv=>decide (kv.1=k))=true
 ·rw [AK a,mI];rw [gp] at a;by_cases e:j=k
  ·obtain⟨x,hx⟩:=Option.isSome_iff_exists.mp a;rw [AK e,e,hx,CU,AK rfl]
  ·rw [AH e];cases cy Gg j with
   |none=>rfl
   |some x=>rw [CU,AH e]
 ·rw [AH a];refine ki k j y Gg ?_;rw [gp] at a;cases q:cy Gg k with
  |none=>rfl
  |some x=>rw [q] at a;exact(a rfl).elim
def dM (Gg:List (κ×V))(k:κ)(v):(putK Gg k v).length≤Gg.length+1:=by
 unfold putK
 split
 ·rw [Aa];omega
 ·rw [Ac,Ar,Fc];omega
def HU.isSome_eq (r:HU o u):o.isSome=u.isSome:=by
 cases o with
 |none=>cases u with
  |none=>rfl
  |some _=>exact(show False from r).elim
 |some _=>cases u with
  |none=>exact(show False from r).elim
  |some _=>rfl
def KV.val (r:KV Gg vs)(k:κ):HU (cy Gg k) (valueAt vs k):=by
 unfold KV at r
 induction r with
 |nil=>exact True.intro
 | @cons p q ps qs h t ih=>
  obtain⟨h1,h2⟩:=h;by_cases e:p.1=k
  ·have e':q.1=k:=h1.symm.trans e;have b:valueAt (q::qs) k=some q.2:=by simp [valueAt,DJ,e']
   rw [cg e,b];exact h2
  ·have e':¬q.1=k:=λ z=>e (h1.trans z)
   have b:valueAt (q::qs) k=valueAt qs k:=by simp [valueAt,DJ,e']
   rw [bZ e,b];exact ih
theorem KV.any (r:KV Gg vs)(k:κ):(Gg.any λ kv=>decide (kv.1=k))=vs.any λ kv=>decide (kv.1=k):=by
 unfold KV at r
 induction r with
 |nil=>rfl
 |cons h t ih=>rw [E5,E5,ih,h.1]
def KV.repl (r:KV Gg vs)(k:κ)(ry:RelV y u):
  KV (Gg.map λ kv=>if kv.1=k then(kv.1,y) else kv) (vs.map λ kv=>if kv.1=k then(kv.1,u) else kv):=by
 unfold KV at r ⊢
 induction r with
 |nil=>exact .nil
 | @cons p q ps qs h t ih=>
  rw [Bz,Bz];refine .cons ?_ ih;obtain⟨h1,h2⟩:=h;by_cases e:p.1=k
  ·rw [AK e,AK (h1.symm.trans e)];exact⟨h1,ry⟩
  ·rw [AH e,AH (λ z=>e (h1.trans z))];exact⟨h1,h2⟩
def KV.put (r:KV Gg vs)(k:κ)(ry:RelV y u):KV (putK Gg k y) (stored vs k u):=by
 unfold putK stored;rw [r.any k];by_cases e:(vs.any λ kv=>decide (kv.1=k))=true
 ·rw [AK e,AK e];exact r.repl k ry
 ·rw [AH e,AH e];exact Paired.snoc r ⟨rfl,ry⟩
theorem KV.length {vs:List (κ×FS)}(r:KV Gg vs):Gg.length=vs.length:=DN r
end
def nF (r:RelV (kV k) u):(cr P w).is k u=true:=by
 cases k with
 |inl i=>obtain⟨t,e⟩:=(show∃t,u=Value.int i t from r);subst e;exact lL P w i t
 |inr x=>obtain⟨t,e⟩:=(show∃t,u=Value.str x t from r);subst e;exact mj P w x t
theorem jS:∀{ks} {us},Vals (ks.map kV) us->ItemsAre (cr P w) ks us
 | [],_,r=>by rw [Fk] at r;cases r;exact .nil
 |k::ks,_,r=>by
  rw [Bz] at r;cases r with
  |cons h t=>exact .cons (nF h) (jS t)
abbrev KT (H:Hp):List (List Key×V)->List (List Key×FR×FS)->Prop:=Paired λ p q=>p.1=q.1/\H q.2.1=some (.tup (p.1.map kV))/\RelV p.2 q.2.2
def KT.val (r:KT H Gg xs)(k):HU (cy Gg k) ((atKey xs k).map (·.2)):=by
 induction r with
 |nil=>exact True.intro
 | @cons p q ps qs h t ih=>
  obtain⟨h1,_,h2⟩:=h;by_cases e:p.1=k
  ·have e':q.1=k:=h1.symm.trans e;have b:atKey (q::qs) k=some q.2:=by simp [atKey,DJ,e']
   rw [cg e,b];exact h2
  ·have e':¬q.1=k:=λ z=>e (h1.trans z)
   have b:atKey (q::qs) k=atKey qs k:=by simp [atKey,DJ,e']
   rw [bZ e,b];exact ih
def KT.repl (r:KT H Gg xs)(k)(ry:RelV y u):
  KT H (Gg.map λ kv=>if kv.1=k then(kv.1,y) else kv) (xs.map (putAt k u)):=by
 induction r with
 |nil=>exact .nil
 | @cons p q ps qs h t ih=>
  rw [Bz,Bz];refine .cons ?_ ih;obtain⟨h1,h2,h3⟩:=h;unfold putAt;by_cases e:p.1=k
  ·rw [AK e,AK (h1.symm.trans e)];exact⟨h1,h2,ry⟩
  ·rw [AH e,AH (λ z=>e (h1.trans z))];exact⟨h1,h2,h3⟩
def KT.put (r:KT H Gg xs)(k)(hb:H b=some (.tup (k.map kV)))(ry:RelV y u):
  KT H (putK Gg k y) (storedH xs k b u):=by
 have e:(Gg.any λ kv=>decide (kv.1=k))=(atKey xs k).isSome:=by
  rw [gp,(r.val k).isSome_eq,Fz]
 unfold putK storedH;rw [e];by_cases q:(atKey xs k).isSome=true
 ·rw [AK q,AK q];exact r.repl k ry
 ·rw [AH q,AH q];exact Paired.snoc r ⟨rfl,hb,ry⟩
def KT.keeps (r:KT H Gg xs)(ht:∀b ys,H b=some (.tup ys)->H' b=some (.tup ys)):KT H' Gg xs:=
 Paired.mapP r λ _ _ z=>⟨z.1,ht _ _ z.2.1,z.2.2⟩
def xh (ok:HK P w H h)(e:Rd H a u):Gp P w H h a u:=e.ok ok
def nG (ok:HK P w H h)(e:Rd H a (.dK Gg)):Gg.length≤sizeLine/\(a==sysModules)=false/\∃vs,KV Gg vs/\h.DictOf (cr P w) a vs:=
 show Gp P w H h a (.dK Gg) from xh ok e
def zl (ok:HK P w H h)(e:H a=some (.dK Gg)):Gg.length≤sizeLine/\(a==sysModules)=false/\∃vs,KV Gg vs/\h.DictOf (cr P w) a vs:=nG ok (.inl e)
def jl (ok:HK P w H h)(e:H a=some (.tup (ks.map kV))):(tupleKind (cr P w)).is h ks a:=by
 obtain⟨_,Gd,r,o,h1,h2,n,h3⟩:=(show Gp P w H h a (.tup (ks.map kV)) from ok a _ e);exact⟨o,Gd.toArray,n,h1,h2,h3,by simpa using jS r⟩
def m9 (ok:HK P w H h)(e:Rd H a (.dT Gg)):Gg.length≤sizeLine/\(a==sysModules)=false/\
  ∃xs,KT H Gg xs/\h.DictOfH (tupleKind (cr P w)) a xs:=by
 obtain⟨z,y,xs,r,o,es,ep,h1,h2,h3,h4,h5⟩:=(show Gp P w H h a (.dT Gg) from xh ok e);refine⟨z,y,xs,r,o,es,ep,h1,h2,h3,h4,λ x hx=>?_,h5⟩;have all:∀{l} {m},KT H l m->∀x∈m,(tupleKind (cr P w)).is h x.1 x.2.1:=by
  intro l m q
  induction q with
  |nil=>intro x hx;exact nomatch hx
  | @cons p q ps qs hq t ih=>
   intro x hx;rcases AB.mp hx with e|hx
   ·subst e;exact jl ok (by rw [<-hq.1];exact hq.2.1)
   ·exact ih x hx
 exact all r x hx
def yM (ok:HK P w H h)(e:H a=some (.dT Gg)):Gg.length≤sizeLine/\(a==sysModules)=false/\
  ∃xs,KT H Gg xs/\h.DictOfH (tupleKind (cr P w)) a xs:=m9 ok (.inl e)
def Jd (H:Hp)(a:FR)(y:V)(r:Option V):Prop:=
 (∃Gg k,Rd H a (.dK Gg)/\y=kV k/\r=cy Gg k)\/∃Gg k b,Rd H a (.dT Gg)/\y=.ref b/\H b=some (.tup (k.map kV))/\r=cy Gg k
def M5 (H:Hp)(a:FR)(y v:V)(H':Hp):Prop:=
 (∃Gg k,H a=some (.dK Gg)/\y=kV k/\Gg.length<sizeLine/\H'=upd H a (.dK (putK Gg k v)))\/
 ∃Gg k b,H a=some (.dT Gg)/\y=.ref b/\H b=some (.tup (k.map kV))/\Gg.length<sizeLine/\H'=upd H a (.dT (putK Gg k v))
def Jd.t {k:List Key}(e:H a=some (.dT Gg))(eb:H b=some (.tup (k.map kV))):Jd H a (.ref b) (cy Gg k):=.inr ⟨Gg,k,b,.inl e,rfl,eb,rfl⟩
def M5.t {k:List Key}(e:H a=some (.dT Gg))(eb:H b=some (.tup (k.map kV)))(hl:Gg.length<sizeLine):
  M5 H a (.ref b) v (upd H a (.dT (putK Gg k v))):=.inr ⟨Gg,k,b,e,rfl,eb,hl,rfl⟩
def Inv.big {σ:St}(I:'b' s):sysModules<s.heap.objs.size:=by
 have h:mainGlobals<s.heap.objs.size:=(I.mod.glob.keeps I.bk).lt;exact D9 Z9 h
def rh {σ:St}(hu:A.units+1<cLine)(I:'b' s)(g:Jd H a y (some v))(ry:RelV y u)(h:∀w' s','b' s'->RelV v w'->Q w' s'):
  wpAny 'd' A (getItem (.ref a) u) Q E s:=by
 rcases g with⟨Gg,k,e,ey,l⟩|⟨Gg,k,b,e,ey,eb,l⟩
 ·subst ey;obtain⟨z,hd,vs,rel,dd⟩:=nG I.hok e;obtain⟨w',hw,ON⟩:=HU.some_of (by rw [l];exact rel.val k);exact wpAny_getItem_of (nF ry) dd.mapOf hw (h w' _ (I.tok _) ON)
 ·subst ey;cases(show u=Value.ref b from ry);obtain⟨z,hd,xs,rel,dd⟩:=m9 I.hok e;obtain⟨w',hw,ON⟩:=HU.some_of (by rw [l];exact rel.val k);obtain⟨p,hp,Hw⟩:=Option.map_eq_some_iff.mp hw;refine wpAny_getItem_heap (Et hu) (jl I.hok eb) dd hp ?_;rw [Hw];exact h w' _ (I.tok _) ON
def zY {σ:St}(hu:A.units+1<cLine)(I:'b' s)(g:Jd H a y o)(ry:RelV y u)(h:∀s','b' s'->Q (.bool o.isSome) s'):
  wpAny 'd' A (compareOp .In u (.ref a)) Q E s:=by
 rcases g with⟨Gg,k,e,ey,l⟩|⟨Gg,k,b,e,ey,eb,l⟩
 ·subst ey;obtain⟨z,hd,vs,rel,dd⟩:=nG I.hok e;refine wpAny_in_of (nF ry) hd dd.mapOf ?_;rw [<-(rel.val k).isSome_eq,<-l];exact h _ (I.tok _)
 ·subst ey;cases(show u=Value.ref b from ry);obtain⟨z,hd,xs,rel,dd⟩:=m9 I.hok e;refine wpAny_in_heap (Et hu) (jl I.hok eb) hd dd ?_;have q:=(rel.val k).isSome_eq;rw [Fz] at q;rw [<-q,<-l];exact h _ (I.tok _)
def wF {σ:St}(hu:A.units+1<cLine)(I:'b' s)(g:Jd H a y o)(ry:RelV y u)(h:∀s','b' s'->Q (.bool (!o.isSome)) s'):
  wpAny 'd' A (compareOp .NotIn u (.ref a)) Q E s:=by
 rcases g with⟨Gg,k,e,ey,l⟩|⟨Gg,k,b,e,ey,eb,l⟩
 ·subst ey;obtain⟨z,hd,vs,rel,dd⟩:=nG I.hok e;refine wpAny_notIn_of (nF ry) hd dd.mapOf ?_;rw [<-(rel.val k).isSome_eq,<-l];exact h _ (I.tok _)
 ·subst ey;cases(show u=Value.ref b from ry);obtain⟨z,hd,xs,rel,dd⟩:=m9 I.hok e;refine wpAny_notIn_heap (Et hu) (jl I.hok eb) hd dd ?_;have q:=(rel.val k).isSome_eq;rw [Fz] at q;rw [<-q,<-l];exact h _ (I.tok _)
def o7 {σ:St}(I:'b' s)(mu:T2 (H a))(hs:Heap.SameBut a s.heap h')(he:∃q,h'.get? a=some q)(new:Gp X.prog X.w (upd H a ob) h' a ob):
  Inv X F6 σ (upd H a ob) {s with heap:=h',toks:=t'}:=
 I.write mu (.inl rfl) (λ b q hb z=>(hs.2 b hb).trans z) he new
def xt (z:Gg.length≤sizeLine)(hd:(a==sysModules)=false)(rel:KV Gg vs)(dd:h'.DictOf (cr P w) a vs):
  Gp P w H' h' a (.dK Gg):=⟨z,hd,vs,rel,dd⟩
def qT {σ:St}(hu:A.units+1<cLine)(I:'b' s)(g:M5 H a y v H')(ry:RelV y u)(rv:RelV v r)(h:∀s',Inv X F6 σ H' s'->Q () s'):
  wpAny 'd' A (setItem (.ref a) u r) Q E s:=by
 rcases g with⟨Gg,k,e,ey,l,eH⟩|⟨Gg,k,b,e,ey,eb,l,eH⟩
 ·subst ey eH;obtain⟨z,hd,vs,rel,dd⟩:=zl I.hok e;have hz:vs.length≤sizeLine:=by rw [<-rel.length];exact z
  have hl:(putK Gg k v).length≤sizeLine:=by have:=dM Gg k v;omega
  refine wpAny_setItem_pairs (nF ry) dd λ h' P0 hs=>h _ ?_
  have he:∃q,h'.get? a=some q:=let⟨q,_,_,hq,_⟩:=P0;⟨q,hq⟩;exact o7 I (by rw [e];exact True.intro) hs he (xt hl hd (rel.put k rv) P0)
 ·subst ey eH;cases(show u=Value.ref b from ry);obtain⟨z,hd,xs,rel,dd⟩:=yM I.hok e;have hz:xs.length≤sizeLine:=by rw [<-DN rel];exact z
  have hl:(putK Gg k v).length≤sizeLine:=by have:=dM Gg k v;omega
  refine wpAny_setItem_heap (Et hu) (jl I.hok eb) dd λ h' P0 hs=>h _ ?_
  obtain⟨q,es,ep,hq,h2,h3,h4,_,h5⟩:=P0;refine o7 I (by rw [e];exact True.intro) hs ⟨q,hq⟩ ⟨hl,hd,_,(rel.put k eb rv).keeps λ c ys ec=>?_,q,es,ep,hq,h2,h3,h4,h5⟩;rw [aj (aT ec e (λ z=>nomatch z))];exact ec
def zf (i:FZ):Prop:=∀ov iv,subscripted i false ov iv=operate [ov,iv] (getItem ov iv)
def wQ {T id:String}
  (hl:typeLookup (.type T) "__getitem__"=pure (some (.builtin id))) (hs:zf slice)
  (h:wpAny 'l' A (eval value env) (λ o s₁=>wpAny 'l' A (eval slice env) (λ i s₂=>s₂.TypeIs o T/\wpAny 'l' A (getItem o i) Q E s₂) E s₁) E s):
  wpAny 'l' A (eval (.Subscript value slice pos) env) Q E s:=by
 refine Subscript_ (Br h (λ o s₁ h₁=>Br h₁ (λ i s₂ h₂=>?_) λ _ _ x=>x) λ _ _ x=>x);obtain⟨hT,h₂⟩:=h₂;unfold subscriptTail;refine Ab ?_;rw [getitemInPython_of_ne hT.not_modules];refine Ab (wpAny_specialOf hT hl ?_);have fin:wpAny 'l' A (subscripted slice false o i) (λ r s₃=>wpAny 'l' A (letTemporaryGo value o r>>= λ _=>pure r) Q E s₃) E s₂:=by
  rw [hs o i];exact wpAny_operating (Br h₂ (λ r s₃ h₃=>Ab (wpAny_letTemporaryGo (AG h₃))) λ _ _ x=>x)
 first
  |exact AG (Ab fin)
  |exact Ab (AG (Ab fin))
  |exact Ab fin
def mD {σ:St}(I:'b' s)(g:Jd H a y o):s.TypeIs (.ref a) "dict":=by
 rcases g with⟨Gg,k,e,_,_⟩|⟨Gg,k,b,e,_,_,_⟩
 ·obtain⟨_,_,vs,_,dd⟩:=nG I.hok e;exact dd.typeIs
 ·obtain⟨_,_,xs,_,dd⟩:=m9 I.hok e;exact dd.typeIs
def yV (td ty:TE):TE:=λ σ H Q=>td σ H λ x H1=>ty σ H1 λ y H2=>∃a v,x=.ref a/\Jd H2 a y (some v)/\Q v H2
def zV (ty td:TE):TE:=λ σ H Q=>ty σ H λ y H1=>td σ H1 λ x H2=>∃a o,x=.ref a/\Jd H2 a y o/\Q (.bl o.isSome) H2
def vE (ty td:TE):TE:=λ σ H Q=>ty σ H λ y H1=>td σ H1 λ x H2=>∃a o,x=.ref a/\Jd H2 a y o/\Q (.bl (!o.isSome)) H2
def yU (td ty tv:TE):TS:=λ D σ H=>tv σ H λ v H1=>td σ H1 λ x H2=>ty σ H2 λ y H3=>∃a H4,x=.ref a/\M5 H3 a y v H4/\D.nx σ H4
def vm (hu:X.A.units+1<cLine)(ho:PE X o td)(hi:PE X i ty)(hs:zf i):PE X (.Subscript o i pos) (yV td ty):=by
 intro F6 s σ H Q I h;refine wQ PySem.F.slot_dict_getitem.lookup hs (thn (ho F6 s σ H _ I h) λ u s1 ⟨x,H1,I1,rx,q1⟩=>thn (hi F6 s1 σ H1 _ I1 q1) λ iv s2 z9=>?_);obtain⟨y,H2,I2,ry,a,v,ex,g,q2⟩:=z9;subst ex;obtain rfl:u=Value.ref a:=rx;exact⟨mD I2 g,rh hu I2 g ry λ w' s3 I3 ON=>⟨v,H2,I3,ON,q2⟩⟩
def yb (hu:X.A.units+1<cLine)(hi:PE X i ty)(ho:PE X o td):PC X .In i o (zV ty td):=by
 intro F6 s σ H Q I h;refine thn (hi F6 s σ H _ I h) λ iv s1 ⟨y,H1,I1,ry,q1⟩=>thn (ho F6 s1 σ H1 _ I1 q1) λ u s2 z9=>?_
 obtain⟨x,H2,I2,rx,a,ov,ex,g,q2⟩:=z9;subst ex;obtain rfl:u=Value.ref a:=rx;exact zY hu I2 g ry λ s3 I3=>⟨.bl ov.isSome,H2,I3,rfl,q2⟩
def rL (hu:X.A.units+1<cLine)(hi:PE X i ty)(ho:PE X o td):PC X .NotIn i o (vE ty td):=by
 intro F6 s σ H Q I h;refine thn (hi F6 s σ H _ I h) λ iv s1 ⟨y,H1,I1,ry,q1⟩=>thn (ho F6 s1 σ H1 _ I1 q1) λ u s2 z9=>?_
 obtain⟨x,H2,I2,rx,a,ov,ex,g,q2⟩:=z9;subst ex;obtain rfl:u=Value.ref a:=rx;exact wF hu I2 g ry λ s3 I3=>⟨.bl (!ov.isSome),H2,I3,rfl,q2⟩
def pz (hu:X.A.units+1<cLine)(ho:PE X o td)(hi:PE X i ty)(hv:PE X value tv)(hs:swapsWith value (some (.Subscript o i pos')) pos.line X.env=pure false):
  PS X (.Assign [.Subscript o i pos'] value pos) (yU td ty tv):=by
 intro F6 s σ H D I h;refine wpAny_Assign_Subscript (thn (hv F6 s σ H _ I h) λ r s1 ⟨v,H1,I1,rv,q1⟩=>thn (ho F6 s1 σ H1 _ I1 q1) λ u s2 ⟨x,H2,I2,rx,q2⟩=>thn (hi F6 s2 σ H2 _ I2 q2) λ iv s3 z9=>?_) hs;obtain⟨y,H3,I3,ry,a,H4,ex,g,q3⟩:=z9;subst ex;obtain rfl:u=Value.ref a:=rx;exact qT hu I3 g ry rv λ s4 I4=>⟨σ,H4,I4,q3⟩
def tO (h:FY)(hb:sysModules<h.objs.size):Gp P w H (h.push {cls:=.type "dict",data:=.dict #[]}) h.objs.size (.dK []):=
 ⟨A1 _,CV.mpr (B7 (A7 hb)),[],.nil,Heap.DictOf.new h⟩
def uu (h:FY)(hb:sysModules<h.objs.size):Gp P w H (h.push {cls:=.type "dict",data:=.dict #[]}) h.objs.size (.dT []):=
 ⟨A1 _,CV.mpr (B7 (A7 hb)),[],.nil,_,#[],0,AN _ rfl,⟨rfl,rfl,rfl⟩,rfl,rfl,List.nodup_nil⟩
def uH:TE:=λ _ H Q=>∀p,H p=none->Q (.ref p) (upd H p (.dK []))
def xZ:TE:=λ _ H Q=>∀p,H p=none->Q (.ref p) (upd H p (.dT []))
def ml:PE X (.Dict [] [] pos) uH:=λ F6 s σ H Q I h=>
 wpAny_Dict_empty ⟨.ref s.heap.objs.size,_,I.laid (λ _ _ q=>Aj _ q) (Ak _) (tO s.heap I.big),rfl,h _ (I.hok.fresh (Ak _))⟩
def gN:PE X (.Dict [] [] pos) xZ:=λ F6 s σ H Q I h=>
 wpAny_Dict_empty ⟨.ref s.heap.objs.size,_,I.laid (λ _ _ q=>Aj _ q) (Ak _) (uu s.heap I.big),rfl,h _ (I.hok.fresh (Ak _))⟩
def ug {K:Frag}{g:TG}{tb:TS}{D:Ends}(Pv:Nat->St->Hp->Prop)(h0:Pv 0 σ H)(hl:∀i σ H,i≤xs.length->Pv i σ H->Gf K H a xs)
  (hs:∀i x p σ H,xs[i]?=some x->H p=none->Pv i σ H->g (.ref p) σ (upd H p (.tup [.int (i:Int),x])) λ σ2 H2=>tb {D with nx:=Pv (i+1),ct:=Pv (i+1),bk:=D.nx} σ2 H2) (hd:∀σ H,Pv xs.length σ H->D.nx σ H):
  ∃W:Nat->Nat->St->Hp->Prop,(∃m,W 0 m σ H)/\∀i m σ H,W i m σ H->
   ((P4 K a).stop i H/\D.nx σ H)\/((P4 K a).go i H/\∃N,(∀σ' H',N σ' H'->∃m',m'<m/\W (i+1) m' σ' H')/\∀x H',(P4 K a).yld i H x H'->g x σ H' λ σ2 H2=>tb {D with nx:=N,ct:=N,bk:=D.nx} σ2 H2):=by
 refine⟨λ i m σ H=>m=xs.length-i/\i≤xs.length/\Pv i σ H,⟨xs.length,Z6,A1 _,h0⟩,?_⟩;rintro i m σ H ⟨rfl,hi,p⟩;have q:=hl i σ H hi p;by_cases F9:i<xs.length
 ·refine .inr ⟨⟨xs,xs[i],q,by simp [F9]⟩,Pv (i+1),λ σ' H' p'=>⟨xs.length-(i+1),Bs _ _ F9,rfl,F9,p'⟩,λ x H' y=>?_⟩;obtain⟨p1,x1,Kw,e1,e2,y⟩:=y;subst e1 e2;exact hs i x1 p1 σ _ (y xs q) Kw p
 ·have e:i=xs.length:=A8 hi (Nat.not_lt.1 F9);subst e;exact .inl ⟨⟨xs,q,Ak _⟩,hd σ H p⟩
def oY {lo:Int}{g:TG}{tt:TT}{te:TE}{R:Hp->Prop}(Pv:Nat->List V->St->Hp->Prop)(h0:Pv 0 [] σ0 (upd H1 l (.lst [])))
  (hs:∀i ys σ H,i<k->Pv i ys σ H->g (.int (lo+(i:Nat))) σ H λ σ3 H3=>tt σ3 H3 λ c H5=>if c=true then te σ3 H5 λ y H4=>H4 l=↥ys/\ys.length<sizeLine/\Pv (i+1) (ys++[y]) σ3 (upd H4 l (.lst (ys++[y]))) else Pv (i+1) ys σ3 H5)
  (hd:∀ys σ H,Pv k ys σ H->R H) (mg:∀x σ H (A B:St->Hp->Prop),(∀σ' H',A σ' H'->B σ' H')->g x σ H A->g x σ H B) (Sv:∀σ H (A B:Bool->Hp->Prop),(∀v H',A v H'->B v H')->tt σ H A->tt σ H B) (mt:∀σ H (A B:VK),(∀v H',A v H'->B v H')->te σ H A->te σ H B):
  ∃W:Nat->Nat->List V->St->Hp->Prop,(∃m,W 0 m [] σ0 (upd H1 l (.lst [])))/\∀i m ys σ' H',W i m ys σ' H'->
   ((MU lo k).stop i H'/\R H')\/((MU lo k).go i H'/\∀x H2,(MU lo k).yld i H' x H2->g x σ' H2 λ σ3 H3=>tt σ3 H3 λ c H5=>if c=true then te σ3 H5 λ y H4=>
    H4 l=↥ys/\ys.length<sizeLine/\∃m',m'<m/\W (i+1) m' (ys++[y]) σ3 (upd H4 l (.lst (ys++[y]))) else∃m',m'<m/\W (i+1) m' ys σ3 H5):=by
 refine⟨λ i m ys σ H=>m=k-i/\i≤k/\Pv i ys σ H,⟨k,Z6,A1 _,h0⟩,?_⟩;rintro i m ys σ H ⟨rfl,hi,p⟩;by_cases F9:i<k
 ·refine .inr ⟨F9,λ x H' y=>?_⟩;obtain⟨e,y⟩:=y;subst e y;refine mg _ _ _ _ _ (λ σ3 H3 z=>Sv _ _ _ _ (λ c H5 z2=>?_) z) (hs i ys σ _ F9 p);by_cases hc:c=true
  ·rw [AK hc] at z2 ⊢;exact mt _ _ _ _ (λ y H4 z9=>by obtain⟨z1,z3,z4⟩:=z9;exact⟨z1,z3,k-(i+1),Z4,rfl,F9,z4⟩) z2
  ·rw [AH hc] at z2 ⊢;exact⟨k-(i+1),Z4,rfl,F9,z2⟩
 ·have e:i=k:=Z4;subst e;exact .inl ⟨Ak _,hd ys σ H p⟩
end L2
namespace K21.C
open PySem L2 QQ C9 C10
seal PE PA PS PSs PT PW PG PI
def xp (R:'c'):R.map vN=(R.map λ b=>⇑b).map V.int:=by rw [BO];rfl
def IsL (H:Hp)(x:V)(L:'c'):Prop:=∃a,x=.ref a/\H a=↥(L.map vN)/\∀l∈L,l≤12
def OT (H:Hp)(x:V):Option (Nat×Nat)->Prop
 |none=>x=.non
 |some c=>∃t,x=.ref t/\H t=some (.tup [vN c.1,vN c.2])
def CL (H:Hp)(xs:List V)(cs:List (Option (Nat×Nat))):Prop:=xs.length=cs.length/\∀(i:Nat) x c,xs[i]?=some x->cs[i]?=some c->OT H x c
def OT.keep {H H':Hp}(h:OT H x c)(k:∀t ys,H t=some (.tup ys)->H' t=some (.tup ys)):OT H' x c:=by
 cases c with
 |none=>exact h
 |some c=>obtain⟨t,e,z⟩:=h;exact⟨t,e,k _ _ z⟩
theorem CL.keep (h:CL H xs cs)(k:∀t ys,H t=some (.tup ys)->H' t=some (.tup ys)):CL H' xs cs:=⟨h.1,λ i x c h1 h2=>(h.2 i x c h1 h2).keep k⟩
theorem CL.set {H:Hp}(h:CL H xs cs)(hy:OT H y d):CL H (xs.set p y) (cs.set p d):=by
 refine⟨by rw [Ek,Ek];exact h.1,λ i x c h1 h2=>?_⟩;by_cases e:p=i
 ·subst e;have hp:p<xs.length:=by
   have:=(Af.mp h1).1
   rwa [Ek] at this
  rw [Ca hp] at h1;rw [Ca (by rw [<-h.1];exact hp)] at h2;cases h1;cases h2;exact hy
 ·rw [CM e] at h1 h2;exact h.2 i x c h1 h2
theorem CL.none (H:Hp)(n:Nat):CL H (List.replicate n .non) (List.replicate n none):=by
 refine⟨by rw [Al,Al],λ i x c h1 h2=>?_⟩;rw [Dm] at h1 h2
 split at h1
 ·cases h1;rw [AK (by assumption)] at h2;cases h2;rfl
 ·cases h1
def ndL:(["length"]:List Str).Nodup:=Z8
inductive Oc (vs:List V) (H:Hp) (Q:VK) (Gj:XK):Prop
 |mk (a:_) (L:_) (h0:vs=[.ref a]) (h1:H a=↥(L.map vN)) (h2:(∀l∈L,l≤12)) (h3:L.length≤300) (h4:∀H',C' H H'->Q (vN (krf 12 L)) H'):Oc vs H Q Gj
def xH:y' Jae Jae (am uz):=Gw Z8
def MB (F:'h' "room_taken" uz Jae f fd)(T:Txt K mg):'a' Gn 31 f fd Jae Oc:=by
 obtain⟨tm,hm⟩:=T.mlen;refine F.F.ok xH ?_
 intro 'b';obtain⟨a,L,rfl,hL,hb,Vf,k⟩:=h;have hn:=hr.hd Z9;refine⟨_,ag (aB (ay (uI hn) Z7 T.sum PyProof.Rows.boot_sum (aa (iM rfl rfl Z8 Z8 Z8 (bi (pv 0))
   (λ fp s H=>aG (i:=0) ndL) (λ fp s H=>aA dk (pv 0) ae (aC _)) (λ fp s H=>ao dP ae (ao bd (aJ (v:=.int 12) Z7 hm ⟨tm,rfl⟩) (pv 0)))) ac))),?_⟩
 refine⟨_,rfl,a,rfl,⟨_,Gf.of hL⟩,λ l nl=>?_⟩;refine jc
  (λ i ys H'=>ys=(((L.take i).filter (λ b=>decide (0<b))).map (λ b=>2^(12-b))).map vN/\H' l=↥ys/\C' H H') ⟨rfl,af,ak nl⟩ (λ i ys H' _ z9=>by obtain⟨_,_,sm⟩:=z9;exact Gf.of (sm _ _ hL)) ?_ ?_ ?_ ?_ ?_
 ·rintro i x ys σ H' hx ⟨rfl,hl,sm⟩ hσ;obtain⟨b,Ib,rfl⟩:=ck hx;have hb12:=hb b (AX Ib);have HI:i<L.length:=(Af.mp Ib).1;obtain⟨u0,rfl⟩:∃u0,σ=[u0]:=match σ,hσ with| [u0],_=>⟨u0,rfl⟩
  have hlen:((L.take i).filter (λ b=>decide (0<b))).length≤300:=Ai (DE _ _) (by rw [Aq];exact Ai (BQ _ _) Vf);refine⟨_,rfl,_,_,rfl,rfl,_,rfl,?_⟩;rw [dY Ib,AQ]
  try dsimp only
  by_cases h0:0<b
  ·rw [AK (Ae (show(0:Int)<(b:Int) from FL.mpr h0))];refine⟨_,rfl,_,_,rfl,rfl,_,_,rfl,rfl,⟨Z5,Z5,Z9⟩,hl,bA (by rw [Aa,Aa];exact Ai hlen Z9),rfl,?_,af,λ c o e=>?_⟩
   ·rw [AL (by simpa using h0),Aw,Aw];have e1:(1:Int)*2^((12:Int)-(b:Int)).toNat=⇑(2^(12-b)):=by
     rw [show((12:Int)-(b:Int)).toNat=12-b by lia,FQ];simp
    try dsimp only
    rw [e1];rfl
   ·rw [aj (ai e nl)];exact sm _ _ e
  ·rw [AH (λ z=>absurd (Am z) Z5)];refine⟨rfl,?_,?_,sm⟩
   ·rw [AS (by simpa using h0)];simp
   ·exact hl
 ·rintro ys H' ⟨rfl,hl,sm⟩;rw [Aa,AT,xp] at hl;refine⟨l,_,rfl,Gf.of hl,?_⟩;have e:(((L.filter (λ b=>decide (0<b))).map (λ b=>2^(12-b))).map (λ b=>⇑b)).sum=(krf 12 L:Int):=by
   unfold krf;generalize (L.filter (λ b=>decide (0<b))).map (λ b=>2^(12-b))=Y
   induction Y with
   |nil=>rfl
   |cons y Y ih=>simp only [Bz,DL];rw [ih];simp
  rw [e];exact k _ sm
 ·exact λ x σ H A B h z=>h _ _ z
 ·exact λ σ H A B h z9=>by obtain⟨v,e1,i,j,e2,e3,c,e4,z⟩:=z9;exact⟨v,e1,i,j,e2,e3,c,e4,h _ _ z⟩
 ·exact λ σ H A B h z9=>by obtain⟨v,e1,i,j,e2,e3,i2,j2,e4,e5,c,z⟩:=z9;exact⟨v,e1,i,j,e2,e3,i2,j2,e4,e5,c,h _ _ z⟩
inductive J6 (vs:List V) (H:Hp) (Q:VK) (Gj:XK):Prop
 |mk (x:V) (L:'c') (h0:vs=[x]) (h1:IsL H x L) (h2:Good L) (h3:∀H',C' H H'->Q .non H'):J6 vs H Q Gj
def Kb:y' Jae Jae (am d5):=Gw Z8
structure QG (K:Frag)(mg:Str->Option FS):Prop where
 X:Txt K mg
 whole:∃f fd,'h' "is_whole" bQ Jaa f fd
 arewhole:∃f fd,'h' "are_whole" bV Jaa f fd
 things:∃f fd,'h' "are_of_things" eE ["thing","most"] f fd
 room:∃f fd,'h' "room_taken" uz Jae f fd
def oZ {P:FU}{w:FV}{K:Frag}{mg:Str->Option FS}{base:FY}{f:FR}{fd:FW}(F:'h' "need_lengths" d5 Jae f fd)(Y:QG K mg):'a' Gn 32 f fd Jae J6:=by
 obtain⟨T,⟨_,_,W⟩,⟨_,_,AW⟩,⟨_,_,Th⟩,⟨_,_,Ro⟩⟩:=Y;obtain⟨tm,hm⟩:=T.mlen;refine F.F.ok Kb ?_
 intro 'b';obtain⟨x,L,rfl,⟨a,rfl,hB,hb⟩,G,k⟩:=h;refine⟨_,ad (aM (cv (bX (ap (S.Kc Th AW W T) hr Z7 Th.m Th.F.kp Th.b .nil az (aa (pv 0) (aa (aJ (v:=.int 12) Z7 hm ⟨tm,rfl⟩) ac))))) (ag bN) aF)
  (ag (aM (aA dk (ap (MB Ro T) hr Z7 Ro.m Ro.F.kp Ro.b .nil az (aa (pv 0) ac)) (ao dP ae (aJ (v:=.int 12) Z7 hm ⟨tm,rfl⟩)) (aC _)) (ag bN) aF)),?_⟩
 refine aw λ _ g1=>⟨_,rfl,a,L,12,rfl,hB,hb,G.ne,G.le,G.some,_,rfl,cV (g1 _ _ ?_)⟩
 clear g1;refine⟨_,rfl,a,L,rfl,hB,hb,G.le,λ H' s1=>?_⟩;refine⟨_,_,rfl,rfl,⟨Z9,Z9,Z9⟩,_,_,rfl,rfl,_,rfl,bc (λ h=>?_) (λ _=>k _ s1)⟩;exfalso;have:=Am h;have g:=G.room;have e:(1:Int)*2^(12:Int).toNat=4096:=Z9;rw [e] at this;lia
def IB {α:Type}(x:α)(k):(List.replicate k [x]).flatten=List.replicate k x:=by
 induction k with
 |zero=>rfl
 |succ k ih=>rw [Bh,CQ,ih,Bh];rfl
def u4 (hl:L.length≤300)(hj:j≤12):ed L j≤1228800:=by
 have h:=xc L j;have h1:2^j≤2^12:=Cv Z9 hj;have h2:L.length*2^j≤300*4096:=Nat.mul_le_mul hl h1;lia
def vQ (L)(j):cdAt L 0 (j+1)=2*ed L j:=by rw [qi];simp
def ixN_nat (h:i<n):ixN n (i:Int)=some i:=by
 unfold ixN;rw [AK Z5];simpa using h
inductive J9 (vs:List V) (H:Hp) (Q:VK) (Gj:XK):Prop
 |mk (x:V) (L:'c') (h0:vs=[x]) (h1:IsL H x L) (h2:Good L) (h3:∀l xs H',H l=none->C' H H'->H' l=↥xs->CL H' xs (codes L)->Q (.ref l) H'):J9 vs H Q Gj
def Gy:y' ["lengths","codes","code","size","place","length"] Jae (am fb):=Gw Z8
def JG {P:FU}{w:FV}{K:Frag}{mg:Str->Option FS}{base:FY}{f fN:FR}{fd Ng:FW}(F:'h' "codes_of" fb Jae f fd)(N:'h' "need_lengths" d5 Jae fN Ng)(Y:QG K mg):'a' Gn 33 f fd Jae J9:=by
 have T:=Y.X;obtain⟨tm,hm⟩:=T.mlen;refine F.F.ok Gy ?_
 intro 'a';obtain⟨x,L,rfl,⟨a,rfl,hB,hb⟩,G,k⟩:=h;refine⟨_,ad (aE (ap (oZ N Y) hr Z7 N.m N.F.kp N.b .nil az (aa (pv 0) ac)))
  (ad (aq (i:=1) Gy.nd (ao cU (aH (aa eC ac)) (ay ax Z7 T.len Ay (aa (pv 0) ac))))
  (ad (aq (i:=2) Gy.nd ae)
  (ad (bp AV rfl (g9 Z7 T.range (aa ae (aa (ao aI (aJ (v:=.int 12) Z7 hm ⟨tm,rfl⟩) ae) ac))) (aG (i:=3) Gy.nd)
   (ad (aq (i:=2) Gy.nd (ao dP (pv 2) ae))
   (ag (bp AV rfl (iz Z7 T.enum (aa (pv 0) ac)) (dR rfl (bh (aG (i:=4) Gy.nd) (bh (aG (i:=5) Gy.nd) df)))
    (ag (aM (aA bE (pv 5) (pv 3) (aC _))
     (ad (fh (aO (aa (pv 2) (aa (pv 3) ac))) (gP (pv 1) (pv 4) eg))
     (ag (aq (i:=2) Gy.nd (ao aI (pv 2) ae)))) aF))))))
  (ag (aB (pv 1)))))),?_⟩
 refine aw λ _ g1=>⟨_,rfl,_,L,rfl,⟨a,rfl,hB,hb⟩,G,λ H1 s1=>g1 _ _ ?_⟩
 clear g1;have hl3:=G.le;refine aw λ _ g1=>⟨(by show 1≤sizeLine;decide),λ l0 n0=>?_⟩
 have s2:=ak (o:=.lst [.non]) n0;refine⟨_,rfl,a,_,rfl,.inl (Gf.of (s2 _ _ (s1 _ _ hB))),l0,_,_,rfl,rfl,af,Int.neg_ofNat_le_natCast (2^63) _,by rw [Aa];exact Int.ofNat_lt.2 (Be hl3 Z9),(by rw [Aa,AM];exact dO (by show 1*_≤_;lia)),λ l nl=>g1 _ _ ?_⟩;clear g1;have s3:=ak (o:=.lst (List.replicate L.length V.non)) nl;have ez:(List.replicate (((L.map vN).length:Nat):Int).toNat [V.non]).flatten=List.replicate L.length V.non:=by rw [Aa,AM,IB]
 try dsimp only
 rw [ez];have MN:(upd (upd H1 l0 (.lst [.non])) l (.lst (List.replicate L.length V.non))) l=↥(List.replicate L.length V.non):=af;have Q5:H l=none:=none_of (s1.trans s2) nl;have IL:=(s1.trans s2).trans s3;generalize upd (upd H1 l0 (.lst [.non])) l (.lst (List.replicate L.length V.non))=H3 at*;refine aw λ R1 g1=>g1 _ _ ?_
 clear g1;refine aw λ _ g1=>⟨_,_,rfl,rfl,1,13,rfl,⟨Z5,Z5,Z5,Z5⟩,?_⟩
 have en:((13:Int)-1).toNat=12:=Z9
 try dsimp only
 rw [en];refine du (D:=⟨_,_,λ _ _=>False,λ _ _=>False⟩) (lo:=1) (n:=12) (λ j σ H2=>∃v3 v4 v5:Option V,∃xs:List V,σ=[↑a,↑l,some (vN (ed L j)),v3,v4,v5]/\H2 l=↥xs/\CL H2 xs (row L j 0)/\C' H H2) ⟨none,none,none,_,rfl,MN,by rw [tJ];exact CL.none _ _,IL⟩ ?_ ?_
 ·clear g1 MN IL s3 nl;rintro j σ H2 hj ⟨v3,v4,v5,xs,rfl,G5,hC,sm⟩;have eb:(1:Int)+⇑j=⇑(j+1):=Z5
  try dsimp only
  rw [eb];have hes:=u4 hl3 (show j≤12 from Cz hj);refine aw λ _ g2=>⟨_,rfl,_,_,rfl,rfl,⟨Z5,Z5,Z5⟩,g2 _ _ ?_⟩
  clear g2;have ec:⇑(ed L j)*2^(1:Int).toNat=⇑(cdAt L 0 (j+1)):=by
   rw [vQ,show((1:Int).toNat)=1 from rfl];lia
  try dsimp only
  rw [ec];refine⟨_,rfl,a,_,rfl,Gf.of (sm _ _ hB),ug (D:=⟨_,_,λ _ _=>False,λ _ _=>False⟩) (K:=K) (a:=a) (xs:=L.map vN) (λ p σ H'=>∃v4 v5:Option V,∃xs:List V,σ=[↑a,↑l,some (vN (cdAt L p (j+1))),some (vN (j+1)),v4,v5]/\H' l=↥xs/\CL H' xs (row L j p)/\C' H H')
   ⟨v4,v5,xs,rfl,G5,hC,sm⟩ (λ i σ H' _ z9=>by obtain⟨_,_,_,_,_,_,e⟩:=z9;exact Gf.of (e _ _ hB)) ?_ ?_⟩
  ·rintro p y t σ H' hp ht ⟨v4,v5,xs,rfl,G5,hC,sm⟩;obtain⟨b,Ib,rfl⟩:=ck hp;have HZ:p<L.length:=(Af.mp Ib).1;have st:=ak (o:=.tup [vN p,vN b]) ht;refine⟨t,_,rfl,GF.of af,rfl,_,_,rfl,_,_,rfl,rfl,?_⟩;refine⟨_,rfl,_,rfl,rfl,_,rfl,bc (λ h1=>?_) (λ h1=>?_)⟩
   ·have e1:b=j+1:=Gr.mp (Am h1);rw [e1] at Ib st ⊢;refine aw λ _ g3=>⟨_,rfl,_,rfl,(by show 2≤sizeLine;decide),λ q nq=>?_⟩
    have sq:=ak (o:=.tup [vN (cdAt L p (j+1)),vN (j+1)]) nq;have SS:=sq _ _ (st _ _ G5);have hCq:CL _ xs (row L j p):=hC.keep λ t ys e=>sq _ _ (st _ _ e)
    refine⟨_,rfl,_,rfl,l,xs,_,p,rfl,rfl,SS,ixN_nat (by rw [hC.1,bv];exact HZ),g3 _ _ ?_⟩;clear g3;refine⟨_,rfl,_,_,rfl,rfl,?_⟩;have ec2:⇑(cdAt L p (j+1))+1=⇑(cdAt L (p+1) (j+1)):=by rw [mQ Ib];lia
    try dsimp only
    rw [ec2];refine⟨some (vN p),some (vN (j+1)),xs.set p (.ref q),rfl,af,?_,λ c o e=>?_⟩
    ·rw [ww Ib];refine(hCq.set (y:=.ref q) (d:=some (cdAt L p (j+1),j+1)) ⟨q,rfl,af⟩).keep λ t2 ys e=>?_
     rw [aj (aT e SS 'f')];exact e
    ·rw [aj (ai e Q5)];exact sq _ _ (st _ _ (sm _ _ e))
   ·have e1:L[p]?≠some (j+1):=by
     rw [Ib];intro z;cases z;exact h1 (Ae rfl)
    refine⟨some (vN p),some (vN b),xs,?_,st _ _ G5,?_,sm.trans st⟩
    ·rw [rF e1];rfl
    ·rw [tN e1];exact hC.keep λ t ys e=>st _ _ e
  ·rintro σ H' ⟨v4,v5,xs,rfl,G5,hC,sm⟩;rw [Aa] at hC ⊢;rw [mh];rw [uy] at hC;exact⟨_,_,_,xs,rfl,G5,hC,sm⟩
 ·rintro σ H2 ⟨v3,v4,v5,xs,rfl,G5,hC,sm⟩;exact g1 _ _ ⟨_,rfl,k l xs H2 Q5 sm G5 hC⟩
def u1 (r:Ge k A):A.units+1<cLine:=by have:=r.un;omega
abbrev kk (a b:Nat):List Key:=[.inl (a:Int),.inl (b:Int)]
def Ju:kk a b=kk c d<->a=c/\b=d:=by
 constructor
 ·intro h;injection h with h1 h2
  injection h2 with h2 _
  injection h1 with h1
  injection h2 with h2
  omega
 ·rintro⟨rfl,rfl⟩;rfl
def yJ:¬(("things":Str)="beginnings"):=Z8
noncomputable def fC (d e:FR):List (Str×V):=[("things",.ref d),("beginnings",.ref e)]
def qv (d e):putF "beginnings" (.ref e) (putF "things" (.ref d) [])=fC d e:=by
 show(if("things":Str)="beginnings" then _ else(("things":Str),V.ref d):: [("beginnings",V.ref e)])=_;rw [AH yJ];rfl
def yr (d e):(fC d e).lookup ("things":Str)=↑d:=by
 rw [<-qv,aK,AH yJ,aK,AK rfl]
def zw (d e):(fC d e).lookup ("beginnings":Str)=↑e:=by
 rw [<-qv,aK,AK rfl]
def Mb (d e){m:Str}(h1:autoParam (¬m="beginnings") ZY)(h2:autoParam (¬m="things") ZY):(fC d e).lookup m=none:=by
 rw [<-qv,aK,AH h1,aK,AH h2];rfl
def lK (L:'c')(n:Nat)(Gg:List (List Key×V)):Prop:=Gg.length≤n/\∀a b,(∀q,q<n->L[q]?=some b->1≤b->cdAt L q b=a->cy Gg (kk a b)=some (vN q))/\((∀q,q<n->L[q]?=some b->1≤b->cdAt L q b≠a)->cy Gg (kk a b)=none)
def lM (L:'c')(n:Nat)(Gg:List (List Key×V)):Prop:=Gg.length≤12*n/\∀a b,(cy Gg (kk a b)).isSome=true<->∃q s,q<n/\L[q]?=some s/\b<s/\cdAt L q s/2^(s-b)=a
structure Hk (C:FR)(H:Hp)(p d e:FR)(L:'c'):Prop where
 ob:∃dx,H p=some (.ins C dx (fC d e))
 th:∃Gg,H d=some (.dT Gg)/\lK L L.length Gg
 bg:∃Gg,H e=some (.dT Gg)/\lM L L.length Gg
structure Ud (K:Frag)(mg:Str->Option FS)(C:FR):Prop where
 cl:Cls K C
 nT:NoAttr K C "things"
 nB:NoAttr K C "beginnings"
inductive Oh (C:FR) (vs:List V) (H:Hp) (Q:VK) (Gj:XK):Prop
 |mk (p:_) (d:_) (e:_) (dx:_) (c:_) (s:_) (Gg:_) (h0:vs=[.ref p,vN c,vN s]) (h1:H p=some (.ins C dx (fC d e))) (h2:H e=some (.dT Gg)) (h3:Gg.length≤5000) (h4:s≤12) (h5:∀H' IY,H' e=some (.dT IY)->IY.length≤Gg.length+s->(∀a b,(cy IY (kk a b)).isSome=true<->(cy Gg (kk a b)).isSome=true\/(b<s/\c/2^(s-b)=a))->(∀x o,H x='g'->x≠e->H' x='g')->Q .non H'):Oh C vs H Q Gj
def Oj:y' ["self","code","length","size"] ["self","code","length"] (am sV):=Gw Z8
def vG (F:Hb K "keep_beginnings" "CodeReader.keep_beginnings" sV f fd)(T:Ud K mg C)(X:Txt K mg):'a' Gn 1 f fd ["self","code","length"] (Oh C):=by
 refine F.ok Oj ?_
 intro 'a';obtain⟨p,d,e,dx,c,s,Gg,rfl,hp,he,hl,hs,q⟩:=h;have Pw:p≠e:=aT hp he 'f';refine⟨_,ag (bp AV rfl (cZ Z7 X.range (aa (pv 2) ac)) (aG (i:=3) Oj.nd)
  (ag (pz (u1 hr) (bB (pv 0) rfl) (aO (aa (ao og (pv 1) (ao bd (pv 2) (pv 3))) (aa (pv 3) ac))) cO rfl))),?_⟩
 refine⟨_,rfl,(s:Int),rfl,Z4,Z4,?_⟩
 try dsimp only
 rw [AM];refine du (D:=⟨_,_,λ _ _=>False,λ _ _=>False⟩) (λ i σ H2=>∃v IY,σ=[↑p,some (vN c),some (vN s),v]/\H2 e=some (.dT IY)/\IY.length≤Gg.length+i/\
   (∀a b,(cy IY (kk a b)).isSome=true<->(cy Gg (kk a b)).isSome=true\/(b<i/\c/2^(s-b)=a))/\∀x o,H x='g'->x≠e->H2 x='g')
  ⟨none,Gg,rfl,he,Z4,λ a b=>⟨.inl,λ z=>z.elim id λ z=>absurd z.1 Z4⟩,λ x o e _=>e⟩ ?_ ?_
 ·rintro i σ H2 hi ⟨v,IY,rfl,Kd,G5,hv,HX⟩;have ei:(0:Int)+(i:Int)=(i:Int):=Z4
  try dsimp only
  rw [ei];have Hw:=HX _ _ hp Pw;refine⟨_,rfl,p,C,dx,_,_,rfl,Hw,T.cl,T.nB,zw _ _,?_⟩;refine⟨_,rfl,_,rfl,_,rfl,_,_,rfl,rfl,_,_,rfl,rfl,(by show(0:Int)≤(s:Int)-(i:Int);omega),_,rfl,(by show 2≤sizeLine;decide),λ t nt=>?_⟩;have e1:(c:Int)/2^((s:Int)-(i:Int)).toNat=⇑(c/2^(s-i)):=by
   rw [show((s:Int)-(i:Int)).toNat=s-i by omega];simp
  try dsimp only
  rw [e1];have net:e≠t:=ai Kd nt;refine⟨e,_,rfl,M5.t (k:=kk (c/2^(s-i)) i) (by rw [aj net];exact Kd) af (Be (show _≤6000 from Z4) Z9),?_⟩;refine⟨_,_,rfl,af,Ai (dM _ _ _) Z4,λ a b=>?_,λ x o ex hx=>?_⟩
  ·rw [iT];by_cases c1:kk a b=kk (c/2^(s-i)) i
   ·rw [AK c1];obtain⟨rfl,rfl⟩:=Ju.mp c1;exact⟨λ _=>.inr ⟨Z4,rfl⟩,λ _=>rfl⟩
   ·rw [AH c1,hv];constructor
    ·rintro(z|⟨z1,z2⟩)
     ·exact .inl z
     ·exact .inr ⟨Z4,z2⟩
    ·rintro(z|⟨z1,z2⟩)
     ·exact .inl z
     ·refine .inr ⟨?_,z2⟩;rcases A2 b i with h|h
      ·exact h
      ·have:b=i:=Z4;subst this;exact absurd (Ju.mpr ⟨z2.symm,rfl⟩) c1
  ·have h1:=HX x o ex hx;rw [aj hx,aj (ai h1 nt)];exact h1
 ·rintro σ H2 ⟨v,IY,rfl,Kd,G5,hv,HX⟩;exact q _ _ Kd G5 hv HX
def wx (L):lK L 0 []:=⟨Ak _,λ a b=>⟨λ q hq=>absurd hq Z4,λ _=>rfl⟩⟩
def wC (L):lM L 0 []:=by
 refine⟨A1 _,λ a b=>⟨λ h=>?_,λ z9=>by obtain⟨q,s,hq,_⟩:=z9;exact absurd hq Z4⟩⟩;cases h
def wO (h:lK L n Gg)(h0:∀s,L[n]?=some s->¬1≤s):lK L (n+1) Gg:=by
 refine⟨Ai h.1 (DD _),λ a b=>⟨λ q hq hb h1 hc=>?_,λ hn=>(h.2 a b).2 λ q hq=>hn q Z4⟩⟩;rcases A2 q n with z|z
 ·exact(h.2 a b).1 q z hb h1 hc
 ·have:q=n:=Z4;subst this;exact absurd h1 (h0 b hb)
def wU (h:lM L n Gg)(h0:∀s,L[n]?=some s->¬1≤s):lM L (n+1) Gg:=by
 refine⟨Ai h.1 Z4,λ a b=>(h.2 a b).trans ⟨λ z9=>by obtain⟨q,s,hq,r⟩:=z9;exact⟨q,s,Z4,r⟩,λ z9=>?_⟩⟩;obtain⟨q,s,hq,h1,h2,h3⟩:=z9;rcases A2 q n with z|z
 ·exact⟨q,s,z,h1,h2,h3⟩
 ·have:q=n:=Z4;subst this;exact absurd Z4 (h0 s h1)
def yx (h:lK L n Gg)(hs:L[n]?=some s)(h1:1≤s):lK L (n+1) (putK Gg (kk (cdAt L n s) s) (vN n)):=by
 refine⟨Ai (dM _ _ _) (by have:=h.1;omega),λ a b=>⟨λ q hq hb Ib hc=>?_,λ hn=>?_⟩⟩
 ·rw [iT];by_cases c:kk a b=kk (cdAt L n s) s
  ·obtain⟨rfl,rfl⟩:=Ju.mp c;rw [AK rfl,ua hb hs hc]
  ·rw [AH c];rcases A2 q n with z|z
   ·exact(h.2 a b).1 q z hb Ib hc
   ·have:q=n:=Z4;subst this;rw [hs] at hb;cases hb;exact absurd (Ju.mpr ⟨hc.symm,rfl⟩) c
 ·rw [iT,AH]
  ·exact(h.2 a b).2 λ q hq=>hn q Z4
  ·intro c;obtain⟨rfl,rfl⟩:=Ju.mp c;exact hn n Z4 hs h1 rfl
def yI (h:lM L n Gg)(hs:L[n]?=some s)(UB:s≤12)(hl:IY.length≤Gg.length+s)
  (hv:∀a b:Nat,(cy IY (kk a b)).isSome=true<->(cy Gg (kk a b)).isSome=true\/(b<s/\cdAt L n s/2^(s-b)=a)):lM L (n+1) IY:=by
 refine⟨by have:=h.1;omega,λ a b=>(hv a b).trans ?_⟩;rw [h.2 a b];constructor
 ·rintro(⟨q,r,hq,z⟩|⟨z1,z2⟩)
  ·exact⟨q,r,Z4,z⟩
  ·exact⟨n,s,Z4,hs,z1,z2⟩
 ·rintro⟨q,r,hq,z1,z2,z3⟩;rcases A2 q n with z|z
  ·exact .inl ⟨q,r,z,z1,z2,z3⟩
  ·have:q=n:=Z4;subst this;rw [hs] at z1;cases z1;exact .inr ⟨z2,z3⟩
inductive Mu (C:FR) (vs:List V) (H:Hp) (Q:VK) (Gj:XK):Prop
 |mk (p:_) (dx:_) (a:_) (L:_) (h0:vs=[.ref p,.ref a]) (h1:H p=some (.ins C dx [])) (h2:H a=↥(L.map vN)) (h3:Good L) (h4:∀d e H',H d=none->H e=none->Hk C H' p d e L->(∀b o,H b='g'->b≠p->H' b='g')->Q .non H'):Mu C vs H Q Gj
def HN:y' ["self","lengths","place","pair"] ["self","lengths"] (am kR):=Gw Z8
structure Yl (K:Frag)(mg:Str->Option FS)(C:FR):Prop where
 X:Txt K mg
 Y:QG K mg
 need:∃f fd,'h' "need_lengths" d5 Jae f fd
 cof:∃f fd,'h' "codes_of" fb Jae f fd
def bt (R:'c'):List Bool:=BP.dig (BP.val R) (8*R.length)
def Hv (R):(bt R).length=8*R.length:=BP.Gk _ _
theorem pJ (n):∀m i,i<m->(BP.dig n m)[i]?=some (decide (n/2^(m-1-i)%2=1))
 |m+1,0,_=>by
  show some _=some _;rfl
 |m+1,i+1,h=>by
  show(BP.dig n m)[i]?=_;rw [pJ n m i Z4,show m+1-1-(i+1)=m-1-i by omega]
def xo (h:t+s<8*R.length):∃b,((bt R).drop t).take (s+1)=((bt R).drop t).take s++[b]/\BP.val R/2^(8*R.length-(t+s+1))%2^1=b.toNat:=by
 refine⟨decide (BP.val R/2^(8*R.length-1-(t+s))%2=1),?_,?_⟩
 ·rw [Bl,Dz];unfold bt;rw [pJ _ _ _ h];rfl
 ·rw [show 8*R.length-(t+s+1)=8*R.length-1-(t+s) by omega,Nat.pow_one];have h2:=Nat.mod_lt (BP.val R/2^(8*R.length-1-(t+s))) (show 0<2 from Z9);by_cases c:BP.val R/2^(8*R.length-1-(t+s))%2=1
  ·rw [Ae c,c];rfl
  ·rw [Bt c];show _=0;omega
def zW:¬(("things":Str)="held"):=Z8
def Hk.keep (h:Hk C H p d e L)(s:∀c o,H c='g'->(c=p\/c=d\/c=e)->H' c='g'):Hk C H' p d e L:=by
 obtain⟨⟨dx,h1⟩,⟨k1,h2,JU⟩,⟨k2,h3,O4⟩⟩:=h;exact⟨⟨dx,s _ _ h1 (.inl rfl)⟩,⟨k1,s _ _ h2 (.inr (.inl rfl)),JU⟩,⟨k2,s _ _ h3 (.inr (.inr rfl)),O4⟩⟩
def Hk.same (h:Hk C H p d e L)(s:C' H H'):Hk C H' p d e L:=h.keep λ c o e _=>s _ _ e
def wG (h:lM L L.length Gg)(u:List Bool):(cy Gg (kk (BP.num u) u.length)).isSome=true<->Nk L u:=by
 rw [h.2];constructor
 ·rintro⟨q,s,_,h1,h2,h3⟩;exact⟨q,s,h1,h2,h3⟩
 ·rintro⟨q,s,h1,h2,h3⟩;exact⟨q,s,(Af.mp h1).1,h1,h2,h3⟩
def wp (h:lK L L.length Gg)(u:List Bool):(∀q,dQ L u q->cy Gg (kk (BP.num u) u.length)=some (vN q))/\((∀q,¬dQ L u q)->cy Gg (kk (BP.num u) u.length)=none):=by
 refine⟨λ q ⟨h1,h2,h3⟩=>(h.2 _ _).1 q (Af.mp h1).1 h1 h2 h3,λ hn=>(h.2 _ _).2 λ q _ h1 h2 h3=>hn q ⟨h1,h2,h3⟩⟩
def HL:y' ["self","reader","begin","code","size"] ["self","reader"] (am oo):=Gw Z8
end K21.C
namespace K21
open PySem L2 QQ W17 W16 BP
def th:Pc->Nat
 | .sg s=>s
 | .cp _ z=>253+z
noncomputable def cP (L:'c'):Pc->List (Nat×Nat)
 | .sg s=>[(C9.cdAt L s (L.getD s 0),L.getD s 0)]
 | .cp b z=>[(C9.cdAt L (253+z) (L.getD (253+z) 0),L.getD (253+z) 0),(b,8)]
def hP (L:'c')(P:List Pc):List (Nat×Nat):=P.flatMap (cP L)
def cn (Q:'c'):'c':=(List.range 272).map λ q=>Q.count q
def sj (L)(P Q:List Pc):hP L (P++Q)=hP L P++hP L Q:=by simp [hP]
def vM (L)(x)(P):hP L (x::P)=cP L x++hP L P:=by simp [hP]
def yo (L)(x:Pc):hP L [x]=cP L x:=by simp [hP]
def dA (Q:'c'):(cn Q).length=272:=by simp [cn]
theorem GR.all:∀{P} {B},GR B P->∀x∈P,∃B',gX B' x
 |y::P,B,h,x,hx=>by
  rcases AB.mp hx with rfl|hx
  ·exact⟨B,h.1⟩
  ·exact GR.all h.2 x hx
def vh (h:gX B x):th x<272:=by
 cases x with
 |sg s=>have:s<256:=h;show s<272;exact Be (B9 this) Z9
 |cp b z=>
  obtain⟨_,_,_,_,h5⟩:1≤b/\b≤255/\b≤B.length/\3≤z/\z≤18:=h;show 253+z<272;lia
structure Ye (L:'c')(Pp:List Pc):Prop where
 good:C9.Good L
 len:L.length=272
 six:∀b∈L,b≤6
 has:∀x∈Pp,1≤L.getD (th x) 0
def Ye.at (h:Ye L Pp)(hx:x∈Pp)(g:gX B x):L[th x]?=some (L.getD (th x) 0)/\1≤L.getD (th x) 0/\L.getD (th x) 0≤6:=by
 have hl:th x<L.length:=by rw [h.len];exact vh g
 have e:L[th x]?=some (L.getD (th x) 0):=by rw [AO,Ad hl];rfl
 exact⟨e,h.has x hx,h.six _ (AX e)⟩
def vO (six:∀b∈L,b≤6)(x):tots (cP L x)≤14:=by
 have six:∀n,L.getD n 0≤6:=λ n=>by
  rw [AO];cases e:L[n]? with
  |none=>exact A1 _
  |some y=>exact six y (AX e)
 cases x with
 |sg s=>have:=six s;show L.getD s 0+0≤14;exact Ai this Z9
 |cp b z=>have:=six (253+z);show L.getD (253+z) 0+(8+0)≤14;exact Nat.add_le_of_le_sub Z9 this
theorem o5 (six:∀b∈L,b≤6):∀P:List Pc,tots (hP L P)≤14*P.length
 | []=>Ak _
 |x::P=>by
  rw [vM,aR,Ar];have:=o5 six P;have:=vO six x;lia
theorem lF:∀{It:List W13.Itm} (a:Nat),(∀x∈It,W13.U3 x)->tots (W13.puts It)≤3*(W13.Jb a It).length
 | [],_,_=>Ak _
 |x::It,a,h=>by
  have hx:=h x Z6;have e:W13.puts (x::It)=x.puts++W13.puts It:=by simp [W13.puts]
  rw [e,aR];cases x with
  |one y=>
   have ih:=lF (It:=It) y λ z hz=>h z (by simp [hz])
   show(3+0)+tots (W13.puts It)≤3*((W13.Jb y It).length+1);lia
  |rep r=>
   have ih:=lF (It:=It) a λ z hz=>h z (by simp [hz])
   have hr:3≤r/\r≤66:=hx;show(3+(6+0))+tots (W13.puts It)≤3*(List.replicate r a++W13.Jb a It).length;rw [Ac,Al];lia
def wV (hl:L.length=272){It:List W13.Itm}(h:W13.Walk L 0 0 It 272 b):W13.Jb 0 It=L:=by
 have:=W13.KS h;rw [DV,Bj,<-hl,AT] at this;exact this.symm
theorem qd:∀{P P':List W13.Itm} {p a b b':Nat},W13.Walk L p a P L.length b->W13.Walk L p a P' L.length b'->P=P'
 | [],[],_,_,_,_,_,_=>rfl
 | [],x::P',p,a,b,b',h,h'=>by have:=h.1;have:=h'.1;lia
 |x::P,[],p,a,b,b',h,h'=>by have:=h'.1;have:=h.1;lia
 |x::P,x'::P',p,a,b,b',h,h'=>by
  obtain⟨_,e,h⟩:=h;obtain⟨_,e',h'⟩:=h';subst e;subst e';rw [qd h h']
theorem kD (a)(Q):∀n,((List.range n).map λ q=>(a::Q).count q).sum=((List.range n).map λ q=>Q.count q).sum+if a<n then 1 else 0
 |0=>rfl
 |n+1=>by
  rw [E7,Aw,CT,Aw,CT,kD a Q n];simp only [Bz,Fk,DL,List.sum_nil,DC];by_cases e:a=n
  ·subst e;rw [AH (BK _),AK (Dr _)];simp;lia
  ·have:(a==n)=false:=by simp [e]
   rw [this];by_cases l:a<n
   ·have l2:a<n+1:=Fu l;rw [AK l,AK l2];simp;lia
   ·have l2:¬a<n+1:=λ z=>e (A8 (B4 z) (FN.mp l))
    rw [AH l,AH l2];simp
def x0 (Q){q:Nat}(h:q<272):Q.count q∈cn Q:=by
 unfold cn;exact BH.mpr ⟨q,C7.mpr h,rfl⟩
def sk (h:b∈cn Q):∃q,b=Q.count q:=by
 unfold cn at h;obtain⟨q,_,e⟩:=BH.mp h;exact⟨q,e.symm⟩
theorem vi:∀Q:List Nat,(cn Q).sum≤Q.length
 | []=>by
  have:∀n,((List.range n).map λ q=>([]:'c').count q).sum=0:=λ n=>by
   induction n with
   |zero=>rfl
   |succ n ih=>rw [E7,Aw,CT,ih];rfl
  show((List.range 272).map λ q=>([]:'c').count q).sum≤0;rw [this];exact Ak _
 |a::Q=>by
  have ih:=vi Q;have e:=kD a Q 272;have ih':((List.range 272).map λ q=>Q.count q).sum≤Q.length:=ih;show((List.range 272).map λ q=>(a::Q).count q).sum≤Q.length+1;rw [e]
  split<;>lia
theorem m7:∀C:List Nat,(C.filter (λ b=>decide (0<b))).length≤C.sum
 | []=>Ak _
 |a::C=>by
  have ih:=m7 C;rw [DY,DL];by_cases h:0<a
  ·rw [AK (Ae h),Ar];lia
  ·rw [AH (by simpa using h)];exact Nat.le_add_left_of_le ih
def uN (C):C.filter (λ b=>decide (0<b))=(S.pos C).map (S.cw C):=by
 have e:C=(List.range C.length).map (S.cw C):=by
  apply B5;intro i;rw [AU];by_cases h:i<C.length
  ·rw [Dn h,Ad h];simp [S.cw,AO,h]
  ·rw [A4 (BF h),A4 (by simp;exact BF h)];rfl
 conv=>lhs;rw [e]
 rw [E6];rfl
def tz (Q){q:Nat}(h:q<272):S.cw (cn Q) q=Q.count q:=by
 simp [S.cw,cn,AO,h]
seal cn
def yP {Q:'c'}(hq:∀q∈Q,q<272)(h1:1≤Q.length)(G6:Q.length≤30):(∀b∈cn Q,b≤1000000)/\1≤(cn Q).length/\(cn Q).length≤300/\(∃b∈cn Q,0<b)/\1≤6/\6≤12/\((cn Q).filter (λ b=>decide (0<b))).length≤2^6/\(S.pos (cn Q)).length≤30/\1≤(S.pos (cn Q)).length/\(S.pos (cn Q)).length≤2^6:=by
 have hf:=m7 (cn Q);have hs:=vi Q;have hp:(S.pos (cn Q)).length=((cn Q).filter (λ b=>decide (0<b))).length:=by rw [uN,Aa]
 have h0:∃b∈cn Q,0<b:=by
  obtain⟨a,ha⟩:=ER h1;exact⟨_,x0 Q (hq a ha),Ej.mpr ha⟩
 refine⟨λ b hb=>?_,by rw [dA];decide,by rw [dA];decide,h0,Z9,Z9,Z4,Z4,?_,Z4⟩
 ·obtain⟨q,rfl⟩:=sk hb;have:=List.count_le_length (a:=q) (l:=Q);lia
 ·rw [hp];obtain⟨b,hb,hb0⟩:=h0;exact List.length_pos_iff.mpr (List.ne_nil_of_mem (Cb.mpr ⟨hb,Ae hb0⟩))
def Nh (Q:'c')(L:'c'):Prop:=∃ln:Nat->Nat,S.M4 (cn Q) 6 ln/\L=(List.range 272).map ln/\PM.LC (S.pos (cn Q)) (S.cw (cn Q)) 6 ln
theorem Nh.uniq {Q L L':'c'}(h:Nh Q L)(h':Nh Q L'):L=L':=by
 obtain⟨ln,h1,rfl,_⟩:=h;obtain⟨ZR,h2,rfl,_⟩:=h';rw [h1.uniq h2]
def MD:q∈S.pos (cn Q)<->q<272/\q∈Q:=by
 unfold S.pos;rw [Cb,C7,dA];constructor
 ·rintro⟨h1,h2⟩;rw [tz Q h1] at h2;exact⟨h1,Ej.mp (Am h2)⟩
 ·rintro⟨h1,h2⟩;refine⟨h1,Ae ?_⟩;rw [tz Q h1];exact Ej.mpr h2
def Nh.ok (hq:∀q∈Q,q<272)(h1:1≤Q.length)(h:Nh Q L):C9.Good L/\L.length=272/\(∀b∈L,b≤6)/\∀q∈Q,1≤L.getD q 0:=by
 obtain⟨ln,_,rfl,b1,b2,b3⟩:=h;have get:∀q,q<272->((List.range 272).map ln).getD q 0=ln q:=λ q hq=>by simp [AO,hq]
 have le6:∀q,ln q≤6:=λ q=>by
  by_cases m:q∈S.pos (cn Q)
  ·exact(b1 q m).2
  ·rw [b2 q m];decide
 have six:∀b∈(List.range 272).map ln,b≤6:=λ b hb=>by
  obtain⟨q,_,rfl⟩:=BH.mp hb;exact le6 q
 have Ij:∀q∈Q,1≤ln q:=λ q m=>(b1 q (MD.mpr ⟨hq q m,m⟩)).1
 have ek:C9.krf 6 ((List.range 272).map ln)=((S.pos (cn Q)).map λ p=>2^(6-ln p)).sum:=by
  unfold C9.krf S.pos;rw [E6,BO,dA];have:(List.range 272).filter ((λ l=>decide (0<l))∘ln)=(List.range 272).filter (λ p=>decide (0<S.cw (cn Q) p)):=by
   refine List.filter_congr λ q Lm=>?_
   have Lg:=C7.mp Lm;show decide (0<ln q)=decide (0<S.cw (cn Q) q);rw [tz Q Lg];by_cases m:q∈Q
   ·rw [Ae (show 0<ln q from Ij q m),Ae (Ej.mpr m)]
   ·have z:=b2 q (λ z=>m (MD.mp z).2);rw [z,Fm.mpr m]
  rw [this];rfl
 refine⟨⟨Z6,Z6,λ l hl=>Ai (six l hl) Z9,?_,?_⟩,Z6,six,λ q m=>by rw [get q (hq q m)];exact Ij q m⟩
 ·obtain⟨a,ha⟩:=ER h1;exact⟨ln a,BH.mpr ⟨a,C7.mpr (hq a ha),rfl⟩,Ij a ha⟩
 ·rw [C9.Om Z9 _ six,ek];have:2^(12-6)*((S.pos (cn Q)).map λ p=>2^(6-ln p)).sum≤2^(12-6)*2^6:=Cg _ b3;exact this
def Nh.tok (g:GR W Pp)(h1:1≤Pp.length)(h:Nh (Pp.map th) L):Ye L Pp:=by
 have hq:∀q∈Pp.map th,q<272:=λ q hq=>by
  obtain⟨x,hx,rfl⟩:=BH.mp hq;obtain⟨_,gx⟩:=g.all x hx;exact vh gx
 obtain⟨a,b,c,d⟩:=h.ok hq (by rw [Aa];exact h1);exact⟨a,b,c,λ x hx=>d _ (BH.mpr ⟨x,hx,rfl⟩)⟩
end K21
namespace K21
open PySem L2 QQ W17 W16 BP
seal PE PA PS PSs PT PW PG PI
def uk {pos:Pos}(h:∃t,X.mg x=some (.int c t))(hg:Gl X x)(hd:'e'):PE X (.Name x pos) (tC (.int c)):=by
 obtain⟨t,h⟩:=h;exact aJ hg h ⟨t,rfl⟩ hd
structure V7 (K:Frag)(mg:Str->Option FS):Prop where
 X:Txt K mg
 whole:∃f fd,'h' "is_whole" bQ Jaa f fd
 arewhole:∃f fd,'h' "are_whole" bV Jaa f fd
 things:∃f fd,'h' "are_of_things" eE ["thing","most"] f fd
 need:∃f fd,'h' "need_shares" qh Jam f fd
 weight:∃f fd,'h' "weight_of" gB ["bundle"] f fd
 pairs:∃f fd,'h' "in_pairs" jo ["bundles"] f fd
 light:∃f fd,'h' "lightest_bundles" li ["singles","most"] f fd
 lengths:∃f fd,S.Ub K mg "lengths_of" i6 Jam f fd
inductive IJ (vs:List V) (H:Hp) (Q:VK) (Gj:XK):Prop
 |mk (t:_) (x:_) (h0:vs=[.ref t]) (h1:H t=some (.tup (itm x))) (h2:Q (vN (th x)) H):IJ vs H Q Gj
def qH:y' ["piece"] ["piece"] (am ji):=Gw Z8
def n8 (F:'h' "thing_of" ji ["piece"] f fd)(T:Txt K mg):'a' Gn 1 f fd ["piece"] IJ:=by
 refine F.F.ok qH ?_
 intro 'b';obtain⟨t,x,rfl,ht,k⟩:=h;refine⟨_,ad (aM (aA bE (aU bL (pv 0) ae (λ _ _=>rfl)) aX (aC _)) (ag (aB (aU bL (pv 0) ae (λ _ _=>rfl)))) aF)
  (ag (aB (ao bd (ao aI (uk T.first Z7) (aU bL (pv 0) ae (λ _ _=>rfl))) (uk T.least Z7)))),?_⟩
 cases x with
 |sg s=>
  refine⟨_,rfl,t,_,_,_,rfl,rfl,GF.of ht,aD rfl,rfl,_,rfl,bc (λ _=>?_) (λ h=>absurd (Ae rfl) h)⟩;exact⟨_,rfl,t,_,_,_,rfl,rfl,GF.of ht,aD rfl,k⟩
 |cp b z=>
  refine⟨_,rfl,t,_,_,_,rfl,rfl,GF.of ht,aD rfl,rfl,_,rfl,bc (λ h=>absurd (Am h) sQ) (λ _=>?_)⟩;refine⟨_,rfl,t,_,_,_,rfl,rfl,GF.of ht,aD rfl,_,_,rfl,rfl,_,_,rfl,rfl,?_⟩;have e:(256:Int)+⇑z-3=⇑(253+z):=Z5
  try dsimp only
  rw [e];exact k
inductive KZ (vs:List V) (H:Hp) (Q:VK) (Gj:XK):Prop
 |mk (a:_) (Qs:_) (h0:vs=[.ref a]) (h1:H a=↥(Qs.map vN)) (h2:(∀q∈Qs,q<272)) (h3:1≤Qs.length) (h4:Qs.length≤30) (h5:∀l L H',H l=none->C' H H'->H' l=↥(L.map vN)->Nh Qs L->Q (.ref l) H'):KZ vs H Q Gj
def Il:y' ["things","counts","thing"] ["things"] (am ic):=Gw Z8
def xX {Qs:'c'}(h:Qs[i]?=some q)(hq:q<272):((cn (Qs.take i)).map vN).set q (vN ((Qs.take i).count q+1))=(cn (Qs.take (i+1))).map vN:=by
 have e1:∀A,(cn A).map vN=(List.range 272).map λ p=>vN (A.count p):=λ A=>by unfold cn;rw [BO];rfl
 rw [e1,e1];refine S.set_range λ p=>?_
 show(Qs.take (i+1)).count p=(Qs.take i).count p+ [q].count p;rw [eN h,CP]
def ym:(List.replicate 272 [vN 0]).flatten=(cn []).map vN:=by
 have e1:(cn []).map vN=(List.range 272).map λ _=>vN 0:=by unfold cn;rw [BO];rfl
 rw [e1,FK,CS];generalize 272=n
 induction n with
 |zero=>rfl
 |succ n ih=>rw [Bh,CQ,ih,Bh];rfl
def mx (F:'h' "shares_of" ic ["things"] f fd)(Y:V7 K mg):'a' Gn 34 f fd ["things"] KZ:=by
 obtain⟨T,⟨_,_,Wh⟩,⟨_,_,AW⟩,⟨_,_,Th⟩,⟨_,_,Ne⟩,⟨_,_,We⟩,⟨_,_,Pa⟩,⟨_,_,Li⟩,⟨_,_,Le⟩⟩:=Y;obtain⟨t6,B6⟩:=Le.d;refine F.F.ok Il ?_
 intro 'a';obtain⟨a,Qs,rfl,ha,hq,h1,G6,k⟩:=h;refine⟨_,ad (aq (i:=1) Il.nd (ao cU (aH (aa ae ac)) (uk T.many Z7)))
  (ad (bp AV rfl (bi (pv 0)) (aG (i:=2) Il.nd) (ag (fh (ao aI (aU aW (pv 1) (pv 2) (λ _ _=>rfl)) ae) (gP (pv 1) (pv 2) eg))))
  (ag (aB (ap (S.LO Le Ne Th AW Wh Li Pa We T) hr Z7 Le.m Le.kp B6 (.cons (a:=V.int 6) ⟨_,rfl⟩ .nil) az (aa (pv 1) ac))))),?_⟩
 refine aw λ _ g1=>⟨(by show 1≤sizeLine;decide),λ l4 n4=>?_⟩
 have s4:=ak (o:=.lst [V.int 0]) n4;have MS:(upd H l4 (.lst [V.int 0])) l4=↥[vN 0]:=af;generalize upd H l4 (.lst [V.int 0])=H4 at*;refine⟨l4,_,_,rfl,rfl,MS,Z9,Z9,(by show 1*272≤sizeLine;decide),λ l5 n5=>g1 _ _ ?_⟩;clear g1;have s5:=ak (o:=.lst ((List.replicate 272 [vN 0]).flatten)) n5;have Ry:(upd H4 l5 (.lst ((List.replicate (272:Int).toNat [vN 0]).flatten))) l5=↥((cn (Qs.take 0)).map vN):=by
  rw [af];exact Bx (λ z=>some (HO.lst z)) ym
 have Su:H l5=none:=none_of s4 n5;have Qg:C' H (upd H4 l5 (.lst ((List.replicate (272:Int).toNat [vN 0]).flatten))):=s4.trans s5;generalize upd H4 l5 (.lst ((List.replicate (272:Int).toNat [vN 0]).flatten))=H5 at*;clear s5 s4 MS;have Kz:a≠l5:=ai ha Su;refine aw λ _ g1=>⟨_,rfl,a,rfl,⟨_,Gf.of (Qg _ _ ha)⟩,bH (λ i σ H7=>∃v,σ=[↑a,↑l5,v]/\H7 l5=↥((cn (Qs.take i)).map vN)/\∀c o,c≠l5->H5 c='g'->H7 c='g')
  ⟨none,rfl,Ry,λ _ _ _ e=>e⟩ (λ i σ H7 _ z9=>by obtain⟨_,_,_,kp⟩:=z9;exact Gf.of (kp _ _ Kz (Qg _ _ ha))) ?_ ?_⟩
 ·clear g1;rintro i y σ H7 hi ⟨v,rfl,h7,kp⟩;obtain⟨q,SE,rfl⟩:=ck hi;have Ri:=hq q (AX SE);have hg:((cn (Qs.take i)).map vN)[q]?=some (vN ((Qs.take i).count q)):=by
   unfold cn;rw [AU,AU,Dn Ri];rfl
  have e2:⇑((Qs.take i).count q)+1=⇑((Qs.take i).count q+1):=Int.ofNat_add_one_out _;refine⟨_,rfl,_,rfl,l5,_,_,_,rfl,rfl,Gf.of h7,aD hg,_,_,rfl,rfl,?_⟩
  try dsimp only
  rw [e2];refine⟨_,rfl,_,rfl,l5,_,_,q,rfl,rfl,h7,S.ixN_nat (by rw [Aa,dA];exact Ri),some (vN q),rfl,?_,λ c o n e=>?_⟩
  ·rw [af,xX SE Ri]
  ·rw [aj n];exact kp _ _ n e
 ·rintro σ H7 ⟨v,rfl,h7,kp⟩;rw [Aa,AT] at h7;refine g1 _ _ ?_;clear g1;have ZA:C' H H7:=λ c o e=>kp _ _ (ai e Su) (Qg _ _ e)
  obtain⟨q1,q2,q3,q4,q5,q6,q7,q8,q9,Wt⟩:=yP hq h1 G6;refine⟨_,rfl,l5,cn Qs,6,rfl,h7,q1,q2,q3,q4,q5,q6,q7,q8,q9,Wt,λ l ln H8 nl s8 hl hb Xc=>?_⟩;refine k l ((List.range 272).map ln) H8 (none_of ZA nl) (ZA.trans s8) ?_ ⟨ln,Xc,rfl,hb⟩;rw [hl,dA,BO];rfl
structure Yq (K:Frag)(mg:Str->Option FS)(D C:FR):Prop where
 M:K21.C.Yl K mg C
def qP:y' ["reader"] ["reader"] (am iQ):=Gw Z8
def si:y' ["reader","codes"] ["reader","codes"] (am jC):=Gw Z8
structure V6 (K:Frag)(mg:Str->Option FS)(B D C:FR):Prop where
 Y:NL K mg
 Zb:OK K mg B
 Sh:V7 K mg
 Cd:Yq K mg D C
 thingof:∃f fd,'h' "thing_of" ji ["piece"] f fd
 sharesof:∃f fd,'h' "shares_of" ic ["things"] f fd
 needtab:∃f fd,'h' "need_table" eK Jae f fd
 again:∃f fd,'h' "again_from" kH ["lengths","place","ahead"] f fd
 puttab:∃f fd,'h' "put_table" ib ["bits","lengths"] f fd
inductive K1 (B:FR) (vs:List V) (H:Hp) (Q:VK) (Gj:XK):Prop
 |mk (o:_) (p:_) (d:_) (a:_) (x:_) (T:_) (W:_) (Pp:_) (N:_) (T0:_) (h0:vs=[.ref o,.ref p,.ref a,x]) (h1:Gh B H p d N T0) (h2:T0≤1000) (h3:H a=↥(T.map vN)) (h4:(∀b∈T,b<256)) (h5:1≤T.length) (h6:T.length≤30) (h7:Hd H x W) (h8:(∀b∈W,b<256)) (h9:W.length≤192) (PN:Walk (W++T) W.length Pp (W++T).length) (OH:∀L (It:List W13.Itm) (b:Nat) (H':Hp),Nh (Pp.map th) L->W13.Walk L 0 0 It 272 b->Gh B H' p d (eS (W13.puts It++hP L Pp) N) (T0+tots (W13.puts It++hP L Pp))->(∀c o,H c='g'->c≠p->c≠d->H' c='g')->Q .non H'):K1 B vs H Q Gj
def G':y' ["self","bits","text","before","pieces","lengths","codes","piece","pair"] Jab (am iy):=Gw Z8
def zU:(["piece"]:List Str).Nodup:=Z8
def yO:TE:=dJ IJ [] E0 (aP (Gs 0) bF)
def vS (h:Walk S p Pp q)(hpq:p<q):1≤Pp.length:=by
 cases Pp with
 |nil=>have:p=q:=h;lia
 |cons x Pp=>simp
def rP (F:Hb K "tell" "ShareWay.tell" iy f fd)(A0:V6 K mg B D C):'a' Gn 35 f fd Jab (K1 B):=by
 obtain⟨⟨Vi,⟨_,_,Po⟩,⟨_,_,Na⟩,⟨_,_,Ns⟩⟩,Z,Sh,Cd,⟨_,_,To⟩,⟨_,_,So⟩,⟨_,_,Nt⟩,⟨_,_,Ag⟩,⟨_,_,Pt⟩⟩:=A0;obtain⟨_,_,Nr⟩:=Vi.needrow;obtain⟨_,_,Nw⟩:=Vi.needwin;have X:=Vi.R.X;have GTh:=n8 (P:=P) (w:=w) (base:=base) To X;obtain⟨_,_,Nl⟩:=Cd.M.need;obtain⟨_,_,Co⟩:=Cd.M.cof;have GC:=K21.C.JG (P:=P) (w:=w) (base:=base) Co Nl Cd.M.Y;obtain⟨_,_,Wh⟩:=Z.R.whole;obtain⟨_,_,Sz⟩:=Z.needsize;obtain⟨_,_,O⟩:=Z.ones;obtain⟨_,_,Pu⟩:=Z.put;obtain⟨_,_,M⟩:=Z.move;have TB:=Z.T;have GP:=g7 (P:=P) (w:=w) (base:=base) Pu.F Sz Wh O M TB X;refine F.ok G' ?_
 intro 'a';obtain⟨o,p,d,a,x,T,W,Pp,N,T0,rfl,hB,NI,ha,Lj,h1,G6,hx,MP,OZ,Rc,k⟩:=h;have Gz:Ge 1 _:=hr.mono Z9;have HS:Ge 3 _:=hr.mono Z9;have W3:Ge 7 _:=hr.mono Z9;have Pe:Ge 32 _:=hr.mono Z9;have JP:Ge 33 _:=hr.mono Z9;refine⟨_,ad (aE (ap (ok_needsigns Ns Na Nw Nr Vi.R) W3 Z7 Ns.m Ns.F.kp Ns.b .nil az (aa (pv 2) (aa (pv 3) ac))))
  (ad (aq (i:=4) G'.nd (ap (ik Po Vi) Pe Z7 Po.m Po.kp Po.b .nil az (aa (pv 2) (aa (pv 3) ac))))
  (ad (aq (i:=5) G'.nd (ap (mx So Sh) hr Z7 So.m So.F.kp So.b .nil az (aa (iB (g:=bw 0) (te:=yO) rfl rfl Z8 Z8 Z8 (bi (pv 4)) (λ fp s H=>aG (i:=0) zU) (λ fp s H=>ap GTh Gz Z7 To.m To.F.kp To.b .nil az (aa (pv 0) ac))) ac)))
  (ad (aq (i:=6) G'.nd (ap GC JP Z7 Co.m Co.F.kp Co.b .nil az (aa (pv 5) ac)))
  (ad (aE (ap (Tb.Lb Pt Nt Ag Z) Pe Z7 Pt.m Pt.F.kp Pt.b .nil az (aa (pv 1) (aa (pv 5) ac))))
  (ag (bp AV rfl (bi (pv 4)) (aG (i:=7) G'.nd) (ad (aq (i:=8) G'.nd (aU aW (pv 6) (ap GTh Gz Z7 To.m To.F.kp To.b .nil az (aa (pv 7) ac)) (λ _ _=>rfl)))
  (ad (aE (aN (pv 1) TB.cl Pu.m GP HS Pu.b .nil az (aa (aU bL (pv 8) ae (λ _ _=>rfl)) (aa (aU bL (pv 8) ae (λ _ _=>rfl)) ac))))
  (ag (aM (aA bE (aU bL (pv 7) ae (λ _ _=>rfl)) aX (aC _)) (ag (aE (aN (pv 1) TB.cl Pu.m GP HS Pu.b .nil az (aa (aU bL (pv 7) ae (λ _ _=>rfl)) (aa ae ac))))) aF)))))))))),?_⟩
 refine aw λ _ g1=>⟨_,rfl,_,rfl,a,x,T,W,rfl,ha,Lj,h1,Ai G6 Z9,hx,MP,OZ,λ l0 H0 s0 n0 PQ=>g1 _ _ ?_⟩
 clear g1;refine aw λ _ g1=>⟨_,rfl,_,rfl,a,x,W,T,rfl,s0 _ _ ha,hx.same s0,MP,Lj,Ai OZ Z9,Ai G6 Z9,λ l P' H1 Q3 Px ⟨ts,hl,Iw⟩ O9=>g1 _ _ ?_⟩
 clear g1;have eP:P'=Pp:=d4 O9 Rc;subst eP;have s1:=s0.trans Q3;have nl:H l=none:=none_of s0 Px;obtain⟨gr,YG,Qw⟩:=jY MP Lj Rc;have hP1:1≤P'.length:=vS Rc (by rw [Ac];exact Ei h1);clear s0 Q3 PQ Px O9;refine aw λ _ g1=>⟨_,rfl,l,rfl,⟨_,Gf.of hl⟩,λ l2 ZJ=>?_⟩
 refine iK (g:=bw 0) (te:=yO) (K:=K) (a:=l) (l:=l2) (xs:=ts.map V.ref) (n:=1) (λ i ys H2=>ys=((P'.take i).map th).map vN/\H2 l2=↥ys/\C' H1 H2)
  ⟨rfl,af,ak ZJ⟩ (λ i ys H2 _ z9=>by obtain⟨_,_,sm⟩:=z9;exact Gf.of (sm _ _ hl)) ?_ ?_ ?_ ?_
 ·clear g1;rintro i y ys σ H2 hi ⟨rfl,QA,sm⟩ hσ;obtain⟨t,ht,rfl⟩:=gi hi;obtain⟨u0,rfl⟩:∃u0,σ=[u0]:=match σ,hσ with| [u0],_=>⟨u0,rfl⟩
  have HI:i<P'.length:=by rw [<-Iw.1];exact(Af.mp ht).1
  have OF:P'[i]?=some P'[i]:=Ad HI;refine⟨_,rfl,t,P'[i],rfl,sm _ _ (Iw.2 i t _ ht OF),QA,bA (by rw [Aa,Aa,Aq];exact Ai (BQ _ _) (Ai Qw (Ai G6 Z9))),rfl,?_,af,λ c o e=>?_⟩
  ·rw [eN OF,Aw,Aw];rfl
  ·rw [aj (ai e ZJ)];exact sm _ _ e
 rotate_left
 ·exact λ x σ H A B h z=>h _ _ z
 ·rintro σ H A B h ⟨v,e1,t,x,e2,e3,z⟩;exact⟨v,e1,t,x,e2,e3,h _ _ z⟩
 rintro ys H2 ⟨rfl,QA,LU⟩;rw [Aa,Iw.1,AT] at QA;have hq:∀q∈P'.map th,q<272:=λ q hq=>by
  obtain⟨x,hx,rfl⟩:=BH.mp hq;obtain⟨_,gx⟩:=gr.all x hx;exact vh gx
 refine⟨l2,P'.map th,rfl,QA,hq,by rw [Aa];exact hP1,by rw [Aa];exact Ai Qw G6,λ l3 L H3 Vw s23 h33 VF=>g1 _ _ ?_⟩;clear g1;have tok:=VF.tok gr hP1;have Np:=LU.trans s23;have Yy:H1 l3=none:=none_of LU Vw;refine aw λ _ g1=>⟨_,rfl,_,L,rfl,⟨l3,rfl,h33,λ b hb=>Ai (tok.six b hb) Z9⟩,tok.good,λ l4 xs H4 nl4 Zy MS OD=>g1 _ _ ?_⟩
 clear g1;have Nn:=Np.trans Zy;have Nf:=hB.keep λ c o e _=>Nn _ _ (s1 _ _ e)
 have h43:=Zy _ _ h33;obtain⟨dxp,rp,Ra,OV⟩:=Nf.ob;obtain⟨dxd,Bd,rd,kd,_,Tv,_⟩:=id Nf;have nl3p:l3≠p:=aT h43 OV 'f';have Yx:l3≠d:=(de (hB.sm.2.imp λ _ e=>s1 _ _ e) Yy).symm;have Ur:l4≠p:=aT MS OV 'f';have Us:l4≠d:=(de (hB.sm.2.imp λ _ e=>Np _ _ (s1 _ _ e)) nl4).symm;have Nu:l≠p:=(de hB.sm.1 nl).symm;have JL:l≠d:=(de hB.sm.2 nl).symm;refine aw λ _ g1=>⟨_,rfl,_,rfl,p,d,l3,N,T0,L,rfl,Nf,NI,h43,tok.len,tok.six,Yx,λ It b H5 hit TU Ks=>g1 _ _ ?_⟩
 clear g1;have QR:=wV tok.len hit;have OU:=lF 0 (W13.Mc tok.six hit);rw [QR,tok.len] at OU;have h5l:=Ks _ _ (Nn _ _ hl) Nu JL;have h54:=Ks _ _ MS Ur Us;have MY:∀t ys,H4 t=some (.tup ys)->H5 t=some (.tup ys):=λ t ys e=>Ks _ _ e (aT e OV 'f') (aT e Tv 'f')
 have UU:=OD.keep MY;have YC:=(Iw.keep λ a xs e=>Nn _ _ e).keep MY;obtain⟨dxp5,rp5,kp5',UC⟩:=TU.ob;obtain⟨dxd5,Bd5,rd5,kd5,_,UT,_⟩:=id TU;refine⟨_,rfl,l,rfl,⟨_,Gf.of h5l⟩,bH (D:=⟨_,_,λ _ _=>False,λ _ _=>False⟩) (K:=K) (a:=l) (xs:=ts.map V.ref) (λ i σ H6=>∃v7 v8,σ=[↑o,↑p,↑a,some x,↑l,↑l3,↑l4,v7,v8]/\Gh B H6 p d (eS (hP L (P'.take i)) (eS (W13.puts It) N)) (T0+tots (W13.puts It)+tots (hP L (P'.take i)))/\∀c o,H5 c='g'->c≠p->c≠d->H6 c='g')
  ⟨none,none,rfl,TU,λ c o e _ _=>e⟩ (λ i σ H6 _ z9=>by obtain⟨_,_,_,_,kp⟩:=z9;exact Gf.of (kp _ _ h5l Nu JL)) ?_ ?_⟩
 ·rintro i y σ H6 hi ⟨v7,v8,rfl,TQ,kp⟩;obtain⟨t,ht,rfl⟩:=gi hi;have HI:i<P'.length:=by rw [<-Iw.1];exact(Af.mp ht).1
  have OF:P'[i]?=some P'[i]:=Ad HI;have Kv:=YC.2 i t _ ht OF;have Tg:=gr.at OF;have NV:P'[i]∈P':=BL HI;have Nq:t≠p:=aT Kv UC 'f';have OO:t≠d:=aT Kv UT 'f';have Uv:=kp _ _ Kv Nq OO;have Y4:=kp _ _ h54 Ur Us;obtain⟨e1,e2,e3⟩:=tok.at NV Tg;have hco:=C10.IE tok.good e1 e2;have hlx:th P'[i]<xs.length:=by rw [UU.1];exact(Af.mp hco).1
  have WW:xs[th P'[i]]?=some xs[th P'[i]]:=Ad hlx;obtain⟨tc,etc,W2⟩:K21.C.OT H5 xs[th P'[i]] (some (C9.cdAt L (th P'[i]) (L.getD (th P'[i]) 0),L.getD (th P'[i]) 0)):=UU.2 _ _ _ WW hco;rw [etc] at WW;have Yt:tc≠p:=aT W2 UC 'f';have Yu:tc≠d:=aT W2 UT 'f';have Ux:=kp _ _ W2 Yt Yu;have YD:=o5 tok.six (P'.take i);rw [Aq] at YD;have Y0:=C10.cd_lt tok.good e1 e2;obtain⟨dx,r,kk,hp6⟩:=TQ.ob;rw [eN OF,sj,bY,aR,yo];refine aw λ _ g2=>⟨_,rfl,_,rfl,t,P'[i],rfl,Uv,l4,_,_,_,rfl,rfl,Gf.of Y4,aD WW,g2 _ _ ?_⟩
  clear g2;refine aw λ _ g2=>⟨_,rfl,p,dx,_,rfl,hp6,dj _ _ _,_,rfl,tc,_,_,_,rfl,rfl,GF.of Ux,aD (j:=0) rfl,_,rfl,tc,_,_,_,rfl,rfl,GF.of Ux,aD (j:=1) rfl,p,d,_,_,_,_,rfl,TQ,Z5,Z5,Y0,λ H7 Qy Q8=>g2 _ _ ?_⟩
  clear g2;have QJ:=Q8 _ _ Uv Nq OO;obtain⟨XX,r7,kk7,M8⟩:=Qy.ob;generalize P'[i]=xx at*;cases xx with
  |sg s=>
   refine⟨_,rfl,t,_,_,_,rfl,rfl,GF.of QJ,aD (j:=0) rfl,rfl,_,rfl,bc (λ h=>absurd (Am h) (λ z=>sQ z.symm)) (λ _=>?_)⟩;refine⟨_,_,rfl,?_,λ c o e n1 n2=>Q8 _ _ (kp _ _ e n1 n2) n1 n2⟩;have e5:T0+tots (W13.puts It)+(tots (hP L (P'.take i))+tots (cP L (.sg s)))=T0+tots (W13.puts It)+tots (hP L (P'.take i))+L.getD (th (.sg s)) 0:=by
    have:tots (cP L (.sg s))=L.getD (th (.sg s)) 0:=rfl;lia
   rw [e5];exact Qy
  |cp bk z=>
   obtain⟨g1,g2,g3,g4,g5⟩:1≤bk/\bk≤255/\bk≤_/\3≤z/\z≤18:=Tg;refine⟨_,rfl,t,_,_,_,rfl,rfl,GF.of QJ,aD (j:=0) rfl,rfl,_,rfl,bc (λ _=>?_) (λ h=>absurd (Ae rfl) h)⟩;refine⟨_,rfl,p,XX,_,rfl,M8,dj _ _ _,_,rfl,t,_,_,_,rfl,rfl,GF.of QJ,aD (j:=1) rfl,p,d,_,_,bk,8,rfl,Qy,Z5,Z9,(by show bk<2^8;exact Fv g2),λ H8 V0 Nx=>?_⟩;refine⟨_,_,rfl,?_,λ c o e n1 n2=>Nx _ _ (Q8 _ _ (kp _ _ e n1 n2) n1 n2) n1 n2⟩;have e5:T0+tots (W13.puts It)+(tots (hP L (P'.take i))+tots (cP L (.cp bk z)))=T0+tots (W13.puts It)+tots (hP L (P'.take i))+L.getD (th (.cp bk z)) 0+8:=by
    have:tots (cP L (.cp bk z))=L.getD (th (.cp bk z)) 0+8:=rfl;lia
   rw [e5];exact V0
 ·rintro σ H6 ⟨v7,v8,rfl,TQ,kp⟩;rw [Aa,Iw.1,AT] at TQ;refine k L It b H6 VF hit ?_ λ c o e n1 n2=>kp _ _ (Ks _ _ (Nn _ _ (s1 _ _ e)) n1 n2) n1 n2
  rw [bY,aR,<-BW];exact TQ
def Ha:y' ["self","reader","count","before","signs","begin","end","codes","thing","back"] Jac (am kI):=Gw Z8
def mX (T)(s):pf false (T++[s])=pf false T++[(s,8)]:=by simp [pf]
inductive K2 (vs:List V) (H:Hp) (Q:VK) (Gj:XK):Prop
 |mk (a:_) (T:_) (h0:vs=[.ref a]) (h1:H a=↥(T.map vN)) (h2:T.length≤64) (h3:∀l ts H',C' H H'->H l=none->H' l=↥(ts.map V.ref)->Ie H' ts (rl T)->Q (.ref l) H'):K2 vs H Q Gj
def HJ:y' ["signs","runs","begin","place"] ["signs"] (am gO):=Gw Z8
def jK (F:'h' "runs_of" gO ["signs"] f fd)(T:Txt K mg):'a' Gn 1 f fd ["signs"] K2:=by
 refine F.F.ok HJ ?_
 intro 'a';obtain⟨a,S,rfl,ha,G6,k⟩:=h;refine⟨_,ad (aq (i:=1) HJ.nd (aH ac))
  (ad (aq (i:=2) HJ.nd ae)
  (ad (bp AV rfl (g9 Z7 T.range (aa ae (aa (ao aI (ay ax Z7 T.len Ay (aa (pv 0) ac)) ae) ac))) (aG (i:=3) HJ.nd)
   (ag (aM (PW.pt (jg (aA bE (pv 3) (ay ax Z7 T.len Ay (aa (pv 0) ac)) (aC _)) (fX (aA qw (aU aW (pv 0) (pv 3) (λ _ _=>rfl)) (aU aW (pv 0) (pv 2) (λ _ _=>rfl)) (aC _)))))
    (ad (aE (d8 Bc Bp By bO (pv 1) (aa (aO (aa (aU aW (pv 0) (pv 2) (λ _ _=>rfl)) (aa (ao bd (pv 3) (pv 2)) ac))) ac)))
    (ag (aq (i:=2) HJ.nd (pv 3)))) aF)))
  (ag (aB (pv 1))))),?_⟩
 refine aw λ _ g1=>⟨Z9,λ l nl=>g1 _ _ ?_⟩
 clear g1;have s0:=ak (o:=.lst []) nl;refine aw λ R1 g1=>g1 _ _ ?_
 clear g1;refine aw λ R1 g1=>?_
 have en:(((S.map vN).length:Int)+1-1).toNat=S.length:=by rw [Aa];lia
 refine⟨_,rfl,a,_,rfl,.inl (Gf.of (s0 _ _ ha)),_,_,rfl,rfl,1,_,rfl,⟨Z5,Z5,by rw [Aa];lia,by rw [Aa];lia⟩,?_⟩;rw [en];refine du (λ i σ H2=>∃b rs ts v3,σ=[↑a,↑l,some (vN b),v3]/\C' H H2/\H2 l=↥(ts.map V.ref)/\Ie H2 ts rs/\rs++rl (S.drop b)=rl S/\b≤i/\rs.length≤i/\(i=S.length->b=S.length)/\∀j,b≤j->j≤i->j<S.length->S[j]?=S[b]?)
  ⟨0,[],[],none,rfl,s0,af,.nil,rfl,Ak _,Ak _,λ z=>z,λ j h1 h2 _=>by rw [Nat.le_zero.mp h2]⟩ ?_ ?_
 ·clear g1;rintro i σ H2 hi ⟨b,rs,ts,v3,rfl,sm,G5,Ja,MK,TC,hri,Pm,Kz⟩;have VU:b<S.length:=Be TC hi;have OE:=sm _ _ ha;have ep:(1:Int)+(i:Int)=⇑(i+1):=Z5;have Nz:=Ja.len;have Sb:S[b]?=some S[b]:=Ad VU;have J:(S[i+1]?≠some S[b])->∀t,H2 t=none->∃b' rs Qd v3,[some (V.ref a),some (V.ref l),some (vN (i+1)),some (vN (i+1))]=[some (V.ref a),some (V.ref l),some (vN b'),v3]/\C' H (upd (upd H2 t (.tup [vN S[b],vN (i+1-b)])) l (.lst ((ts++[t]).map V.ref)))/\(upd (upd H2 t (.tup [vN S[b],vN (i+1-b)])) l (.lst ((ts++[t]).map V.ref))) l=↥(Qd.map V.ref)/\Ie (upd (upd H2 t (.tup [vN S[b],vN (i+1-b)])) l (.lst ((ts++[t]).map V.ref))) Qd rs/\rs++rl (S.drop b')=rl S/\b'≤i+1/\rs.length≤i+1/\(i+1=S.length->b'=S.length)/\∀j,b'≤j->j≤i+1->j<S.length->S[j]?=S[b']?:=by
   intro Hx t nt;have st:=ak (o:=.tup [vN S[b],vN (i+1-b)]) nt;have Vu:t≠l:=(ai G5 nt).symm;refine⟨i+1,rs++[(S[b],i+1-b)],ts++[t],some (vN (i+1)),rfl,λ c o e=>?_,af,?_,?_,Ak _,by rw [Ac];show rs.length+1≤i+1;exact DR hri 1,λ z=>z,λ j h1 h2 _=>by rw [show j=i+1 from FP (A8 h1 h2)]⟩
   ·rw [aj (ai e nl)];exact st _ _ (sm _ _ e)
   ·refine((Ja.mono st).keep λ c xs e=>?_).app (.cons ?_ .nil)
    ·rw [aj (λ z=>by rw [z,st _ _ G5] at e;cases e)];exact e
    ·rw [aj Vu,af]
   ·rw [An,<-MK,vv (Fv TC) (‹_›) (λ j h1 h2=>by rw [Kz j h1 (B4 h2) (Ap h2 hi),Sb]) Hx];rfl
  rw [ep];refine⟨_,rfl,_,rfl,a,_,rfl,.inl (Gf.of OE),rfl,_,rfl,bc (λ h=>?_) (λ h=>?_)⟩
  ·have he:i+1=S.length:=by
    have:=Am h;injection this with this
    rw [Aa] at this;exact Int.ofNat_inj.mp this
   refine eQ ⟨_,rfl,.inl ⟨rfl,_,Gf.of G5⟩,_,rfl,_,rfl,a,_,_,_,rfl,rfl,Gf.of OE,aD (di VU),_,rfl,_,rfl,_,_,rfl,rfl,(by show 2≤sizeLine;decide),λ t nt=>?_⟩;have e2:⇑(i+1)-(b:Int)=⇑(i+1-b):=(DM (BD TC)).symm
   try dsimp only at nt
   try dsimp only
   rw [e2];refine⟨l,_,_,rfl,rfl,ak nt _ _ G5,bA (by rw [Aa];lia),_,rfl,?_⟩;have z:=J (by rw [he,A4 (Ak _)];exact λ z=>nomatch z) t nt;rw [Aw] at z;exact z
  ·have he:i+1<S.length:=by
    have h':¬(decide (V.int ⇑(i+1)=V.int ((S.map vN).length:Int))=true):=h;rcases A2 (i+1) S.length with q|q
    ·exact q
    ·exact absurd (Ae (by rw [Aa,show i+1=S.length from A8 hi q])) h'
   refine⟨_,rfl,_,rfl,a,_,_,_,rfl,rfl,Gf.of OE,aD (di he),_,rfl,_,rfl,a,_,_,_,rfl,rfl,Gf.of OE,aD (di VU),rfl,_,rfl,?_⟩;by_cases Hx:S[i+1]=S[b]
   ·rw [Hx,Ae rfl];refine cV ⟨b,rs,ts,_,rfl,sm,G5,Ja,MK,BD TC,Z5,λ z=>Z5,λ j h1 h2 h3=>?_⟩;rcases A2 i j with q|q
    ·rw [show j=i+1 by lia,Ad he,Sb,Hx]
    ·exact Kz j h1 q h3
   ·rw [Bt (λ z=>Hx (Gr.mp z))];refine eQ ⟨_,rfl,.inl ⟨rfl,_,Gf.of G5⟩,_,rfl,_,rfl,a,_,_,_,rfl,rfl,Gf.of OE,aD (di VU),_,rfl,_,rfl,_,_,rfl,rfl,(by show 2≤sizeLine;decide),λ t nt=>?_⟩;have e2:⇑(i+1)-(b:Int)=⇑(i+1-b):=(DM (BD TC)).symm
    try dsimp only at nt
    try dsimp only
    rw [e2];refine⟨l,_,_,rfl,rfl,ak nt _ _ G5,bA (by rw [Aa];lia),_,rfl,?_⟩;have z:=J (by rw [Ad he];exact λ z=>Hx (AJ z)) t nt;rw [Aw] at z;exact z
 ·rintro σ H2 ⟨b,rs,ts,v3,rfl,sm,G5,Ja,MK,_,_,Pm,_⟩;rw [Pm rfl,FE,xA,Bv] at MK;rw [MK] at Ja;exact g1 _ _ ⟨_,rfl,k l ts H2 sm nl G5 Ja⟩
inductive LH (u:Bool) (B:FR) (vs:List V) (H:Hp) (Q:VK) (Gj:XK):Prop
 |mk (o:_) (p:_) (d:_) (a:_) (x:_) (T:_) (W:_) (N:_) (T0:_) (h0:vs=[.ref o,.ref p,.ref a,x]) (h1:Gh B H p d N T0) (h2:T0≤1000) (h3:H a=↥(T.map vN)) (h4:(∀b∈T,b<256)) (h5:1≤T.length) (h6:T.length≤64) (h7:Hd H x W) (h8:(∀b∈W,b<256)) (h9:W.length≤192) (PN:∀H',Gh B H' p d (eS (pf u T) N) (T0+tots (pf u T))->(∀c o,H c='g'->c≠p->c≠d->H' c='g')->Q .non H'):LH u B vs H Q Gj
def HR:y' ["self","bits","text","before","sign"] Jab (am gk):=Gw Z8
def oR (F:Hb K "tell" "RawWay.tell" gk f fd)(Y:NL K mg)(Z:OK K mg B):'a' Gn 8 f fd Jab (LH false B):=by
 have R:=Y.V.R;obtain⟨_,_,Nr⟩:=Y.V.needrow;obtain⟨_,_,Nw⟩:=Y.V.needwin;obtain⟨_,_,Na⟩:=Y.needahead;obtain⟨_,_,Ns⟩:=Y.needsigns;have X:=R.X;obtain⟨_,_,W⟩:=Z.R.whole;obtain⟨_,_,S⟩:=Z.needsize;obtain⟨_,_,O⟩:=Z.ones;obtain⟨_,_,Pu⟩:=Z.put;obtain⟨_,_,M⟩:=Z.move;have TB:=Z.T;have GP:=g7 (P:=P) (w:=w) (base:=base) Pu.F S W O M TB X;refine F.ok HR ?_
 intro 'a';obtain⟨o,p,d,a,x,T,W,N,T0,rfl,hB,NI,ha,Lj,h1,G6,hx,MP,OZ,k⟩:=h;have HS:Ge 3 _:=hr.mono Z9;refine⟨_,ag (bp AV rfl (bi (ap (ok_needsigns Ns Na Nw Nr R) hr Z7 Ns.m Ns.F.kp Ns.b .nil az (aa (pv 2) (aa (pv 3) ac)))) (aG (i:=4) HR.nd)
  (ag (aE (aN (pv 1) TB.cl Pu.m GP HS Pu.b .nil az (aa (pv 4) (aa ae ac)))))),?_⟩
 refine⟨_,rfl,_,rfl,a,x,T,W,rfl,ha,Lj,h1,G6,hx,MP,OZ,λ l H1 s1 nl hl=>?_⟩;have O3:=hB.keep λ c o e _=>s1 _ _ e
 have Nu:l≠p:=(de hB.sm.1 nl).symm;have JL:l≠d:=(de hB.sm.2 nl).symm;refine⟨l,rfl,⟨_,Gf.of hl⟩,bH (λ i σ H2=>∃v4,σ=[↑o,↑p,↑a,some x,v4]/\Gh B H2 p d (eS (pf false (T.take i)) N) (T0+tots (pf false (T.take i)))/\∀c o,H1 c='g'->c≠p->c≠d->H2 c='g')
  ⟨none,rfl,O3,λ c o e _ _=>e⟩ (λ i σ H2 _ z9=>by obtain⟨_,_,_,kp⟩:=z9;exact Gf.of (kp _ _ hl Nu JL)) ?_ ?_⟩
 ·rintro i y σ H2 hi ⟨v4,rfl,IF,kp⟩;obtain⟨b,hb,rfl⟩:=ck hi;have HI:i<T.length:=(Af.mp hb).1;obtain⟨dx,r,kk,Hw⟩:=IF.ob;have Kv:=ng (T.take i);rw [Aq] at Kv;refine⟨_,rfl,p,dx,_,rfl,Hw,dj _ _ _,_,rfl,p,d,_,_,b,8,rfl,IF,Z5,Z9,Lj b (AX hb),λ H3 Ln G4=>?_⟩;refine⟨_,rfl,?_,λ c o e n1 n2=>G4 _ _ (kp _ _ e n1 n2) n1 n2⟩;rw [dY hb,mX,bY,aR,<-BW];exact Ln
 ·rintro σ H2 ⟨v4,rfl,IF,kp⟩;rw [Aa,AT] at IF;exact k H2 IF λ c o e n1 n2=>kp _ _ (s1 _ _ e) n1 n2
def G7:y' ["self","bits","text","before","sign","size"] Jab (am gn):=Gw Z8
def nM {fR:FR}(F:Hb K "tell" "RunWay.tell" gn f fd)(Ro:'h' "runs_of" gO ["signs"] fR QC)(Y:NL K mg)(Z:OK K mg B):'a' Gn 8 f fd Jab (LH true B):=by
 have R:=Y.V.R;obtain⟨_,_,Nr⟩:=Y.V.needrow;obtain⟨_,_,Nw⟩:=Y.V.needwin;obtain⟨_,_,Na⟩:=Y.needahead;obtain⟨_,_,Ns⟩:=Y.needsigns;have X:=R.X;obtain⟨_,_,W⟩:=Z.R.whole;obtain⟨_,_,S⟩:=Z.needsize;obtain⟨_,_,O⟩:=Z.ones;obtain⟨_,_,Pu⟩:=Z.put;obtain⟨_,_,M⟩:=Z.move;have TB:=Z.T;have GP:=g7 (P:=P) (w:=w) (base:=base) Pu.F S W O M TB X;refine F.ok G7 ?_
 intro 'a';obtain⟨o,p,d,a,x,T,W,N,T0,rfl,hB,NI,ha,Lj,h1,G6,hx,MP,OZ,k⟩:=h;have HS:Ge 3 _:=hr.mono Z9;have Gz:Ge 1 _:=hr.mono Z9;refine⟨_,ag (bp AV rfl (bi (ap (jK Ro X) Gz Z7 Ro.m Ro.F.kp Ro.b .nil az (aa (ap (ok_needsigns Ns Na Nw Nr R) hr Z7 Ns.m Ns.F.kp Ns.b .nil az (aa (pv 2) (aa (pv 3) ac))) ac)))
  (dR rfl (bh (aG (i:=4) G7.nd) (bh (aG (i:=5) G7.nd) df)))
  (ad (aE (aN (pv 1) TB.cl Pu.m GP HS Pu.b .nil az (aa (ao bd (pv 5) ae) (aa ae ac))))
  (ag (aE (aN (pv 1) TB.cl Pu.m GP HS Pu.b .nil az (aa (pv 4) (aa ae ac))))))),?_⟩
 refine⟨_,rfl,_,rfl,a,x,T,W,rfl,ha,Lj,h1,G6,hx,MP,OZ,λ l0 H0 s0 n0 PQ=>?_⟩;refine⟨l0,T,rfl,PQ,G6,λ l ts H1 Q3 Px hl Ja=>?_⟩;have s1:=s0.trans Q3;have nl:H l=none:=none_of s0 Px;have O3:=hB.keep λ c o e _=>s1 _ _ e
 have Nu:l≠p:=(de hB.sm.1 nl).symm;have JL:l≠d:=(de hB.sm.2 nl).symm;have Nz:=Ja.len;have hok:=y3 G6 Lj;have hlen:(rl T).length≤64:=by
  have:=iS (rs:=rl T) λ q hq=>(uD hq).1
  rw [xv] at this;exact Ai this G6
 obtain⟨dxp,rp,Ra,OV⟩:=O3.ob;obtain⟨dxd,Bd,rd,kd,_,Tv,_⟩:=id O3;refine⟨l,rfl,⟨_,Gf.of hl⟩,bH (K:=K) (a:=l) (xs:=ts.map V.ref) (λ i σ H2=>∃v4 v5,σ=[↑o,↑p,↑a,some x,v4,v5]/\Gh B H2 p d (eS (pR ((rl T).take i)) N) (T0+tots (pR ((rl T).take i)))/\∀c o,H1 c='g'->c≠p->c≠d->H2 c='g')
  ⟨none,none,rfl,O3,λ c o e _ _=>e⟩ (λ i σ H2 _ z9=>by obtain⟨_,_,_,_,kp⟩:=z9;exact Gf.of (kp _ _ hl Nu JL)) ?_ ?_⟩
 ·rintro i y σ H2 hi ⟨v4,v5,rfl,IF,kp⟩;obtain⟨t,ht,rfl⟩:=gi hi;obtain⟨q,hq,Kv⟩:=Ja.at ht;have HI:i<(rl T).length:=(Af.mp hq).1;obtain⟨q1,q2,q3⟩:=hok q (AX hq);have Nq:t≠p:=aT Kv OV 'f';have OO:t≠d:=aT Kv Tv 'f';have MZ:=kp _ _ Kv Nq OO;obtain⟨dx,r,kk,Hw⟩:=IF.ob;have OU:=k8 ((rl T).take i);rw [Aq] at OU;refine⟨t,_,rfl,GF.of MZ,rfl,_,_,rfl,_,_,rfl,rfl,?_⟩;have e1:(q.2:Int)-1=⇑(q.2-1):=(DM q1).symm;refine aw λ _ g2=>⟨_,rfl,p,dx,_,rfl,Hw,dj _ _ _,_,rfl,_,_,rfl,rfl,?_⟩
  try dsimp only
  rw [e1];refine⟨p,d,_,_,q.2-1,6,rfl,IF,Z5,Z9,(by show q.2-1<2^6;lia),λ H3 Ln G4=>g2 _ _ ?_⟩;clear g2;obtain⟨JJ,r3,ZS,M9⟩:=Ln.ob;refine⟨_,rfl,p,JJ,_,rfl,M9,dj _ _ _,_,rfl,p,d,_,_,q.1,8,rfl,Ln,Z5,Z9,(by show q.1<2^8;assumption),λ H4 Nf IM=>?_⟩;refine⟨_,_,rfl,?_,λ c o e n1 n2=>IM _ _ (G4 _ _ (kp _ _ e n1 n2) n1 n2) n1 n2⟩;rw [eN hq,rK,bY,aR];have e5:T0+(tots (pR ((rl T).take i))+tots (pR [q]))=T0+tots (pR ((rl T).take i))+6+8:=by
   have:tots (pR [q])=14:=by rw [k8];rfl
   lia
  rw [e5];exact Nf
 ·rintro σ H2 ⟨v4,v5,rfl,IF,kp⟩;rw [Aa,Nz,AT] at IF;exact k H2 IF λ c o e n1 n2=>kp _ _ (s1 _ _ e) n1 n2
def HQ:y' ["self","reader","count","before","signs","size","sign"] Jac (am jt):=Gw Z8
inductive K5 (B:FR) (vs:List V) (H:Hp) (Q:VK) (Gj:XK):Prop
 |mk (o:_) (p:_) (d:_) (a:_) (x:_) (T:_) (W:_) (Pp:_) (N:_) (T0:_) (h0:vs=[.ref o,.ref p,.ref a,x]) (h1:Gh B H p d N T0) (h2:T0≤1000) (h3:H a=↥(T.map vN)) (h4:(∀b∈T,b<256)) (h5:1≤T.length) (h6:T.length≤64) (h7:Hd H x W) (h8:(∀b∈W,b<256)) (h9:W.length≤192) (PN:Walk (W++T) W.length Pp (W++T).length) (OH:∀H',Gh B H' p d (eS (pP Pp) N) (T0+tots (pP Pp))->(∀c o,H c='g'->c≠p->c≠d->H' c='g')->Q .non H'):K5 B vs H Q Gj
def JB:y' ["self","bits","text","before","piece"] Jab (am fz):=Gw Z8
def ra (F:Hb K "tell" "CopyWay.tell" fz f fd)(Y:NL K mg)(Z:OK K mg B):'a' Gn 33 f fd Jab (K5 B):=by
 obtain⟨Vi,⟨_,_,Po⟩,⟨_,_,Na⟩,⟨_,_,Ns⟩⟩:=Y;obtain⟨_,_,Nr⟩:=Vi.needrow;obtain⟨_,_,Nw⟩:=Vi.needwin;have X:=Vi.R.X;obtain⟨_,_,W⟩:=Z.R.whole;obtain⟨_,_,S⟩:=Z.needsize;obtain⟨_,_,O⟩:=Z.ones;obtain⟨_,_,Pu⟩:=Z.put;obtain⟨_,_,M⟩:=Z.move;have TB:=Z.T;have GP:=g7 (P:=P) (w:=w) (base:=base) Pu.F S W O M TB X;obtain⟨tl,hle⟩:=X.least;refine F.ok JB ?_
 intro 'a';obtain⟨o,p,d,a,x,T,W,Pp,N,T0,rfl,hB,NI,ha,Lj,h1,G6,hx,MP,OZ,Rc,k⟩:=h;have HS:Ge 3 _:=hr.mono Z9;have W3:Ge 7 _:=hr.mono Z9;refine⟨_,ad (aE (ap (ok_needsigns Ns Na Nw Nr Vi.R) W3 Z7 Ns.m Ns.F.kp Ns.b .nil az (aa (pv 2) (aa (pv 3) ac))))
  (ag (bp AV rfl (bi (ap (ik Po Vi) hr Z7 Po.m Po.kp Po.b .nil az (aa (pv 2) (aa (pv 3) ac)))) (aG (i:=4) JB.nd)
   (ag (aM (aA bE (aU bL (pv 4) ae (λ _ _=>rfl)) aX (aC _))
    (ad (aE (aN (pv 1) TB.cl Pu.m GP HS Pu.b .nil az (aa ae (aa ae ac))))
    (ag (aE (aN (pv 1) TB.cl Pu.m GP HS Pu.b .nil az (aa (aU bL (pv 4) ae (λ _ _=>rfl)) (aa ae ac))))))
    (ad (aE (aN (pv 1) TB.cl Pu.m GP HS Pu.b .nil az (aa ae (aa ae ac))))
    (ad (aE (aN (pv 1) TB.cl Pu.m GP HS Pu.b .nil az (aa (aU bL (pv 4) ae (λ _ _=>rfl)) (aa ae ac))))
    (ag (aE (aN (pv 1) TB.cl Pu.m GP HS Pu.b .nil az (aa (ao bd (aU bL (pv 4) ae (λ _ _=>rfl)) (aJ (v:=.int 3) Z7 hle ⟨tl,rfl⟩)) (aa ae ac)))))))))))
  ,?_⟩
 refine aw λ _ g1=>⟨_,rfl,_,rfl,a,x,T,W,rfl,ha,Lj,h1,G6,hx,MP,OZ,λ l0 H0 s0 n0 PQ=>g1 _ _ ?_⟩
 clear g1;refine⟨_,rfl,_,rfl,a,x,W,T,rfl,s0 _ _ ha,hx.same s0,MP,Lj,Z5,Z5,λ l P' H1 Q3 Px z9 O9=>?_⟩;obtain⟨ts,hl,Iw⟩:=z9;have eP:P'=Pp:=d4 O9 Rc;subst eP;have s1:=s0.trans Q3;have nl:H l=none:=none_of s0 Px;have O3:=hB.keep λ c o e _=>s1 _ _ e
 have Nu:l≠p:=(de hB.sm.1 nl).symm;have JL:l≠d:=(de hB.sm.2 nl).symm;obtain⟨gr,YG,Qw⟩:=jY MP Lj Rc;obtain⟨dxp,rp,Ra,OV⟩:=O3.ob;obtain⟨dxd,Bd,rd,kd,_,Tv,_⟩:=id O3;refine⟨l,rfl,⟨_,Gf.of hl⟩,bH (λ i σ H2=>∃v4,σ=[↑o,↑p,↑a,some x,v4]/\Gh B H2 p d (eS (pP (P'.take i)) N) (T0+tots (pP (P'.take i)))/\∀c o,H1 c='g'->c≠p->c≠d->H2 c='g')
  ⟨none,rfl,O3,λ c o e _ _=>e⟩ (λ i σ H2 _ z9=>by obtain⟨_,_,_,kp⟩:=z9;exact Gf.of (kp _ _ hl Nu JL)) ?_ ?_⟩
 ·rintro i y σ H2 hi ⟨v4,rfl,IF,kp⟩;obtain⟨t,ht,rfl⟩:=gi hi;have HI:i<P'.length:=by rw [<-Iw.1];exact(Af.mp ht).1
  have OF:P'[i]?=some P'[i]:=Ad HI;have Kv:=Iw.2 i t _ ht OF;have Tg:=gr.at OF;have Nq:t≠p:=aT Kv OV 'f';have OO:t≠d:=aT Kv Tv 'f';have MZ:=kp _ _ Kv Nq OO;obtain⟨dx,r,kk,Hw⟩:=IF.ob;have OU:=pO (P'.take i);rw [Aq] at OU;rw [eN OF,qD,bY,aR,yv];generalize P'[i]=xx at*;cases xx with
  |sg s=>
   have hs:s<256:=Tg;refine⟨_,rfl,t,_,_,_,rfl,rfl,GF.of MZ,aD rfl,rfl,_,rfl,bc (λ _=>?_) (λ h=>absurd (Ae rfl) h)⟩;refine aw λ _ g2=>⟨_,rfl,p,dx,_,rfl,Hw,dj _ _ _,p,d,_,_,0,1,rfl,IF,Ai (Ft NI (Ai OU (Cg _ (Ai (BQ _ _) (Ai Qw G6))))) Z9,Z9,Z9,λ H3 Ln G4=>g2 _ _ ?_⟩
   clear g2;have Pb:=G4 _ _ MZ Nq OO;obtain⟨JJ,r3,ZS,M9⟩:=Ln.ob;refine⟨_,rfl,p,JJ,_,rfl,M9,dj _ _ _,_,rfl,t,_,_,_,rfl,rfl,GF.of Pb,aD rfl,p,d,_,_,s,8,rfl,Ln,Ai (DZ (Ft NI (Ai OU (Cg _ (Ai (BQ _ _) (Ai Qw G6)))))) Z9,Z9,hs,λ H4 Nf IM=>?_⟩;refine⟨_,rfl,?_,λ c o e n1 n2=>IM _ _ (G4 _ _ (kp _ _ e n1 n2) n1 n2) n1 n2⟩;have e5:T0+(tots (pP (P'.take i))+tots (pcP (.sg s)))=T0+tots (pP (P'.take i))+1+8:=by
    have:tots (pcP (.sg s))=9:=rfl;lia
   rw [e5];exact Nf
  |cp b z=>
   obtain⟨g1,g2,g3,g4,g5⟩:1≤b/\b≤255/\b≤_/\3≤z/\z≤18:=Tg;refine⟨_,rfl,t,_,_,_,rfl,rfl,GF.of MZ,aD rfl,rfl,_,rfl,bc (λ h=>absurd (Am h) sQ) (λ _=>?_)⟩;refine aw λ _ q2=>⟨_,rfl,p,dx,_,rfl,Hw,dj _ _ _,p,d,_,_,1,1,rfl,IF,Ai (Ft NI (Ai OU (Cg _ (Ai (BQ _ _) (Ai Qw G6))))) Z9,Z9,Z9,λ H3 Ln G4=>q2 _ _ ?_⟩
   clear q2;have Pb:=G4 _ _ MZ Nq OO;obtain⟨JJ,r3,ZS,M9⟩:=Ln.ob;refine aw λ _ q2=>⟨_,rfl,p,JJ,_,rfl,M9,dj _ _ _,_,rfl,t,_,_,_,rfl,rfl,GF.of Pb,aD rfl,p,d,_,_,b,8,rfl,Ln,Ai (DZ (Ft NI (Ai OU (Cg _ (Ai (BQ _ _) (Ai Qw G6)))))) Z9,Z9,(by show b<2^8;exact Fv g2),λ H4 Nf IM=>q2 _ _ ?_⟩
   clear q2;have YB:=IM _ _ Pb Nq OO;obtain⟨TZ,r4,kk4,VI⟩:=Nf.ob;have e1:(z:Int)-3=⇑(z-3):=(DM g4).symm;refine⟨_,rfl,p,TZ,_,rfl,VI,dj _ _ _,_,rfl,t,_,_,_,rfl,rfl,GF.of YB,aD rfl,_,_,rfl,rfl,?_⟩
   try dsimp only
   rw [e1];refine⟨p,d,_,_,z-3,4,rfl,Nf,Z5,Z9,(by show z-3<2^4;lia),λ H5 TU Ks=>?_⟩;refine⟨_,rfl,?_,λ c o e n1 n2=>Ks _ _ (IM _ _ (G4 _ _ (kp _ _ e n1 n2) n1 n2) n1 n2) n1 n2⟩;have e5:T0+(tots (pP (P'.take i))+tots (pcP (.cp b z)))=T0+tots (pP (P'.take i))+1+8+4:=by
    have:tots (pcP (.cp b z))=13:=rfl;lia
   rw [e5];exact TU
 ·rintro σ H2 ⟨v4,rfl,IF,kp⟩;rw [Aa,Iw.1,AT] at IF;exact k H2 IF λ c o e n1 n2=>kp _ _ (s1 _ _ e) n1 n2
def HM:y' ["self","reader","count","before","signs","begin","end","back","size"] Jac (am gR):=Gw Z8
end K21
namespace L2
open PySem PySem.Spec PySem.Calls PyProof.Rows QQ PySem.W
def Inv.grown {σ:St}{P c':FR}(I:'b' s)(hP:H P=some (.tbl ps))(k:Heap.ExtBut P s.heap h')(hc:s.heap.objs.size≤c')
  (HH:h'.get? c'=some oc) (hP':h'.get? P=some (tabObj (ps++more))):Inv X F6 σ (upd (upd H P (.tbl (ps++more))) c' (.frz oc (.own c'))) {s with heap:=h',toks:=t'}:=by
 have hn:H c'=none:=I.hok.fresh hc;have WR:P≠c':=ai hP hn;have at_:∀{b} {u},H b=some u->b≠P->(upd (upd H P (.tbl (ps++more))) c' (.frz oc (.own c'))) b=some u:=λ {b u} e n=>by
  rw [aj (ai e hn),aj n];exact e
 refine I.step (ch:=[]) (λ _ z=>nomatch z) (λ b o _ _ _ e n=>k b o (ai hP n).symm e) (λ b o _ _ _ e n=>⟨o.slots,k b o (ai hP n).symm e⟩) (λ b o _ e n=>?_)
  (λ b o _ e=>?_) (λ b xs e=>at_ e (aT e hP 'f')) (λ b o u e=>at_ e (aT e hP 'f')) (λ b qs e=>?_) (λ m hm=>?_) (λ b u e=>?_) I.bare
 ·rw [aj (A7 (Ap (AA e) hc)),aj (ai hP n).symm];exact n
 ·by_cases z:b=P
  ·subst z;exact⟨_,hP'⟩
  ·exact⟨o,k b o z e⟩
 ·by_cases z:b=P
  ·subst z;rw [hP] at e;cases e;exact⟨more,by rw [aj WR,af]⟩
  ·exact⟨#[],by rw [at_ e z];simp⟩
 ·obtain⟨o,es,ep,ho,r⟩:=hm;exact⟨o,es,ep,k _ o (ai hP I.free).symm ho,r⟩
 ·by_cases z:b=c'
  ·subst z;rw [af] at e;cases e;exact⟨HH,oc,HH⟩
  ·rw [aj z] at e;by_cases y:b=P
   ·subst y;rw [af] at e;cases e;exact hP'
   ·rw [aj y] at e;refine(I.hok b u e).stay (λ c v Tz q=>k c v ?_ q) (λ c q=>at_ q (aT q hP 'f')) λ c xs q=>at_ q (aT q hP 'f')
    rcases Tz with Tz|Tz
    ·rw [Tz];exact y
    ·exact aT Tz hP 'f'
def sS (P:FR)(H H':Hp):Prop:=∀c o,c≠P->H c='g'->H' c='g'
def Iy (P:FR)(pos:Pos)(qual:Str)(H:Hp):Prop:=∃ps,H P=some (.tbl ps)/\(ps=#[]\/∃c' oc vs t,ps=#[rawInt pos.line,rawInt pos.col,.ref c']/\H c'=some (.frz oc (.own c'))/\oc.data=.fields vs/\vs[1]?=some (.str qual t))
def Iy.same (h:Iy P pos qual H)(s:C' H H'):Iy P pos qual H':=by
 obtain⟨ps,e,h⟩:=h;refine⟨ps,s _ _ e,?_⟩;rcases h with h|⟨c',oc,vs,t,a,b,r⟩
 ·exact .inl h
 ·exact .inr ⟨c',oc,vs,t,a,s _ _ b,r⟩
def jI (pos)(v):codeAmong pos [rawInt pos.line,rawInt pos.col,v]=some v:=by
 have:=codeAmong_snoc (c:=v) (pos:=pos) [] trivial rfl;simpa using this
def u7 {F6:List (FR×F1)}{σ:St}(I:'b' s)(T:Iy P pos (X.env.qual++"<lambda>") H)
  (L9:X.env.code=.ref c) (C:CodeHd X.base c P) (Qr:∃bm o,X.mg "__builtins__"=↑bm/\bm≠builtinsNs/\bm≠mainGlobals/\X.base.get? bm='g'/\o.cls=.type "module"/\o.dict=some builtinsNs/\o.data=.plain)
  (QT:defaultsOf params X.env=([],[])) (OD:closureFor scope X.env=pure clos)
  (h:∀(f c':FR) (pm NK:FS) (H':Hp) (s':FT),Inv X F6 σ H' s'->G0 X F6 H' f->s'.heap.get? f=some (kla_obj "<lambda>" (X.env.qual++"<lambda>") params body scope clos pm c' NK)->s'.heap.CodeRec (.ref c') (X.env.qual++"<lambda>")->
   (∃oc vs t,H' c'=some (.frz oc (.own c'))/\oc.data=.fields vs/\vs[1]?=some (.str (X.env.qual++"<lambda>") t))->Iy P pos (X.env.qual++"<lambda>") H'->sS P H H'->Q (.ref f) s'):
  wpAny 'd' X.A (eval (.Lambda params body scope pos) X.env) Q E s:=by
 refine kla_eval QT ?_;obtain⟨ps,hP,T⟩:=T;have VY:s.heap.get? P=some (tabObj ps):=I.hok P _ hP;have M:=I.ok.mod;have hg:s.heap.Ns mainGlobals X.mg:=M.glob.keeps I.bk;have hgP:mainGlobals≠P:=λ z=>by
  obtain⟨o,es,ep,e,hd,_⟩:=hg;rw [z,VY] at e;cases e;cases hd
 have hb:s.heap.BuiltinsAt X.mg P:=by
  obtain⟨bm,o,b1,b2,b3,b4,b5,b6,b7⟩:=Qr;refine⟨bm,o,b1,b2,b3,λ z=>?_,I.bk _ _ b4,b5,b6,b7⟩;have:=I.bk _ _ b4;rw [z,VY] at this;cases this;cases b5
 rcases T with rfl|⟨c',oc,vs,t,rfl,PH,d1,d2⟩
 ·refine kla_makeFunction OD I.ok.glob hg L9 (C.keeps I.bk) VY trivial rfl hgP hb λ c' NK h' tk hx OB F9 QL htb=>?_
  obtain⟨c2,oc,vs,t,e2,HH,d1,d2⟩:=QL;cases e2;have I1:=I.grown (t':=tk) hP hx OB HH htb;have hn:H c'=none:=I.hok.fresh OB;have WR:P≠c':=ai hP hn;have I2:=I1.kept (t':=tk) (h':=h'.push (kla_obj "<lambda>" (X.env.qual++"<lambda>") params body scope clos ((X.mg "__name__").getD .none) c' NK)) λ b u e=>Aj _ e
  have YK:(h'.push (kla_obj "<lambda>" (X.env.qual++"<lambda>") params body scope clos ((X.mg "__name__").getD .none) c' NK)).get? c'=some oc:=Aj _ HH;refine h h'.objs.size c' _ NK _ _ I2 (I1.fpOk (Ak _) (I1.hok.fresh (Ak _))) (AN _ rfl) ⟨c',oc,vs,t,rfl,YK,d1,d2⟩ ⟨oc,vs,t,af,d1,d2⟩
   ⟨_,by rw [aj WR,af],.inr ⟨c',oc,vs,t,Z6,af,d1,d2⟩⟩ λ b o n e=>?_
  rw [aj (ai e hn),aj n];exact e
 ·have HH:s.heap.get? c'=some oc:=(I.hok _ _ PH).1;refine kla_makeFunctionHit OD I.ok.glob hg L9 (C.keeps I.bk) VY (by simp [TriplesOk,rawInt]) (jI pos _) hb λ NK h' tk hk hsz=>?_
  have I2:=I.kept (t':=tk) (h':=h'.push {cls:=.type "function",data:=.func (kla_fn "<lambda>" (X.env.qual++"<lambda>") params body scope clos ((X.mg "__name__").getD .none) (.ref c') NK)}) λ b u e=>Aj _ (hk b u e)
  refine h h'.objs.size c' _ NK _ _ I2 (I.fpOk hsz (I.hok.fresh hsz)) (AN _ rfl) ⟨c',oc,vs,t,rfl,Aj _ (hk _ _ HH),d1,d2⟩ ⟨oc,vs,t,PH,d1,d2⟩
   ⟨_,hP,.inr ⟨c',oc,vs,t,rfl,PH,d1,d2⟩⟩ λ b o n e=>e
noncomputable def qx (X:Cx) (N:List Str) (qual:Str) (scope:Scope) (cl:List (Str×FR)) (f:FR) (cd:FS) (A:FX) (s:FT) (H:Hp):Cx where
 prog:=X.prog
 w:=X.w
 K:=X.K
 mg:=X.mg
 base:=X.base
 A:=A.deeper (envX qual scope s.heap.objs.size f cd cl)
 N:=N
 s₀:=s
 H₀:=H
 env:=envX qual scope s.heap.objs.size f cd cl
 outer:=X.stack
 stack:=envX qual scope s.heap.objs.size f cd cl::X.stack
 ex:=[]
 calm:=true
 fn:=λ _=>false
 pn:=[]
 xe:=λ _ _=>False
structure N4 (X:Cx)(y:Str)(Nc:List Str)(scope:Scope)(cl:List (Str×FR))(js:'c'):Prop where
 kind:scope.kind=.function
 co:scope.isCoroutine=false
 gen:scope.isGenerator=false
 nocell:∀x∈scope.names,x.2≠ .cell
 par:scope.names.lookup y=some .local
 clos:closureFor scope X.env=pure cl
 sub:∀x c,cl.lookup x=some c->X.env.cells.lookup x=some c
 has:∀x,(scope.names.lookup x=some .cell\/scope.names.lookup x=some .free)->∃c,cl.lookup x=some c
 len:js.length=Nc.length
 slot:∀(i:Nat) (x:Str) (j:Nat),Nc[i]?=some x->js[i]?=some j->X.N[j]?=some x/\X.env.scope.names.lookup x=some .cell/\scope.names.lookup x=some .free/\∀c,X.env.cells.lookup x=some c->cl.lookup x=some c
noncomputable def wz (js:'c') (σ:St) (v:V):St:=some v::js.map λ j=>(σ[j]?).getD none
def wj {σ:St}(I:'b' s)(C:N4 X y Nc scope cl js)(r:RelV v u)
  (hn:h'.Ns s.heap.objs.size (λ z=>([(y,u)]:List (Str×FS)).reverse.lookup z)) (hk:∀b o,s.heap.get? b='g'->h'.get? b='g'):
  Inv (qx X (y::Nc) qual scope cl f cd X.A.in1 s H) [] (wz js σ v) H {s with heap:=h',toks:=t'}:=by
 have e0:=I.env0.in1;have OP:∀b,b∉(qx X (y::Nc) qual scope cl f cd X.A.in1 s H).ex:=λ b z=>absurd (show b∈([]:List FR) from z) Z6
 have sub:∀{x} {c},(qx X (y::Nc) qual scope cl f cd X.A.in1 s H).env.cells.lookup x=some c->X.env.cells.lookup x=some c:=λ {x c} e=>C.sub x c e
 refine⟨⟨I.ok.mod,C.kind,rfl,rfl,Ak _,λ x z c e1 e2=>I.ok.inj x z c (sub e1) (sub e2),λ x hx=>C.has x hx,λ x c e _=>(by cases e),e0.qt,Around.frames_deeper e0.frames,.inr ⟨rfl,rfl⟩,
  λ b z=>absurd z (OP b),I.bs,e0.bsz,λ b _ _=>OP b,λ b z=>absurd z (OP b),e0.funs,e0.frf⟩,
  rfl,I.bare,Un.kept hk,⟨_,hn,λ i x v' h1 h2 h3=>?_⟩,λ x c e=>?_,I.hok.fresh (Ak _),λ x c e=>I.freeC x c (sub e),λ p hp=>absurd (show p∈([]:List (FR×F1)) from hp) Z6,I.hok.kept hk,?_⟩
 ·cases i with
  |zero=>
   have KD:some y=some x:=h1;cases KD;have JU:some (some v)=some (some v'):=h2;cases JU;refine⟨u,r,.inl ⟨C.par,?_⟩⟩;show([(y,u)]:List (Str×FS)).reverse.lookup y=some u;simp [List.lookup]
  |succ i=>
   have KD:Nc[i]?=some x:=h1;have JU:(js.map λ j=>(σ[j]?).getD none)[i]?=some (some v'):=h2;rw [AU] at JU;cases ej:js[i]? with
   |none=>rw [ej] at JU;cases JU
   |some j=>
    rw [ej] at JU;have O4:(σ[j]?).getD none=some v':=AJ JU;obtain⟨Xj,Qm,ND,hc⟩:=C.slot i x j KD ej;have Xi:σ[j]?=some (some v'):=by
     cases e:σ[j]? with
     |none=>rw [e] at O4;cases O4
     |some w'=>rw [e] at O4;exact Bx some O4
    obtain⟨mo,W8,hl⟩:=I.loc;obtain⟨u',r',l⟩:=hl j x v' Xj Xi (.inr (.inl Qm));refine⟨u',r',?_⟩;rcases l with⟨q,_⟩|⟨_,c,ec,o,ho,hd⟩
    ·have q':X.env.scope.names.lookup x=some .local:=q;rw [Qm] at q';cases q'
    ·exact .inr ⟨.inr ND,c,hc c ec,o,hk c o ho,hd⟩
 ·obtain⟨v',o,ho,hd⟩:=I.cell x c (sub e);exact⟨v',o,hk c o ho,hd⟩
 ·show(some v::js.map λ j=>(σ[j]?).getD none).length=(y::Nc).length;rw [Ar,Aa,C.len,Ar]
def G0.at (f:G0 X F6 H b)(n:H' b=none):G0 X F6 H' b:=⟨n,f.2⟩
def Gb.weak {K:Frag}(F:'a' CX k f fd ps sp)(h:∀vs H Q E,Sa vs H Q E->sp vs H Q E):'a' CX k f fd ps Sa:=
 ⟨λ vs H Q E z=>F.len vs H Q E (h _ _ _ _ z),λ A outer s H args us vs Q E hr e0 hb r z=>F.run A outer s H args us vs Q E hr e0 hb r (h _ _ _ _ z)⟩
abbrev Js (mg:Str->Option FS)(h:FY):Prop:=∃bm o,mg "__builtins__"=↑bm/\bm≠builtinsNs/\bm≠mainGlobals/\h.get? bm='g'/\o.cls=.type "module"/\o.dict=some builtinsNs/\o.data=.plain
def qI {K:Frag}
  (KX:K.In s₁.heap) (Rm:s₁.heap.Ns mainGlobals mg) (hb:s₁.heap.Ns builtinsNs mb) (hbb:∀x:Str,x≠ "__name__"->mb x=bootBuiltins x) (YS:s₁.heap.NoLimit) (hg:s₁.gens=#[])
  (ha:s₁.heap.get? a=some {cls:=.type "list",data:=.seq vs.toArray}) (hi:IntsAre vs ns) (hl:ns.length≤sizeLine) (hr:Ge k callerA)
  (hT:s₁.heap.get? Tb=some (tabObj #[])) (hC:CodeHd s₁.heap c Tb) (hKT:K.lookup Tb=none) (Qr:Js mg s₁.heap)
  (F:∀base:FY,K.In base->base.Ns mainGlobals mg->CodeHd base c Tb->Js mg base->'a' Gn k fa fd [x] sp) (KR:∀(s:FT) (u:FS),BindsTo s fd ⟨[u],[]⟩ [(x,u)])
  (JN:∀H:Hp,Gf K H a (ns.map V.int)->H Tb=some (.tbl #[])->a≠Tb->sp [.ref a] H (λ v _=>v=.bl true) λ _ _ _=>False):
  codeAny (model P w) callerA (.call (.ref fa) ⟨[.ref a],[]⟩) (λ r s'=>r=.ok (.ret (.bool true))/\OldK s₁.heap s'.heap/\s'.os=s₁.os/\AllBare s'.gens) s₁:=by
 have rv:=qG hi;have Yz:=hi.length;have WO:a≠Tb:=λ z=>by rw [z,hT] at ha;cases ha
 have core:∀H,(∀b,b≠Tb->H b=none\/∃ob xs,H b=some (.frz ob (.lst xs)))->H Tb=some (.tbl #[])->Gf K H a (ns.map V.int)->HK P w H s₁.heap->(∀b,H b≠none->b=a\/b=Tb)->(H a≠none->K.lookup a=none)->
   codeAny (model P w) callerA (.call (.ref fa) ⟨[.ref a],[]⟩) (λ r s'=>r=.ok (.ret (.bool true))/\OldK s₁.heap s'.heap/\s'.os=s₁.os/\AllBare s'.gens) s₁:=by
  intro H hO VZ hS hok hA hK;have base_of:∀{b} {o},s₁.heap.get? b='g'->H b=none->(hidT s₁.heap H).get? b='g':=λ e n=>ue e n
  have WD:∀{b} {o},s₁.heap.get? b='g'->(b=a->False)->(b=Tb->False)->H b=none:=λ {b o} e n1 n2=>by
   cases q:H b with
   |none=>rfl
   |some u=>
    rcases hA b (by rw [q];simp) with z|z
    ·exact(n1 z).elim
    ·exact(n2 z).elim
  have OP:∀{b} {o} {es:Array DictEntry} {ep:Nat},s₁.heap.get? b='g'->o.data=.dict es ep->H b=none:=λ {b o es ep} e d=>WD e (λ z=>by
   subst z;rw [ha] at e;cases e;have d':Data.seq vs.toArray _=Data.dict es ep:=d;cases d') (λ z=>by
   subst z;rw [hT] at e;cases e;have d':Data.fields #[]=Data.dict es ep:=d;cases d')
  have Vs:∀{b} {m},s₁.heap.Ns b m->(hidT s₁.heap H).Ns b m:=λ {b m} ⟨o,es,ep,e,d,r⟩=>⟨o,es,ep,base_of e (OP e d),d,r⟩
  have hKb:K.In (hidT s₁.heap H):=λ b o e=>base_of (KX b o e) (by
   cases q:H b with
   |none=>rfl
   |some u=>
    rcases hA b (by rw [q];simp) with z|z
    ·subst z;rw [hK (by rw [q];simp)] at e;cases e
    ·subst z;rw [hKT] at e;cases e)
  have hM:Mod K mg (hidT s₁.heap H):=⟨hKb,Vs Rm,⟨mb,Vs hb,hbb⟩,let⟨mc,h1,h2⟩:=YS;⟨mc,Vs h1,h2⟩⟩;have hCb:CodeHd (hidT s₁.heap H) c Tb:=by
   obtain⟨o,M6,file,tf,flags,tg,inF,text,tt,e1,r1,r2,r3,r4,r5,r6,r7,r8,Hx⟩:=hC;exact⟨o,M6,file,tf,flags,tg,inF,text,tt,base_of e1 (WD e1 (λ z=>by
    subst z;rw [ha] at e1;cases e1;have r2':Data.seq vs.toArray _=Data.fields M6:=r2;cases r2') Hx),r1,r2,r3,r4,r5,r6,r7,r8,Hx⟩
  have TN:Js mg (hidT s₁.heap H):=by
   obtain⟨bm,o,b1,b2,b3,b4,b5,b6,b7⟩:=Qr;exact⟨bm,o,b1,b2,b3,base_of b4 (WD b4 (λ z=>by
    subst z;rw [ha] at b4;cases b4;have X':Data.seq vs.toArray _=Data.plain:=b7;cases X') (λ z=>by
    subst z;rw [hT] at b4;cases b4;have X':Data.fields #[]=Data.plain:=b7;cases X')),b5,b6,b7⟩
  have e0:JT P w K mg (hidT s₁.heap H) callerA [] s₁ H:=⟨rfl,hM,λ b o e=>wX e,A5 (qB _ _),trivial,λ b hb=>absurd (show b∈([]:List FR) from hb) Z6,hok,.of_eq hg,.inl rfl⟩;refine Dj ((F _ hKb (Vs Rm) hCb TN).run callerA [] s₁ H ⟨[.ref a],[]⟩ [.ref a] [.ref a] _ _ hr e0 (KR s₁ (.ref a)) (.cons rfl .nil) (JN H hS VZ WO)) λ r s' h=>?_
  cases r with
  |error e=>exact False.elim h
  |ok fl=>
   cases fl with
   |next=>exact False.elim h
   |brk=>exact False.elim h
   |cont=>exact False.elim h
   |ret u=>
    obtain⟨v,H',os,bare,un,UD,r',q⟩:=h;have q':v=.bl true:=q;subst q';obtain rfl:u=Value.bool true:=r';have keep:∀b o,b≠Tb->s₁.heap.get? b='g'->s'.heap.get? b='g':=λ b o n e=>by
     cases q:H b with
     |none=>exact un.keep b o e q (by intro z;exact absurd (show b∈([]:List FR) from z) Z6) Z6
     |some u=>
      rcases hO b n with z|⟨ob,xs,z⟩
      ·rw [q] at z;cases z
      ·have z2:=un.frzs b ob _ z;obtain⟨e1,_⟩:=hok b _ z;obtain⟨e2,_⟩:=UD b _ z2;rw [e] at e1;cases e1;exact e2
    obtain⟨more,hm⟩:=un.tbls Tb #[] VZ;have hTo:s'.heap.get? Tb=some (tabObj (#[]++more)):=UD Tb _ hm;refine⟨rfl,⟨λ b o e=>?_,λ b o e=>?_⟩,os,bare⟩
    ·by_cases z:b=Tb
     ·subst z;rw [hT] at e;cases e;exact .inr (.inl ⟨(hC.tab hT).isCodeTable,rfl,#[],more,rfl,hTo⟩)
     ·exact .inl (keep b o z e)
    ·by_cases z:b=Tb
     ·subst z;exact⟨_,hTo⟩
     ·exact⟨o,keep b o z e⟩
 cases hk:K.lookup a with
 |some o=>
  have e:=KX a o hk;rw [ha] at e;cases e;refine core (λ b=>if b=Tb then some (.tbl #[]) else none) (λ b n=>.inl (AH n)) (AK rfl) (.inr ⟨_,vs.toArray,_,hk,rfl,rfl,rfl,by rw [AC,Yz];exact hl,by simpa using rv⟩) (λ b u z=>?_) (λ b z=>?_) λ z=>absurd (AH WO) z
  ·by_cases hb:b=Tb
   ·have z':=(AK hb).symm.trans z;cases z';subst hb;exact hT
   ·have z':=(AH hb).symm.trans z;cases z'
  ·by_cases hb:b=Tb
   ·exact .inr hb
   ·exact absurd (AH hb) z
 |none=>
  refine core (λ b=>if b=Tb then some (.tbl #[]) else if b=a then some (.frz {cls:=.type "list",data:=.seq vs.toArray} (.lst (ns.map V.int))) else none) (λ b n=>?_) (AK rfl) (.inl (.inr ⟨{cls:=.type "list",data:=.seq vs.toArray},by show(if a=Tb then _ else _)=_;rw [AH WO,AK rfl]⟩)) (λ b u z=>?_) (λ b z=>?_) λ _=>hk
  ·by_cases hb:b=a
   ·exact .inr ⟨_,_,(AH n).trans (AK hb)⟩
   ·exact .inl ((AH n).trans (AH hb))
  ·by_cases KA:b=Tb
   ·have z':=(AK KA).symm.trans z;cases z';subst KA;exact hT
   ·by_cases hb:b=a
    ·have z':=((AH KA).trans (AK hb)).symm.trans z;cases z';subst hb;exact⟨ha,by rw [Aa];exact hl,vs,_,rv,ha⟩
    ·have z':=((AH KA).trans (AH hb)).symm.trans z;cases z'
  ·by_cases KA:b=Tb
   ·exact .inr KA
   ·by_cases hb:b=a
    ·exact .inl hb
    ·exact absurd ((AH KA).trans (AH hb)) z
def Ot {l:PySem.W.OpenLaw}{K:Params->Frag}{sp:FV->Sp}
  (hn:l.most=some n) (Jl:n≤sizeLine) (Tu:d.params.defaults=[]) (hr:Ge k callerA)
  (hY:∀(w:FV) (h:FY),YP w h->(K w.params).In h/\h.get? Tb=some (tabObj #[])) (hC:∀w:FV,codeHdIn (K w.params) c Tb=true) (hKT:∀w:FV,(K w.params).lookup Tb=none)
  (F:∀(w:FV) (mg:Str->Option FS) (fa:FR) (h:FY),(K w.params).In h->h.Ns mainGlobals mg->mg d.name=↑fa->
   ∃fd:FW,(∀(s:FT) (u:FS),BindsTo s fd ⟨[u],[]⟩ [(x,u)])/\
    ∀base:FY,(K w.params).In base->base.Ns mainGlobals mg->CodeHd base c Tb->Js mg base->Gb l.prog w (K w.params) mg base Gn k fa fd [x] (sp w))
  (JN:∀(w:FV) (H:Hp) (a:FR) (ns:List Int),ns.length≤n->Gf (K w.params) H a (ns.map V.int)->H Tb=some (.tbl #[])->a≠Tb->sp w [.ref a] H (λ v _=>v=.bl true) λ _ _ _=>False):
  PySem.W.WalkO q loose XP YP l.row.toRowW d [] (λ f vs=>PySem.call f vs):=by
 refine Att.Ld hn Tu λ w s₀ s₁ mg mb fa o pm cd doc a vs ns G Y ho hd Jm hmg QN hints hlen hg=>?_
 obtain⟨KX,hT⟩:=hY w _ Y;obtain⟨fd,hb,hF⟩:=F w mg fa _ KX G.T.g hmg;have Qr:Js mg s₁.heap:=by
  obtain⟨bm,ob,b1,b2,b3,b4,b5,b6⟩:=G.T.bmain;refine⟨bm,ob,b1,b2,λ z=>?_,b3,b4,b5,b6⟩;obtain⟨o,es,ep,e,hd,_⟩:=G.T.g;rw [z,e] at b3;cases b3;rw [hd] at b6;cases b6
 exact qI KX G.T.g G.T.b G.T.builtins G.T.nolimit hg QN hints (Ai hlen Jl) hr hT (codeHd_of_K KX (hC w)) (hKT w) Qr hF hb λ H hS VZ na=>JN w H a ns hlen hS VZ na
end L2
namespace L2
open PySem
def ju {a b x:Str}{i j k:Nat}(h1: [a,b][i]?=some x)(h2: [none,some k][i]?=some (some j)):x=b/\j=k:=by
 rcases i with _|_|i
 ·cases h2
 ·cases h1;cases h2;exact⟨rfl,rfl⟩
 ·cases h1
def slotsL {b c x:Str}{i j k l:Nat}(h1: [b,c][i]?=some x)(h2: [k,l][i]?=some j):(x=b/\j=k)\/(x=c/\j=l):=by
 rcases i with _|_|i
 ·cases h1;cases h2;exact .inl ⟨rfl,rfl⟩
 ·cases h1;cases h2;exact .inr ⟨rfl,rfl⟩
 ·cases h1
end L2
namespace K21
open PySem L2 QQ W17 W16 BP
seal PE PA PS PSs PT PW PG PI
def KN (u:Nat)(W T:'c')(ps:List (Nat×Nat)):Prop:=
 match u with
 |0=>ps=pf false T
 |1=>ps=pf true T
 |2=>∃Pp,Walk (W++T) W.length Pp (W++T).length/\ps=pP Pp
 |3=>∃(Pp:List Pc) (L:List Nat) (It:List W13.Itm) (b:Nat),Walk (W++T) W.length Pp (W++T).length/\Nh (Pp.map th) L/\W13.Walk L 0 0 It 272 b/\ps=W13.puts It++hP L Pp
 |_=>False
structure TW (T W:'c'):Prop where
 tb:∀b∈T,b<256
 one:1≤T.length
 le:T.length≤30
 wb:∀b∈W,b<256
 wl:W.length≤192
def Nh.len (h:Nh Q L):L.length=272:=by
 obtain⟨ln,_,rfl,_⟩:=h;simp
theorem KN.uniq {u:Nat}(h:KN u W T ps)(h':KN u W T ZD):ps=ZD:=by
 rcases u with _|_|_|_|u
 ·exact Eq.trans h (FP h')
 ·exact Eq.trans h (FP h')
 ·obtain⟨P,w,e⟩:=h;obtain⟨P',w',e'⟩:=h';rw [e,e',d4 w w']
 ·obtain⟨P,L,It,b,w,sl,wi,e⟩:=h;obtain⟨P',L',It',b',w',Sd,Zr,e'⟩:=h';have eP:=d4 w w';subst eP;have eL:=sl.uniq Sd;subst eL;have hl:=sl.len;rw [<-hl] at wi Zr;rw [e,e',qd wi Zr]
 ·exact False.elim h
def wZ (S):∀n p,S.length-p=n->p≤S.length->∃Pp,Walk S p Pp S.length:=by
 intro n
 induction n using Nat.strongRecOn with
 |ind n ih=>
  intro p hn hp;by_cases e:p=S.length
  ·exact⟨[],e⟩
  ·have F9:p<S.length:=CY hp e;have hz:=gZ F9;obtain⟨Pp,w⟩:=ih (S.length-(p+(pcAt S p).size)) Z5 (p+(pcAt S p).size) rfl hz.2;exact⟨pcAt S p::Pp,F9,rfl,w⟩
def gm (W T):∃Pp,Walk (W++T) W.length Pp (W++T).length:=wZ _ _ _ rfl (by rw [Ac];lia)
inductive spT (u:Nat) (B:FR) (vs:List V) (H:Hp) (Q:VK) (Gj:XK):Prop
 |mk (o:_) (p:_) (d:_) (a:_) (x:_) (T:_) (W:_) (N:_) (T0:_) (h0:vs=[.ref o,.ref p,.ref a,x]) (h1:Gh B H p d N T0) (h2:T0≤1000) (h3:H a=↥(T.map vN)) (h4:Hd H x W) (h5:TW T W) (h6:∀ps H',KN u W T ps->Gh B H' p d (eS ps N) (T0+tots ps)->(∀c o,H c='g'->c≠p->c≠d->H' c='g')->Q .non H'):spT u B vs H Q Gj
inductive Wq (u:Nat) (C:FR) (vs:List V) (H:Hp) (Q:VK) (Gj:XK):Prop
 |mk (o:_) (dx:_) (a:_) (x:_) (T:_) (W:_) (h0:vs=[.ref o,.ref a,x]) (h1:H o=some (.ins C dx [])) (h2:H a=↥(T.map vN)) (h3:Hd H x W) (h4:TW T W) (h5:∀ps H',KN u W T ps->C' H H'->Q (vN (tots ps)) H'):Wq u C vs H Q Gj
def Kk:y' ["self","text","before","bits"] ["self","text","before"] (am pC):=Gw Z8
def vA (F:Hb K "cost" "Way.cost" pC f fd)(Z:OK K mg B)(XZ:Cls K C)(Te:Meth K C "tell" fT)(bT:Binds K PV Jab [])(GT:'a' Gn 35 fT PV Jab (spT u B)):
  Gb P w K mg base Gn 36 f fd ["self","text","before"] (Wq u C):=by
 have X:=Z.R.X;obtain⟨_,_,FI,bI,MI⟩:=Z.init;obtain⟨_,_,Ma⟩:=Z.many;have TB:=Z.T;refine F.ok Kk ?_
 intro 'a';obtain⟨o,dx,a,x,T,W,rfl,ho,ha,hx,tw,k⟩:=h;have IW:Ge 2 _:=hr.mono Z9;have Gz:Ge 1 _:=hr.mono Z9;refine⟨_,ad (aq (i:=3) Kk.nd (jd MI (iV FI TB) IW Z7 Z.m bI .nil az))
  (ad (aE (aN (pv 0) XZ Te GT hr bT .nil az (aa (pv 3) (aa (pv 1) (aa (pv 2) ac)))))
  (ag (aB (cx (pv 3) TB.cl Ma.m (pb Ma.F TB X) Gz Ma.b .nil az)))),?_⟩
 refine aw λ R1 g1=>?_
 intro p dp np OR Q6;have SK:(upd (upd H dp (.own p)) p (.ins B dp [])) p=some (.ins B dp []):=af;have s0:C' H (upd (upd H dp (.own p)) p (.ins B dp [])):=λ c o e=>by
  rw [aj (ai e np),aj (ai e OR)];exact e
 refine⟨p,dp,rfl,SK,λ d H1 nd hB kp=>⟨rfl,g1 _ _ ?_⟩⟩;clear g1;have nd0:H d=none:=none_of s0 nd;have s1:C' H H1:=λ c o e=>kp _ _ (s0 _ _ e) (ai e np)
 clear s0 SK kp;refine aw λ _ g1=>⟨_,rfl,o,dx,_,rfl,s1 _ _ ho,rfl,_,rfl,_,rfl,_,rfl,o,p,d,a,x,T,W,0,0,rfl,hB,Z9,s1 _ _ ha,hx.same s1,tw,λ ps H2 ML IF Q9=>g1 _ _ ?_⟩
 clear g1;have s2:C' H H2:=λ c o e=>Q9 _ _ (s1 _ _ e) (ai e np) (ai e nd0)
 obtain⟨MT,r2,k2,Hw⟩:=IF.ob;refine⟨_,rfl,p,MT,_,rfl,Hw,dj _ _ _,p,d,_,_,rfl,IF,?_⟩;rw [DA];exact k ps _ ML s2
end K21
namespace K21.Rf
open PySem L2 QQ W16
seal PE PA PS PSs PT PW PG PI
section
variable (K:Frag)
def ye:kitOne K (.type "bool") (.type "bool")=some true:=by
 show(if(Value.type "bool"==Value.type "bool")=true then some true else if kitMeta "bool"=true then(fastBuiltinMro "bool").map (·.contains (.type "bool")) else none)=some true;decide+kernel
def ux (h:(["NoneType","str","list","tuple","dict"].contains t&& ["int","bool"].contains c)=true):kitOne K (.type t) (.type c)=some false:=by
 show(if(Value.type t==Value.type c)=true then some true else if kitMeta c=true then(fastBuiltinMro t).map (·.contains (.type c)) else none)=some false;have ht:t="NoneType"\/t="str"\/t="list"\/t="tuple"\/t="dict":=by
  have:=(Bool.and_eq_true_iff.mp h).1;simpa using this
 have hc:c="int"\/c="bool":=by
  have:=(Bool.and_eq_true_iff.mp h).2;simpa using this
 rcases ht with rfl|rfl|rfl|rfl|rfl<;>rcases hc with rfl|rfl<;>decide+kernel
def QZ (h: ["NoneType","str","int","bool","tuple","dict"].contains t=true):kitOne K (.type t) (.type "list")=some false:=by
 show(if(Value.type t==Value.type "list")=true then some true else if kitMeta "list"=true then(fastBuiltinMro t).map (·.contains (.type "list")) else none)=some false;have ht:t="NoneType"\/t="str"\/t="int"\/t="bool"\/t="tuple"\/t="dict":=by simpa using h
 rcases ht with rfl|rfl|rfl|rfl|rfl|rfl<;>decide+kernel
def xm:kitOne K (.type "bool") (.type "int")=some true:=by
 show(if(Value.type "bool"==Value.type "int")=true then some true else if kitMeta "int"=true then(fastBuiltinMro "bool").map (·.contains (.type "int")) else none)=some true;decide+kernel
def HG (H:Hp)(x:V):Prop:=∃t b c,GU K H x t/\kitOne K t (.type "int")=some c/\kitOne K t (.type "bool")=some b/\(c=false\/b=true)
def Yb (H:Hp)(x:V)(lo hi:Int)(b:Bool):Prop:=(∃i,x=.int i/\b=(decide (lo≤i)&&decide (i≤hi)))\/(HG K H x/\b=false)
variable {K}
theorem HG.bl (b):HG K H (.bl b):=⟨_,true,true,.bl b,xm K,ye K,.inr rfl⟩
def HG.of (ty:GU K H x (.type t))(h: ["NoneType","str","list","tuple","dict"].contains t=true):HG K H x:=
 ⟨_,false,false,ty,ux K (by rw [h];rfl),ux K (by rw [h];rfl),.inl rfl⟩
def G9 (K:Frag)(H:Hp)(x:V):Prop:=(∃t,GU K H x t/\kitOne K t (.type "list")=some false)\/
 ∃(a:FR) (xs:List V) (j:Nat) (y:V),x=.ref a/\H a=↥xs/\(∀i,i<j->∃n,n<256/\xs[i]?=some (vN n))/\xs[j]?=some y/\Yb K H y 0 255 false
def MV (H:Hp)(x:V)(B:'c'):Prop:=∃a,x=.ref a/\H a=↥(B.map vN)/\∀b∈B,b<256
end
inductive spWhole (K:Frag) (vs:List V) (H:Hp) (Q:VK) (Gj:XK):Prop
 |mk (x:_) (lo:_) (hi:_) (b:_) (h0:vs=[x,.int lo,.int hi]) (h1:Yb K H x lo hi b) (h2:Q (.bl b) H):spWhole K vs H Q Gj
inductive spNumb (K:Frag) (vs:List V) (H:Hp) (Q:VK) (Gj:XK):Prop
 |mk (x:_) (b:_) (h0:vs=[x]) (h1:((∃i,x=.int i/\b=true)\/(HG K H x/\b=false))) (h2:Q (.bl b) H):spNumb K vs H Q Gj
def ly (F:Hb K "is_number" "is_number" iA f fd)(T:Txt K mg):'a' Gn 0 f fd Jaf (spNumb K):=by
 refine F.ok0 sC λ F8 A outer s H vs Q E h=>?_
 intro _;obtain⟨x,b,rfl,hw,k⟩:=h;refine⟨_,ag (aB (gQ (ay dX Z7 T.isi BB (aa (pv 0) (aa (eB (v:=.ty "int") Z7 T.int EI rfl) ac))) (g8 (uX (ay dX Z7 T.isi BB (aa (pv 0) (aa (eB (v:=.ty "bool") Z7 T.bool PyProof.Rows.boot_bool rfl) ac))))))),?_⟩;rcases hw with⟨i,rfl,rfl⟩|⟨⟨t,b',c,ty,k1,k2,k3⟩,rfl⟩
 ·refine⟨_,rfl,_,_,_,_,rfl,.int _,uU K,_,rfl,eQ ?_⟩;exact⟨_,rfl,_,_,_,_,rfl,.int _,uv K,_,rfl,k⟩
 ·refine⟨_,rfl,_,_,_,_,rfl,ty,k1,_,rfl,?_⟩;cases c with
  |false=>exact cV k
  |true=>
   rcases k3 with k3|k3
   ·cases k3
   ·subst k3;exact eQ ⟨_,rfl,_,_,_,_,rfl,ty,k2,_,rfl,k⟩
def dD (F:'h' "is_whole" bQ Jaa f fd)(T:Txt K mg):'a' Gn 1 f fd Jaa (spWhole K):=by
 obtain⟨fN,Ng,NF,Nm,Nb⟩:=T.isnumb;refine F.F.ok qp ?_
 intro 'b';obtain⟨x,lo,hi,b,rfl,hw,k⟩:=h;refine⟨_,ag (aB (gQ (ap (ly NF T) hr Z7 Nm NF.kp Nb .nil az (aa (pv 0) ac)) (g8 (jh jL jL (pv 1) (pv 0) (pv 2))))),?_⟩;rcases hw with⟨i,rfl,rfl⟩|⟨hN,rfl⟩
 ·refine⟨_,rfl,_,true,rfl,.inl ⟨i,rfl,rfl⟩,_,rfl,eQ ?_⟩;refine⟨_,rfl,_,rfl,_,_,rfl,rfl,_,rfl,?_⟩;refine bc (λ h1=>?_) (λ h1=>?_)
  ·refine⟨_,rfl,_,_,rfl,rfl,?_⟩;rw [h1,Bool.true_and] at k;exact k
  ·have h2:decide (lo≤i)=false:=by simpa using h1
   rw [h2,Fq] at k;exact k
 ·exact⟨_,rfl,_,false,rfl,.inr ⟨hN,rfl⟩,_,rfl,cV k⟩
inductive spAreWhole (K:Frag) (vs:List V) (H:Hp) (Q:VK) (Gj:XK):Prop
 |mk (x:V) (h0:vs=[x,.int 0,.int 255]) (h1:((∃B,MV H x B/\Q (.bl true) H)\/(G9 K H x/\Q (.bl false) H))):spAreWhole K vs H Q Gj
def pK (b:Nat)(h:b<256):(decide ((0:Int)≤(b:Int))&&decide ((b:Int)≤255))=true:=by
 rw [Ae (BG _),Ae Z5];rfl
def dg {P:FU}{f fW:FR}(F:'h' "are_whole" bV Jaa f fd)(W:'h' "is_whole" bQ Jaa fW JV)(T:Txt K mg):'a' Gn 2 f fd Jaa (spAreWhole K):=by
 have GW:'a' Gn 1 fW JV Jaa (spWhole K):=dD W T;refine F.F.ok HE ?_
 intro 'b';obtain⟨x,rfl,h⟩:=h;refine⟨_,ad (aM (cv (bX (ay dX Z7 T.isi BB (aa (pv 0) (aa (eB (v:=.ty "list") Z7 T.list Cy rfl) ac))))) (ag (aB cO)) aF)
  (ad (bp AV rfl (bi (pv 0)) (aG (i:=3) HE.nd)
   (ag (aM (cv (bX (ap GW hr Z7 W.m W.F.kp W.b .nil az (aa (pv 3) (aa (pv 1) (aa (pv 2) ac)))))) (ag (aB cO)) aF)))
  (ag (aB cO))),?_⟩
 rcases h with⟨B,⟨a,rfl,hB,hb⟩,k⟩|⟨⟨t,ty,kl⟩|⟨a,xs,j,y,rfl,hL,Xm,hj,hy⟩,k⟩
 ·refine⟨_,rfl,_,_,_,_,rfl,.lst hB,nN K,_,rfl,cV ?_⟩;refine⟨_,rfl,a,rfl,⟨_,Gf.of hB⟩,bH (λ i σ H2=>∃v,σ=[↑a,some (.int 0),some (.int 255),v]/\H2=H)
   ⟨none,rfl,rfl⟩ (λ i σ H2 _ z9=>by obtain⟨_,_,e⟩:=z9;exact by rw [e];exact Gf.of hB) ?_ ?_⟩
  ·rintro i y σ H2 hi ⟨v,rfl,rfl⟩;obtain⟨b,Ib,rfl⟩:∃b,b∈B/\y=vN b:=by
    rw [AU] at hi;cases e:B[i]? with
    |none=>rw [e] at hi;cases hi
    |some z=>rw [e] at hi;exact⟨z,AX e,(AJ hi).symm⟩
   refine⟨_,rfl,_,rfl,_,rfl,_,_,_,_,rfl,.inl ⟨_,rfl,rfl⟩,_,rfl,?_⟩;rw [pK b (hb b Ib)];exact cV ⟨_,rfl,rfl⟩
  ·rintro σ H2 ⟨v,rfl,rfl⟩;exact k
 ·exact⟨_,rfl,_,_,_,_,rfl,ty,kl,_,rfl,eQ k⟩
 ·refine⟨_,rfl,_,_,_,_,rfl,.lst hL,nN K,_,rfl,cV ?_⟩;refine⟨_,rfl,a,rfl,⟨_,Gf.of hL⟩,bH (λ i σ H2=>i≤j/\∃v,σ=[↑a,some (.int 0),some (.int 255),v]/\H2=H)
   ⟨A1 _,none,rfl,rfl⟩ (λ i σ H2 _ z9=>by obtain⟨_,_,_,e⟩:=z9;exact by rw [e];exact Gf.of hL) ?_ ?_⟩
  ·rintro i z σ H2 hi ⟨VP,v,rfl,rfl⟩;by_cases e:i=j
   ·subst e;rw [hj] at hi;cases hi;exact⟨_,rfl,_,rfl,_,rfl,_,_,_,_,rfl,hy,_,rfl,eQ k⟩
   ·obtain⟨n,hn,e2⟩:=Xm i (CY VP e);rw [e2] at hi;cases hi;refine⟨_,rfl,_,rfl,_,rfl,_,_,_,_,rfl,.inl ⟨_,rfl,rfl⟩,_,rfl,?_⟩;rw [pK n hn];exact cV ⟨Z5,_,rfl,rfl⟩
  ·rintro σ H2 ⟨VP,v,rfl,rfl⟩;have:=(Af.mp hj).1;lia
inductive spIsRow (K:Frag) (vs:List V) (H:Hp) (Q:VK) (Gj:XK):Prop
 |mk (x:V) (h0:vs=[x]) (h1:((∃B,MV H x B/\Q (.bl true) H)\/(G9 K H x/\Q (.bl false) H))):spIsRow K vs H Q Gj
def iP {P:FU}{w:FV}{base:FY}{f fW:FR}(F:'h' "is_row" iW Jaf f fd)(W:'h' "is_whole" bQ Jaa fW JV)(Y:Rows K mg):'a' Gn 3 f fd Jaf (spIsRow K):=by
 obtain⟨fA,PX,AW⟩:=Y.arewhole;have T:=Y.X;obtain⟨tg,hg⟩:=T.great;refine F.F.ok pM ?_
 intro 'b';obtain⟨x,rfl,h⟩:=h;refine⟨_,ag (aB (ap (dg AW W T) hr Z7 AW.m AW.F.kp AW.b .nil az (aa (pv 0) (aa ae (aa (aJ (v:=.int 255) Z7 hg ⟨tg,rfl⟩) ac))))),?_⟩;exact⟨_,rfl,x,rfl,h⟩
inductive spNeedRow (K:Frag) (cR:FR) (vs:List V) (H:Hp) (Q:VK) (E:XK):Prop
 |mk (x:V) (h0:vs=[x]) (h1:((∃B,MV H x B/\∀l,H l=none->Q (.ref l) (upd H l (.lst (B.map vN))))\/(G9 K H x/\E (.ref cR) none H))):spNeedRow K cR vs H Q E
def cX {P:FU}{w:FV}{f fW fR:FR}{fd JV QC:FW}(F:'h' "need_row" cb Jaf f fd)(R:'h' "is_row" iW Jaf fR QC)(W:'h' "is_whole" bQ Jaa fW JV)(Y:Rows K mg)(mR:mg "BadRow"=↑cR)(xR:ExC K cR):
  Gb P w K mg base (Jo P w) 31 f fd Jaf (spNeedRow K cR):=by
 have GR:'a' Gn 3 fR QC Jaf (spIsRow K):=iP R W Y;have T:=Y.X;refine F.F.okE j8 ?_
 intro 'b';obtain⟨x,rfl,h⟩:=h;have IW:Ge 3 _:=hr.mono Z9;refine⟨_,ad (aM (cv (bX (ap GR IW Z7 R.m R.F.kp R.b .nil az (aa (pv 0) ac)))) (ag (cj bu (hr.hd Z9) Z7 mR xR aX)) aF)
  (ag (aB (cK dt Z7 T.list Cy (aa (pv 0) ac)))),?_⟩
 rcases h with⟨B,⟨a,rfl,hB,hb⟩,k⟩|⟨hN,k⟩
 ·refine⟨_,rfl,_,rfl,.inl ⟨B,⟨a,rfl,hB,hb⟩,_,rfl,cV ?_⟩⟩;exact⟨_,rfl,a,_,rfl,.inl (Gf.of hB),k⟩
 ·exact⟨_,rfl,_,rfl,.inr ⟨hN,_,rfl,eQ k⟩⟩
end K21.Rf
namespace L2
open PySem PySem.Spec PyProof.Rows QQ
inductive P5 (n:Int) (Q:VK) (v:V) (H1:Hp):Prop
 |mk (h0:v=.int n) (h1:∀z,Q (.str z) H1):P5 n Q v H1
def tFs (n:Int)(te:TE):TE:=λ σ H Q=>te σ H λ v H1=>P5 n Q v H1
def yX {n:Int}{a b:Str}{j1 j2:Nat}{p1 p2 p3 pos:Pos}(he:PE X e te)(hn:autoParam (n.natAbs.log2<1920) ZZ)(h1:autoParam ((Str.empty++a).length≤sizeLine) ZZ)(h2:autoParam ((Str.empty++a++Str.ofString (toString n)).length≤sizeLine) ZZ)
  (h3:autoParam ((Str.empty++a++Str.ofString (toString n)++b).length≤sizeLine) ZZ):PE X (.JoinedStr [.Constant (.str a) j1 p1,.FormattedValue e (-1) none p2,.Constant (.str b) j2 p3] pos) (tFs n te):=by
 intro F6 s σ H Q I h;refine wpAny_JoinedStr ?_;show wpAny _ _ (eval (.Constant (.str a) j1 p1) X.env) _ _ s;refine Fo ⟨a,_,rfl,h1,?_⟩;show wpAny _ _ (eval (.FormattedValue e (-1) none p2) X.env) _ _ _;refine wpAny_FormattedValue_plain (thn (he F6 _ σ H _ (I.tok _) h) λ v s1 z9=>?_);obtain⟨y,H1,I1,r1,q1⟩:=z9;obtain⟨rfl,q1⟩:=q1;obtain⟨t,rfl⟩:=r1;refine wpAny_formatField_int hn ⟨Str.ofString (toString n),_,rfl,h2,?_⟩;show wpAny _ _ (eval (.Constant (.str b) j2 p3) X.env) _ _ _;refine Fo ⟨b,_,rfl,h3,h3,?_⟩;exact⟨.str _,H1,(I1.tok _),⟨_,rfl⟩,q1 _⟩
end L2
namespace K21.Rf
open PySem L2 QQ W16
seal PE PA PS PSs PT PW PG PI
def GU.same (s:C' H H')(h:GU K H x t):GU K H' x t:=by
 cases h with
 |non=>exact .non
 |bl y=>exact .bl y
 |int i=>exact .int i
 |str y=>exact .str y
 |flt y=>exact .flt y
 |lst e=>exact .lst (s _ _ e)
 |frz e=>exact .frz (s _ _ e)
 |tup e=>exact .tup (s _ _ e)
 |dK e=>exact .dK (s _ _ e)
 |dT e=>exact .dT (s _ _ e)
 |ins e cl ha hn htk hm=>exact .ins (s _ _ e) cl ha hn htk hm
theorem HG.same (s:C' H H')(h:HG K H x):HG K H' x:=by
 obtain⟨t,b,c,ty,r⟩:=h;exact⟨t,b,c,GU.same s ty,r⟩
theorem G9.same (s:C' H H')(h:G9 K H x):G9 K H' x:=by
 rcases h with⟨t,ty,r⟩|⟨a,xs,j,y,e,hl,hg,hj,hy⟩
 ·exact .inl ⟨t,GU.same s ty,r⟩
 ·refine .inr ⟨a,xs,j,y,e,s _ _ hl,hg,hj,?_⟩;rcases hy with hy|⟨hy,r⟩
  ·exact .inl hy
  ·exact .inr ⟨hy.same s,r⟩
def MV.same (h:MV H x B)(s:C' H H'):MV H' x B:=by
 obtain⟨a,e,h1,h2⟩:=h;exact⟨a,e,s _ _ h1,h2⟩
def Win (H:Hp)(x:V)(W:'c'):Prop:=(x=.non/\W=[])\/MV H x W
def Ii (K:Frag)(H:Hp)(x:V)(m:Nat):Prop:=(x≠ .non/\G9 K H x)\/∃W,MV H x W/\m<W.length
structure Nr (K:Frag)(mg:Str->Option FS)(cR:FR):Prop where
 Y:Rows K mg
 need:∃f fd,'h' "need_row" cb Jaf f fd
 mR:mg "BadRow"=↑cR
 xR:ExC K cR
def Nr.ok (Z:Nr K mg cR):∃f fd,'h' "need_row" cb Jaf f fd/\∀P w base,'a' (Jo P w) 31 f fd Jaf (spNeedRow K cR):=by
 obtain⟨f,fd,N⟩:=Z.need;obtain⟨_,_,R⟩:=Z.Y.isrow;obtain⟨_,_,W⟩:=Z.Y.whole;exact⟨f,fd,N,λ _ _ _=>cX N R W Z.Y Z.mR Z.xR⟩
inductive spNeedWin (K:Frag) (cR:FR) (vs:List V) (H:Hp) (Q:VK) (E:XK):Prop
 |mk (x:_) (h0:vs=[x,.int 192]) (h1:((∃W,Win H x W/\W.length≤192/\∀l,H l=none->Q (.ref l) (upd H l (.lst (W.map vN))))\/(Ii K H x 192/\∀H',C' H H'->E (.ref cR) none H'))):spNeedWin K cR vs H Q E
def scNeedWin:y' ["before","most","window"] Jal (am cM):=Gw Z8
def eA (F:'h' "need_window" cM Jal f fd)(Z:Nr K mg cR):
  Gb P w K mg base (Jo P w) 32 f fd Jal (spNeedWin K cR):=by
 obtain⟨_,_,N,Yo⟩:=Z.ok;have GN:=Yo P w base;have T:=Z.Y.X;refine F.F.okE scNeedWin ?_
 intro 'b';obtain⟨x,rfl,h⟩:=h;refine⟨_,ad (aM (aA kG (pv 0) eC (aC _)) (ag (aB (aH ac))) aF)
  (ad (aq (i:=2) scNeedWin.nd (ap GN hr Z7 N.m N.F.kp N.b .nil bu (aa (pv 0) ac)))
  (ad (aM (aA dk (ay ax Z7 T.len Ay (aa (pv 2) ac)) (pv 1) (aC _)) (ag (cj bu (hr.hd Z9) Z7 Z.mR Z.xR (yX (n:=192) (pv 1)))) aF)
  (ag (aB (pv 2))))),?_⟩
 rcases h with⟨W,⟨rfl,rfl⟩|⟨b,rfl,hB,hb⟩,hl,k⟩|⟨⟨hx,hN⟩|⟨W,⟨b,rfl,hB,hb⟩,hl⟩,k⟩
 ·exact⟨_,rfl,rfl,_,rfl,bc (λ _=>⟨Z9,k⟩) (λ h=>absurd (Ae rfl) h)⟩
 ·refine⟨_,rfl,rfl,_,rfl,bc (λ h=>absurd (Am h) 'f') (λ _=>?_)⟩;refine⟨_,rfl,_,rfl,.inl ⟨W,⟨b,rfl,hB,hb⟩,λ l hn=>?_⟩⟩;refine⟨_,rfl,l,_,rfl,.inl (Gf.of af),_,rfl,_,_,rfl,rfl,_,rfl,bc (λ h=>?_) (λ _=>?_)⟩
  ·have:=Am h;rw [Aa] at this;exact absurd (Int.ofNat_lt.1 this) (Nat.not_lt.2 hl)
  ·exact⟨_,rfl,k l hn⟩
 ·refine⟨_,rfl,rfl,_,rfl,bc (λ h=>absurd (Am h) hx) (λ _=>?_)⟩;exact⟨_,rfl,x,rfl,.inr ⟨hN,k _ (C'.refl H)⟩⟩
 ·refine⟨_,rfl,rfl,_,rfl,bc (λ h=>absurd (Am h) 'f') (λ _=>?_)⟩;refine⟨_,rfl,_,rfl,.inl ⟨W,⟨b,rfl,hB,hb⟩,λ l hn=>?_⟩⟩;refine⟨_,rfl,l,_,rfl,.inl (Gf.of af),_,rfl,_,_,rfl,rfl,_,rfl,bc (λ _=>?_) (λ h=>?_)⟩
  ·exact⟨_,rfl,rfl,λ z=>k _ (ak hn)⟩
  ·exfalso;exact h (Ae (by rw [Aa];exact Int.ofNat_lt.2 hl))
inductive spNeedAhead (K:Frag) (cR:FR) (vs:List V) (H:Hp) (Q:VK) (E:XK):Prop
 |mk (x:_) (h0:vs=[x]) (h1:((∃W,Win H x W/\W.length≤192/\∀l,H l=none->Q (.ref l) (upd H l (.lst (W.map vN))))\/(Ii K H x 192/\∀H',C' H H'->E (.ref cR) none H'))):spNeedAhead K cR vs H Q E
def fm:y' ["before"] ["before"] (am cH):=Gw Z8
def eG (F:'h' "need_ahead" cH ["before"] f fd)(N:'h' "need_window" cM Jal fN Ng)(Z:Nr K mg cR):
  Gb P w K mg base (Jo P w) 33 f fd ["before"] (spNeedAhead K cR):=by
 have GN:=eA (P:=P) (w:=w) (base:=base) N Z;obtain⟨tg,hg⟩:=Z.Y.X.ahead;refine F.F.okE fm ?_
 intro 'b';obtain⟨x,rfl,h⟩:=h;refine⟨_,ag (aB (ap GN hr Z7 N.m N.F.kp N.b .nil bu (aa (pv 0) (aa (aJ (v:=.int 192) Z7 hg ⟨tg,rfl⟩) ac)))),?_⟩;exact⟨_,rfl,x,rfl,h⟩
def Jr (K:Frag)(H:Hp)(x y:V):Prop:=G9 K H x\/∃T,MV H x T/\(T.length=0\/64<T.length\/(T.length≤64/\Ii K H y 192))
inductive spNeedSigns (K:Frag) (cR:FR) (vs:List V) (H:Hp) (Gj:VK) (E:XK):Prop
 |mk (x:_) (y:_) (h0:vs=[x,y]) (h1:Jr K H x y) (h2:∀H',C' H H'->E (.ref cR) none H'):spNeedSigns K cR vs H Gj E
def scNeedSigns:y' ["text","before","signs"] Jad (am cY):=Gw Z8
theorem Ii.same (h:Ii K H x m)(s:C' H H'):Ii K H' x m:=by
 rcases h with⟨h1,h⟩|⟨W,h,r⟩
 ·exact .inl ⟨h1,h.same s⟩
 ·exact .inr ⟨W,h.same s,r⟩
def ok_needsigns (F:'h' "need_signs" cY Jad f fd)(A':'h' "need_ahead" cH ["before"] fA PX)(NW:'h' "need_window" cM Jal fN Ng)(Z:Nr K mg cR):
  Gb P w K mg base (Jo P w) 34 f fd Jad (spNeedSigns K cR):=by
 have GA:=eG (P:=P) (w:=w) (base:=base) A' NW Z;obtain⟨_,_,N,Yo⟩:=Z.ok;have GN:=Yo P w base;have T:=Z.Y.X;obtain⟨tg,hg⟩:=T.signs;refine F.F.okE scNeedSigns ?_
 intro 'b';obtain⟨x,y,rfl,h,k⟩:=h;have Gz:Ge 31 _:=hr.mono Z9;refine⟨_,ad (aq (i:=2) scNeedSigns.nd (ap GN Gz Z7 N.m N.F.kp N.b .nil bu (aa (pv 0) ac)))
  (ad (aM (PW.pt (jg (aA bE (ay ax Z7 T.len Ay (aa (pv 2) ac)) ae (aC _)) (fX (aA dk (ay ax Z7 T.len Ay (aa (pv 2) ac)) (aJ (v:=.int 64) Z7 hg ⟨tg,rfl⟩) (aC _))))) (ag (cj bu (hr.hd Z9) Z7 Z.mR Z.xR aX)) aF)
  (ad (aE (ap GA hr Z7 A'.m A'.F.kp A'.b .nil bu (aa (pv 1) ac)))
  (ag (aB (pv 2))))),?_⟩
 rcases h with h|⟨T',⟨b,rfl,hB,hb⟩,h⟩
 ·exact⟨_,rfl,x,rfl,.inr ⟨h,k _ (C'.refl H)⟩⟩
 refine⟨_,rfl,_,rfl,.inl ⟨T',⟨b,rfl,hB,hb⟩,λ l hn=>?_⟩⟩;have s1:=ak (o:=.lst (T'.map vN)) hn;have NC:(upd H l (.lst (T'.map vN))) l=↥(T'.map vN):=af;generalize upd H l (.lst (T'.map vN))=H1 at*;refine⟨_,rfl,l,_,rfl,.inl (Gf.of NC),rfl,_,rfl,bc (λ _=>eQ (k _ s1)) (λ h0=>?_)⟩;have h0:¬T'.length=0:=λ z=>h0 (Ae (by rw [Aa,z];rfl))
 refine⟨_,rfl,l,_,rfl,.inl (Gf.of NC),_,_,rfl,rfl,_,rfl,bc (λ _=>k _ s1) (λ h1=>?_)⟩;have h1:¬64<T'.length:=λ z=>h1 (Ae (by rw [Aa];exact Int.ofNat_lt.2 z))
 rcases h with h|h|⟨_,h⟩
 ·exact absurd h h0
 ·exact absurd h h1
 ·exact⟨_,rfl,y,rfl,.inr ⟨h.same s1,λ H' s2=>k _ (s1.trans s2)⟩⟩
end K21.Rf
namespace K21
open PySem L2 QQ W17 W16 BP
seal PE PA PS PSs PT PW PG PI
abbrev gL:F5:=top 32
abbrev oB:F5:=bq (top 34) 0
abbrev jQ:F5:=bq (top 34) 1
abbrev lT:F5:=bq (top 34) 2
def bt (R:'c')(t s:Nat):Nat:=val R/2^(8*R.length-(t+s))%2^s
def Hs:y' ["row","place","size","end","bytes_to_end","number","byte"] ["row","place","size"] (am gL):=Gw Z8
def rZ (F:'h' "bits_at" gL ["row","place","size"] f fd)(O:'h' "ones" gf Jak fO RA)(T:Txt K mg):'a' Gn 2 f fd ["row","place","size"] JA:=by
 have GO:'a' Gn 1 fO RA Jak spOnes:=k6 O;refine F.F.ok Hs ?_
 intro 'a';obtain⟨a,B,p,s,rfl,hB,hb,ML,hs,k⟩:=h;refine⟨_,ad (aq (i:=3) Hs.nd (ao aI (pv 1) (pv 2)))
  (ad (aq (i:=4) Hs.nd (ao bo (ao aI (pv 3) ae) ae))
  (ad (aq (i:=5) Hs.nd ae)
  (ad (bp AV rfl (bi (cf dI (pv 0) (bM (ao bo (pv 1) ae)) (bM (pv 4)))) (aG (i:=6) Hs.nd)
   (ag (aq (i:=5) Hs.nd (ao um (ao dP (pv 5) ae) (pv 6)))))
  (ag (aB (ao sU (ao og (pv 5) (ao bd (ao eV ae (pv 4)) (pv 3))) (ap GO hr (by rfl) O.m O.F.kp O.b .nil az (aa (pv 2) ac)))))))),?_⟩
 refine⟨_,rfl,_,rfl,_,_,rfl,rfl,?_⟩;refine⟨_,rfl,_,_,rfl,rfl,_,_,rfl,rfl,⟨by decide,by decide⟩,?_⟩;have e1:((p:Int)+(s:Int)+7)/8=⇑((p+s+7)/8):=by lia
 have e2:(p:Int)/8=⇑(p/8):=by lia
 have e3:(p:Int)+(s:Int)=⇑(p+s):=by lia
 have h1:p/8≤(p+s+7)/8:=by lia
 have h2:(p+s+7)/8≤B.length:=by lia
 try dsimp only
 rw [e1,e3];refine⟨_,rfl,_,rfl,_,_,rfl,rfl,⟨by decide,by decide⟩,_,rfl,_,rfl,_,rfl,a,_,rfl,Gf.of hB,λ l hl=>?_⟩
 try dsimp only
 rw [e2,wo h1 h2];have hc:∀b∈(B.take ((p+s+7)/8)).drop (p/8),b<256:=λ b NG=>hb b (DQ (DP NG))
 have OD:((B.take ((p+s+7)/8)).drop (p/8)).length≤4:=by rw [Au,Aq];lia
 have key:=BP.Oy hb ML;generalize (B.take ((p+s+7)/8)).drop (p/8)=C at*;have sm:C' H (upd H l (.lst (C.map vN))):=λ b o e=>by rw [aj (ai e hl)];exact e
 refine⟨l,rfl,⟨_,Gf.of af⟩,bH (D:=⟨_,_,λ _ _=>False,λ _ _=>False⟩) (λ i σ H2=>∃v,σ=[↑a,some (vN p),some (vN s),some (vN (p+s)),some (vN ((p+s+7)/8)),some (vN (BP.val (C.take i))),v]/\H2=upd H l (.lst (C.map vN)))
  ⟨none,rfl,rfl⟩ (λ i σ H2 _ z9=>by obtain⟨_,_,e⟩:=z9;exact by rw [e];exact Gf.of af) ?_ ?_⟩
 ·rintro i y σ H2 hi ⟨v,rfl,rfl⟩;obtain⟨b,Ib,rfl⟩:=ck hi;have TH:b<256:=hc b (AX Ib);have HI:i<C.length:=(Af.mp Ib).1;have hv:BP.val (C.take i)<256^(C.take i).length:=BP.Ki λ b NG=>hc b (DQ NG)
  have hv2:BP.val (C.take i)<256^4:=Ap hv (Cv (by decide) (by rw [Aq];lia));refine⟨_,rfl,_,_,rfl,rfl,⟨by decide,by decide,?_⟩,_,rfl,_,_,rfl,rfl,?_⟩
  ·have:(256:Nat)^4<2^64:=by decide
   lia
  ·have e:=nO (BP.val (C.take i)) b 8 TH;have e':BP.val (C.take i)*2^8+b=BP.val (C.take (i+1)):=by rw [dY Ib,BP.Jw]
   try dsimp only
   rw [e'] at e;exact⟨some (vN b),Bx (λ z=>[some (V.ref a),some (vN p),some (vN s),some (vN (p+s)),some (vN ((p+s+7)/8)),some (V.int z),some (vN b)]) e,rfl⟩
 ·rintro σ H2 ⟨v,rfl,rfl⟩
  try dsimp only
  rw [Aa,AT];have e4:(8:Int)*⇑((p+s+7)/8)-⇑(p+s)=⇑(8*((p+s+7)/8)-(p+s)):=by lia
  refine⟨_,rfl,_,rfl,_,_,rfl,rfl,.inl ⟨by decide,by decide⟩,_,rfl,_,_,rfl,rfl,?_⟩
  try dsimp only
  rw [e4];refine⟨_,_,rfl,rfl,by lia,_,rfl,s,rfl,by lia,_,_,rfl,rfl,?_⟩
  try dsimp only
  rw [pA,mE,key];exact k _ sm
structure Gq (C:FR)(H:Hp)(p d:FR)(R:'c')(t:Nat):Prop where
 ob:∃dx,H p=some (.ins C dx (fR d t))
 ls:H d=↥(R.map vN)
 by':∀b∈R,b<256
 le:t≤8*R.length
structure O7 (K:Frag)(mg:Str->Option FS)(C:FR):Prop where
 cl:Cls K C
 nH:NoAttr K C "held"
 nT:NoAttr K C "taken"
inductive Mo (C:FR) (vs:List V) (H:Hp) (Q:VK) (Gj:XK):Prop
 |mk (p:_) (dx:_) (a:_) (R:_) (h0:vs=[.ref p,.ref a]) (h1:H p=some (.ins C dx [])) (h2:H a=↥(R.map vN)) (h3:(∀b∈R,b<256)) (h4:∀d H',H d=none->Gq C H' p d R 0->(∀b o,H b='g'->b≠p->H' b='g')->Q .non H'):Mo C vs H Q Gj
def wd:y' ["self","row"] ["self","row"] (am oB):=Gw Z8
def sP (F:Hb K "__init__" "BitReader.__init__" oB f fd)(N:'h' "need_row" cb Jaf fN Ng)(Y:Rows K mg)(T:O7 K mg C):'a' Gn 5 f fd ["self","row"] (Mo C):=by
 have GN:'a' Gn 4 fN Ng Jaf spNeedRow:=cX N Y;refine F.ok wd ?_
 intro 'a';obtain⟨p,dx,a,R',rfl,hp,ha,hb,k⟩:=h;refine⟨_,ad (cF (pv 0) (ap GN hr (by rfl) N.m N.F.kp N.b .nil az (aa (pv 1) ac)) rfl) (ag (cF (pv 0) ae rfl)),?_⟩;refine⟨_,rfl,a,R',rfl,ha,hb,λ d hd=>?_⟩;have Iv:p≠d:=ai hp hd;refine⟨_,rfl,p,C,dx,[],rfl,(by rw [aj Iv];exact hp),T.cl,T.nH,(by show 0<1000;decide),_,rfl,p,C,dx,_,rfl,af,T.cl,T.nT,(by show 1<1000;decide),?_⟩;refine k d _ hd ⟨⟨dx,Eq.trans af (Bx (λ l=>some (HO.ins C dx l)) (qe d 0))⟩,by rw [aj Iv.symm,aj Iv.symm,af],hb,A1 _⟩ λ b o e hb=>?_
 rw [aj hb,aj hb,aj (ai e hd)];exact e
inductive spLeft (C:FR) (vs:List V) (H:Hp) (Q:VK) (Gj:XK):Prop
 |mk (p:_) (d:_) (R:_) (t:_) (h0:vs=[.ref p]) (h1:Gq C H p d R t) (h2:Q (vN (8*R.length-t)) H):spLeft C vs H Q Gj
def xy:y' Jah Jah (am lT):=Gw Z8
def qf (F:Hb K "left" "BitReader.left" lT f fd)(T:O7 K mg C)(X:Txt K mg):'a' Gn 1 f fd Jah (spLeft C):=by
 refine F.ok xy ?_
 intro 'a';obtain⟨p,d,R,t,rfl,⟨⟨dx,hp⟩,hd,hb,ht⟩,q⟩:=h;refine⟨_,ag (aB (ao bd (ao eV ae (ay ax (by rfl) X.len Ay (aa (bB (pv 0) rfl) ac))) (bB (pv 0) rfl))),?_⟩;refine⟨_,rfl,p,C,dx,_,_,rfl,hp,T.cl,T.nH,jD _ _,d,_,rfl,.inl (Gf.of hd),_,_,rfl,rfl,.inl ⟨by decide,by decide⟩,?_⟩;refine⟨_,rfl,p,C,dx,_,_,rfl,hp,T.cl,T.nT,gJ _ _,_,_,rfl,rfl,?_⟩;have e:(8:Int)*((R.map vN).length:Int)-(t:Int)=⇑(8*R.length-t):=by rw [Aa];lia
 try dsimp only
 rw [e];exact q
inductive LI (C cN:FR) (vs:List V) (H:Hp) (Q:VK) (E:XK):Prop
 |mk (p:_) (d:_) (R:_) (t:_) (s:_) (h0:vs=[.ref p,vN s]) (h1:Gq C H p d R t) (h2:s≤24) (h3:(t+s≤8*R.length->∀H',Gq C H' p d R (t+s)->(∀c o,H c='g'->c≠p->H' c='g')->Q (vN (bt R t s)) H')) (h4:(8*R.length<t+s->E (.ref cN) none H)):LI C cN vs H Q E
def Oi:y' ["self","size","number"] ["self","size"] (am jQ):=Gw Z8
def pI (F:Hb K "take" "BitReader.take" jQ f fd)(S:'h' "need_size" cQ Jak fS V2)(W:'h' "is_whole" bQ Jaa RC JV)
  (B:'h' "bits_at" gL ["row","place","size"] fB TX) (O:'h' "ones" gf Jak fO RA) (L:Me K C "left" "BitReader.left" lT Jah fL fdL) (T:O7 K mg C) (X:Txt K mg) (mN:mg "NoBits"=↑cN) (xN:ExC K cN):
  Gb P w K mg base (Lp P w) 31 f fd ["self","size"] (LI C cN):=by
 have GS:'a' Gn 2 fS V2 Jak spNeedSize:=il S W X;have GB:'a' Gn 2 fB TX ["row","place","size"] JA:=rZ B O X;have GL:'a' Gn 1 fL fdL Jah (spLeft C):=qf L.F T X;refine F.okE Oi ?_
 intro 'a';obtain⟨p,d,R,t,s,rfl,S0,hs,q,qE⟩:=h;obtain⟨⟨dx,hp⟩,hd,hb,ht⟩:=id S0;have Iv:p≠d:=aT hp hd 'f';have Gz:Ge 1 _:=hr.mono (by decide);have IW:Ge 2 _:=hr.mono (by decide);refine⟨_,ad (aE (ap GS IW (by rfl) S.m S.F.kp S.b .nil az (aa (pv 1) ac)))
  (ad (aM (aA dk (pv 1) (cx (pv 0) T.cl L.m GL Gz L.b .nil az) (aC _)) (ag (cj bu (hr.hd (by decide)) (by rfl) mN xN aX)) aF)
  (ad (aq (i:=2) Oi.nd (ap GB IW (by rfl) B.m B.F.kp B.b .nil az (aa (bB (pv 0) rfl) (aa (bB (pv 0) rfl) (aa (pv 1) ac)))))
  (ad (cF (pv 0) (ao aI (bB (pv 0) rfl) (pv 1)) rfl)
  (ag (aB (pv 2)))))),?_⟩
 refine⟨_,rfl,s,rfl,hs,?_⟩;refine⟨_,rfl,_,rfl,p,dx,_,rfl,hp,dL _ _ (by decide+kernel) (by decide+kernel),p,d,R,t,rfl,S0,_,_,rfl,rfl,_,rfl,bc (λ h0=>?_) (λ h0=>?_)⟩
 ·have:=Am h0;exact qE (by lia)
 have Iw:t+s≤8*R.length:=by
  have:¬(⇑(8*R.length-t)<(s:Int)):=λ z=>h0 (Ae z)
  lia
 have q:=q Iw;refine⟨_,rfl,p,C,dx,_,_,rfl,hp,T.cl,T.nH,jD _ _,_,rfl,p,C,dx,_,_,rfl,hp,T.cl,T.nT,gJ _ _,_,rfl,d,R,t,s,rfl,hd,hb,Iw,hs,λ H1 sm=>?_⟩;have Kw:=sm _ _ hp;refine⟨_,rfl,p,C,dx,_,_,rfl,Kw,T.cl,T.nT,gJ _ _,_,rfl,_,_,rfl,rfl,_,rfl,p,C,dx,_,rfl,Kw,T.cl,T.nT,uS _ _,?_⟩;have e1:(t:Int)+(s:Int)=⇑(t+s):=by lia
 try dsimp only
 rw [e1,ui];refine⟨_,rfl,?_⟩;refine q _ ⟨⟨dx,af⟩,by rw [aj Iv.symm];exact sm _ _ hd,hb,Iw⟩ λ c o e n1=>?_
 rw [aj n1];exact sm c o e
end K21
namespace QQ
open PySem PyProof.Rows
def KP (h:FY)(e:FR)(cls:FS)(T L:FR)(c:FS):Prop:=
 ∃vs oT ts,h.get? e=some (exO cls vs)/\(vs[2]?=some c/\6≤vs.size)/\vs[1]?=↑T/\T≠e/\h.get? T=some oT/\oT.data=.fields ts/\ts[3]?=some (rawInt L)
def kq {E:FS->FT->Prop}
    (Je:A.frames=some (env::outer)) (hl:s.heap.FunFrames base (env::outer)) (hf:env.frame=some L)
    (he:s.heap.get? e=some (exO cls vs)) (h1:1<vs.size) (h2:vs[2]?=some c/\6≤vs.size)
    (h:∀h' T,KP h' e cls T L c->s.heap.objs.size≤T->(∀b o,s.heap.get? b='g'->b≠e->b∉(env::outer).filterMap (·.frame)->h'.get? b='g')->
      (∀b o,s.heap.get? b='g'->b≠e->∃sl,h'.get? b=some {o with slots:=sl})->Q () {s with heap:=h'}):
    wpAny M A (do let a<-frameOf env;let pl<-entryPlaceOf L had;let b<-EntryCells.newEntry head a .none (rawInt L) .none pl;setField (.ref e) 1 b) Q E s:=by
  have ne:e∉(env::outer).filterMap (·.frame):=λ hm=>by
    obtain⟨_,o,ho,SQ⟩:=hl.mem hm
    rw [he] at ho;cases ho
    exact SQ vs rfl
  refine Ab (wpAny_frameOf_fun Je hl hf λ g1 s1=>?_)
  refine Ab (wpAny_entryPlaceOf λ pl HZ=>?_)
  unfold EntryCells.newEntry newFields
  refine Ab (DO ?_ (HZ.sizeOk5 _ _ _ _ _))
  have hsz:g1.objs.size=s.heap.objs.size:=s1.1
  have PF:g1.get? e=some (exO cls vs):=(s1.2.1 e ne).trans he
  generalize hO:({cls:=.type "traceback",dict:=none,data:=.fields ([head,.ref L,.none,rawInt L,.none]++(if pl.isEmpty then List.replicate 6 Value.none else pl)).toArray}:F1)=oT
  have e3:∃ts,oT.data=.fields ts/\ts[3]?=some (rawInt L):=⟨_,by rw [<-hO],by simp⟩
  have Jv:oT.isFreed=false:=by rw [<-hO];rfl
  clear hO
  obtain⟨ts,Iw,M7⟩:=e3
  have Kd:(g1.push oT).get? e=some (exO cls vs):=Aj _ PF
  have MQ:(g1.push oT).get? g1.objs.size=some oT:=AN g1 Jv
  have NH:g1.objs.size≠e:=DH (AA PF)
  refine BC Kd rfl h1 ?_
  have Qp:=A9 'j' Kd rfl
  have O0:=(AI (g1.push oT) 'j' (B7 NH)).trans MQ
  have KL:((g1.push oT).update e 'j').get? e=some (exO cls (vs.setIfInBounds 1 (Value.ref g1.objs.size))):=Qp
  have keep:∀b o,b≠e->g1.get? b='g'->((g1.push oT).update e 'j').get? b='g':=λ b o hb q=>by
    rw [AI _ _ (B7 hb)]
    exact Aj _ q
  refine h _ g1.objs.size ⟨vs.setIfInBounds 1 (Value.ref g1.objs.size),oT,ts,KL,?_,by simp [h1],NH,O0,Iw,M7⟩ (A5 hsz.symm) (λ b o q hb hn=>keep b o hb ((s1.2.1 b hn).trans q)) λ b o q hb=>?_
  · rw [Df (by decide),Dg];exact h2
  · obtain⟨sl,e'⟩:=s1.2.2 b o q
    exact⟨sl,keep b _ hb e'⟩
def zH {A:FX}
  (Je:A.frames=some (env::outer)) (hl:s.heap.FunFrames base (env::outer)) (hf:env.frame=some L) (F:Jn s.heap e cls fp c)
  (h:∀h' T,KP h' e cls T L c->s.heap.objs.size≤T->(∀b o,s.heap.get? b='g'->b∉fp->b∉(env::outer).filterMap (·.frame)->h'.get? b='g')->
   (∀b o,s.heap.get? b='g'->b∉fp->∃sl,h'.get? b=some {o with slots:=sl})->(∀b o,s.heap.get? b=some o->∃o',h'.get? b=some o')->Q () {s with heap:=h'}):
  wpAny M A (noteFrame (.ref e) env) Q E s:=by
 obtain⟨vs,he,h2,⟨h1,r⟩|⟨T,oT,ts,h1,ne,gT,dT,zT,r⟩⟩:=F
 ·subst r;unfold noteFrame;simp only [hf];refine Ab (A6 he rfl h1 ?_);rw [AH Z9];refine kq Je hl hf he (Bf.mp h1).1 h2 λ h' T' f1 f2 f3 f4=>h h' T' f1 f2 (λ b o q hb hn=>f3 b o q (λ z=>hb (by simp [z])) hn) (λ b o q hb=>f4 b o q λ z=>hb (by simp [z])) λ b o q=>?_
  by_cases hb:b=e
  ·obtain⟨M6,_,_,g',_⟩:=f1;subst hb;exact⟨_,g'⟩
  ·obtain⟨sl,e'⟩:=f4 b o q hb;exact⟨_,e'⟩
 ·subst r;unfold noteFrame;simp only [hf];refine Ab (A6 he rfl h1 ?_);rw [AK (show(Value.ref T !=Value.none)=true from by simp)];refine Ab (A6 gT dT zT ?_);rw [AH (show¬((Value.none==rawInt L)=true) from by simp [rawInt])];refine Ab (BC gT dT (Bf.mp zT).1 ?_);have HX:∀b,b≠T->(s.heap.update T (Obj.mapFields (·.setIfInBounds 3 Value.none))).get? b=s.heap.get? b:=λ b hb=>AI _ _ (B7 hb)
  have PU:=A9 (Obj.mapFields (·.setIfInBounds 3 Value.none)) gT (BJ (Bq dT _));have nT:∀b o,s.heap.get? b='g'->(∀us,o.data≠ .fields us)->b≠T:=λ b o q nf z=>by
   rw [z,gT] at q;cases q;exact nf ts dT
  have sz:(s.heap.update T (Obj.mapFields (·.setIfInBounds 3 Value.none))).objs.size=s.heap.objs.size:=EA ..;refine kq Je (hl.of_keeps λ b o q nf=>⟨o,(HX b (nT b o q nf)).trans q,rfl⟩) hf ((HX e (B7 ne)).trans he) (Bf.mp h1).1 h2
   λ h' T' f1 f2 f3 f4=>h h' T' f1 (by rw [sz] at f2;exact f2) (λ b o q hb hn=>?_) (λ b o q hb=>?_) λ b o q=>?_
  ·have b1:b≠e:=λ z=>hb (by simp [z])
   have b2:b≠T:=λ z=>hb (by simp [z])
   exact f3 b o ((HX b b2).trans q) b1 hn
  ·have b1:b≠e:=λ z=>hb (by simp [z])
   have b2:b≠T:=λ z=>hb (by simp [z])
   exact f4 b o ((HX b b2).trans q) b1
  ·by_cases hb:b=e
   ·obtain⟨M6,_,_,g',_⟩:=f1;subst hb;exact⟨_,g'⟩
   ·by_cases hT:b=T
    ·subst hT;obtain⟨sl,e'⟩:=f4 b _ PU hb;exact⟨_,e'⟩
    ·obtain⟨sl,e'⟩:=f4 b o ((HX b hT).trans q) hb;exact⟨_,e'⟩
def KP.keep {h h':FY}{T L:FR}(F:KP h e cls T L c)(k:∀b o,h.get? b='g'->(b=e\/b=T)->h'.get? b='g'):KP h' e cls T L c:=by
 obtain⟨vs,oT,ts,he,h2,h1,ne,gT,dT,zT⟩:=F;exact⟨vs,oT,ts,k _ _ he (.inl rfl),h2,h1,ne,k _ _ gT (.inr rfl),dT,zT⟩
def LB (h:FY)(e:FR)(cls:FS)(T:FR)(v:FS)(c:FS):Prop:=
 ∃vs oT ts,h.get? e=some (exO cls vs)/\(vs[2]?=some c/\6≤vs.size)/\vs[1]?=↑T/\T≠e/\h.get? T=some oT/\oT.data=.fields ts/\ts[3]?=some v
def LB.set (F:LB s.heap e cls T v c)
  (h:∀h',LB h' e cls T (fr.elim Value.none λ f=>rawInt f) c->(∀b o,s.heap.get? b='g'->b≠T->h'.get? b='g')->(∀b o,s.heap.get? b='g'->∃o',h'.get? b=some o')->Q () {s with heap:=h'}):wpAny M A (setFlight (.ref e) fr) Q E s:=by
 obtain⟨vs,oT,ts,he,h2,h1,ne,gT,dT,zT⟩:=F;unfold setFlight;refine Ab (A6 he rfl h1 ?_);rw [AK (show(Value.ref T !=Value.none)=true from by simp)];have z3:=(Bf.mp zT).1;have PU:=A9 (Obj.mapFields (·.setIfInBounds 3 (fr.elim Value.none λ f=>rawInt f))) gT (BJ (Bq dT _));refine BC gT dT z3 (h _ ⟨vs,_,_,?_,h2,h1,ne,PU,Bq dT _,by simp [z3]⟩ (λ b o q hb=>?_) λ b o q=>?_)
 ·rw [AI _ _ ne];exact he
 ·rw [AI _ _ (B7 hb)];exact q
 ·by_cases hb:b=T
  ·subst hb;exact⟨_,PU⟩
  ·exact⟨o,by rw [AI _ _ (B7 hb)];exact q⟩
def lJ (F:LB s.heap e cls T v c)
  (h:∀h' v',LB h' e cls T v' c->(∀b o,s.heap.get? b='g'->b≠T->h'.get? b='g')->(∀b o,s.heap.get? b='g'->∃o',h'.get? b=some o')->E (.ref e) {s with heap:=h'}):wpAny M A (PySem.passOn what (.ref e) env:Sem α) Q E s:=by
 unfold PySem.passOn;have F':=F;obtain⟨vs,oT,ts,he,h2,h1,ne,gT,dT,zT⟩:=F';refine Ab (A6 he rfl h1 ?_);rw [AH (show¬((Value.ref T==Value.none)=true) from by simp)];exact Ab (F.set λ h' f1 f2 f3=>wpAny_throw (h h' _ f1 f2 f3))
def kC
  (Je:A.frames=some (env::outer)) (hl:s.heap.FunFrames base (env::outer)) (hf:env.frame=some L) (F:LB s.heap e cls T v c)
  (h:∀h' T',Jn h' e cls [e,T'] c->(T'=T\/s.heap.objs.size≤T')->(∀b o,s.heap.get? b='g'->b∉ [e,T]->b∉(env::outer).filterMap (·.frame)->h'.get? b='g')->
   (∀b o,s.heap.get? b='g'->b∉ [e,T]->∃sl,h'.get? b=some {o with slots:=sl})->(∀b o,s.heap.get? b=some o->∃o',h'.get? b=some o')->Q () {s with heap:=h'}):
  wpAny M A (leaving env (.ref e)) Q E s:=by
 have F':=F;obtain⟨vs,oT,ts,he,h2,h1,ne,gT,dT,zT⟩:=F';unfold leaving;by_cases hv:(v==rawInt L)=true
 ·unfold noteFrame;simp only [hf];refine Ab (Ab (A6 he rfl h1 ?_));rw [AK (show(Value.ref T !=Value.none)=true from by simp)];refine Ab (A6 gT dT zT ?_);rw [AK hv];refine AG (F.set λ h' f1 f2 f3=>?_);obtain⟨M6,oT',Qd,a1,a2,a3,a4,a5,a6,a7⟩:=f1;exact h h' T ⟨M6,a1,a2,.inr ⟨T,oT',Qd,a3,a4,a5,a6,a7,rfl⟩⟩ (.inl rfl) (λ b o q hb _=>f2 b o q λ z=>hb (by simp [z])) (λ b o q hb=>⟨o.slots,f2 b o q λ z=>hb (by simp [z])⟩) f3
 ·refine Ab ?_;unfold noteFrame;simp only [hf];refine Ab (A6 he rfl h1 ?_);rw [AK (show(Value.ref T !=Value.none)=true from by simp)];refine Ab (A6 gT dT zT ?_);rw [AH hv];refine Ab (BC gT dT (Bf.mp zT).1 ?_);have HX:∀b,b≠T->(s.heap.update T (Obj.mapFields (·.setIfInBounds 3 Value.none))).get? b=s.heap.get? b:=λ b hb=>AI _ _ (B7 hb)
  have PU:=A9 (Obj.mapFields (·.setIfInBounds 3 Value.none)) gT (BJ (Bq dT _));have nT:∀b o,s.heap.get? b='g'->(∀us,o.data≠ .fields us)->b≠T:=λ b o q nf z=>by
   rw [z,gT] at q;cases q;exact nf ts dT
  have sz:(s.heap.update T (Obj.mapFields (·.setIfInBounds 3 Value.none))).objs.size=s.heap.objs.size:=EA ..;refine ie Je (hl.of_keeps λ b o q nf=>⟨o,(HX b (nT b o q nf)).trans q,rfl⟩) hf ((HX e (B7 ne)).trans he) (Bf.mp h1).1 h2
   λ h' T' f1 f2 f3 f4=>h h' T' f1 (.inr (by rw [sz] at f2;exact f2)) (λ b o q hb hn=>?_) (λ b o q hb=>?_) λ b o q=>?_
  ·have b1:b≠e:=λ z=>hb (by simp [z])
   have b2:b≠T:=λ z=>hb (by simp [z])
   exact f3 b o ((HX b b2).trans q) b1 hn
  ·have b1:b≠e:=λ z=>hb (by simp [z])
   have b2:b≠T:=λ z=>hb (by simp [z])
   exact f4 b o ((HX b b2).trans q) b1
  ·by_cases hb:b=e
   ·obtain⟨M6,g',_⟩:=f1;subst hb;exact⟨_,g'⟩
   ·by_cases hT:b=T
    ·subst hT;obtain⟨sl,e'⟩:=f4 b _ PU hb;exact⟨_,e'⟩
    ·obtain⟨sl,e'⟩:=f4 b o ((HX b hT).trans q) hb;exact⟨_,e'⟩
def KP.any {h:FY}{T L:FR}(F:KP h e cls T L c):LB h e cls T (rawInt L) c:=F
end QQ
namespace L2
open PySem PySem.Spec PyProof.Rows QQ
def pX (D:FS->Prop)(E:XK)(X:Cx)(N:List Str)(scope:Scope)(cl:List (Str×FR))(fp:List FR)(s:FT)(H:Hp):Cx:=
 (aL X N scope cl fp s H).wish λ e s'=>∃F6 σ H' s1,Inv (aL X N scope cl fp s H) F6 σ H' s1/\Iu D X.prog X.w X.stack H' s1 E e s'
def zq:cI (Iu D X.prog X.w) (pX D E X N scope cl fp s H) E:=
 λ F6 σ H s _ _ I hx=>⟨F6,σ,H,s,I.unwish,hx⟩
def uR {K:Frag}
       (hX:X=cxOf (Iu D P w) P w K mg base N0 qual Kj f cd A outer s₀ H₀ E)
  (hc:X.calm=true) (Cp:Kh X N scope cl js) (hi:PI X Ga iter wi) (hg:∀fp s H,PG (aL X N scope cl fp s H) Ga g) (he:∀fp s H,PE (pX D E X N scope cl fp s H) elt te)
  (hs:autoParam (∀x,foldedSetIterable iter X.env x=pure x) ZX):PE X (.ListComp elt [⟨Ga,iter,[],0⟩] scope pos) (jF js wi g te):=by
 intro F6 s σ H Q I h;rw [eval_ListComp];refine Ee rfl hs Cp.clos Cp.kind Cp.names
  (fG hc Cp hi hg (im (.inr ⟨rfl,rfl⟩)) (λ _ _ _=>lU) he I h ?_ ?_)
 ·rintro l C H' s' I' fC ⟨m,hn⟩ q;exact⟨m,hn,λ h' Se=>⟨.ref l,H',I'.turned (λ b o hb e=>(Se.2 b hb).trans e) fC.1 fC.2.1 fC.2.2.2.1 fC.2.2.2.2.1 fC.2.2.2.2.2,rfl,q⟩⟩
 rintro l fp0 s3 H3 e s' I3 f3 ⟨p1,σ1,H1,s1,Yn,hx⟩;have I1:=i7 I3 f3 Yn;have fC:=I3.fpOk (Ak _) Yn.free;obtain⟨m,⟨oC,es,ep,gC0,rC⟩,_⟩:=Yn.loc;have gC:s1.heap.get? s3.heap.objs.size=some oC:=gC0;generalize s3.heap.objs.size=C at*;subst hX;obtain⟨ea,cls,fp,H',rfl,os,bare,un,hok,⟨c,dc,F,bk,bn⟩,fr,q⟩:=hx;have hex:∀b,b∉(cxOf (Iu D P w) P w K mg base N0 qual Kj f cd A outer s₀ H₀ E).ex:=λ b (z:b∈([]:List FR))=>nomatch z
 have I':=I1.call' os un hok bare (λ b z=>absurd z Z6);have X8:∀b,c=.ref b->M3 _ F6 b:=λ b e=>I1.newA (bn b e) (hex b)
 have nw:∀b∈fp,JK _ F6 H' b:=λ b hb=>I1.new (fr b hb).1 (fr b hb).2 (hex b)
 have nS:C∉frs (cxOf (Iu D P w) P w K mg base N0 qual Kj f cd A outer s₀ H₀ E).stack:=λ z=>by
  rcases AB.mp (I1.stkSub C z) with y|y
  ·exact fC.2.1 y
  ·exact fC.2.2.1 y
 have gC':=un.keep C oC gC fC.1 nS Z6;have hC':=un.free C oC gC fC.1 Z6;have nC:C∉fp:=λ z=>by rw [(fr C z).1] at gC;cases gC
 refine zH I'.ok.frames I'.stack rfl F λ h' T F' hT f3 f4 f5=>?_
 have J:=I'.landed nw f3 f4 f5;have gC2:h'.get? C=some oC:=f3 C oC gC' nC nS;have neE:ea≠C:=λ z=>nC (z▸F.here)
 have neT:T≠C:=λ z=>absurd (Ap (AA gC') (z▸hT)) (BK _)
 have nE:JK (cxOf (Iu D P w) P w K mg base N0 qual Kj f cd A outer s₀ H₀ E) F6 H' ea:=nw ea F.here;have nT:JK (cxOf (Iu D P w) P w K mg base N0 qual Kj f cd A outer s₀ H₀ E) F6 H' T:=I'.new (by
  cases z:s'.heap.get? T with
  |none=>rfl
  |some o=>exact absurd (Ap (AA z) hT) (BK _)) (I'.hok.fresh hT) (hex T)
 refine⟨m,⟨oC,es,ep,gC2,rC⟩,λ h2 sb QW _=>?_⟩;have J2:=J.turned (t':=s'.toks) (λ b o hb e=>(sb.2 b hb).trans e) hC' fC.2.1 fC.2.2.2.1 fC.2.2.2.2.1 fC.2.2.2.2.2;have F2:KP h2 ea cls T _ c:=F'.keep λ b o g hb=>(sb.2 b (by rcases hb with z|z<;>subst z<;>assumption)).trans g
 refine lJ F2.any λ h3 v' F3 k3 t3=>?_
 have J3:=J2.landed (λ b hb=>by rw [As] at hb;rw [hb];exact nT) (λ b o g hb _=>k3 b o g λ z=>hb (by simp [z])) (λ b o g hb=>⟨o.slots,k3 b o g λ z=>hb (by simp [z])⟩) t3;show wpAny (model P w) _ (leaving _ (.ref ea)) _ _ _;refine kC J3.ok.frames J3.stack rfl F3 λ h4 T' F4 KA g3 g4 g5=>?_
 have J4:=J3.landed (λ b hb=>by
  rcases AB.mp hb with z|z
  ·rw [z];exact nE
  ·rw [As.mp z];exact nT) g3 g4 g5
 refine⟨ea,cls,[ea,T'],H',rfl,J4.os,J4.bare,J4.base,J4.hok,⟨c,dc,F4,bk,λ b e=>(X8 b e).s0⟩,λ b hb=>?_,q⟩;rcases AB.mp hb with hb|hb
 ·rw [hb];exact⟨nE.s0,nE.h⟩
 ·rw [As.mp hb];rcases KA with z|z
  ·rw [z];exact⟨nT.s0,nT.h⟩
  ·refine⟨?_,J3.hok.fresh z⟩;cases y:s₀.heap.get? T' with
   |none=>rfl
   |some o=>
    obtain⟨o',r⟩:=J3.base.there T' o y (hex T');exact absurd (Ap (AA r) z) (BK _)
end L2
namespace QQ
open PySem PyProof.Rows
def kU (hA:A.handled=↑a)(ga:s.heap.get? a=some oa)(da:oa.data=.fields us)(za:us[2]?=some Value.none)
  (he:s.heap.get? e=some oe) (hd:oe.data=.fields vs) (hz:2<vs.size) (Hx:a≠e)
  (h:∀h',h'.get? e=some (oe.mapFields (·.setIfInBounds 2 (.ref a)))->Heap.SameBut e s.heap h'->E (.ref e) {s with heap:=h'}):wpAny (model prog w) A (raiseNew (.ref e):Sem α) Q E s:=by
 unfold raiseNew;refine Ab (wpAny_handled ?_);rw [hA];have ne:(Value.ref a !=Value.ref e)=true:=by simp [bne,Hx]
 show wpAny _ _ (if(Value.ref a !=Value.ref e)=true then _ else _) _ _ _;rw [AK ne];refine Ab (BI (wpAny_runValue (Fe fZ ?_)));show wpAny _ _ (field (.ref a) 2>>= _) _ _ s;refine Ab (A6 ga da za ?_);show wpAny _ _ (if(Value.none==Value.none)=true then _ else _) _ _ s;rw [AK (by rfl)];refine Ab (AG (AG ?_));show wpAny _ _ (updateField e 2 (.ref a)>>= λ _=>throw (.ref e)) _ _ s;refine Ab (BC he hd hz ?_:wpAny _ _ (setField (.ref e) 2 (.ref a)) _ _ s);exact wpAny_throw (h _ (A9 _ he (BJ (Bq hd _))) (B1 ..))
def fH (Ho:bm.contains (.type "BaseException")=true)(hc:∀(Q:FS->FT->Prop) (s:FT),Q .none s->wpAny 'l' A c Q E s)(hA:A.handled=↑a)
  (h:wpAny 'l' A x (λ v s₁=>∃e t oa us,v=.ref e/\s₁.heap.get? C=some (excClassObj nm q C N bs bm hdct sn sub ab col dd k0 k1 k2 k3 k5 newId)/\
   s₁.heap.get? e=some {cls:=.ref C,data:=.fields #[.ref t,.none,.none,.none,.bool false,.none]}/\s₁.heap.get? a=some oa/\oa.data=.fields us/\us[2]?=some Value.none/\a≠e/\C≠e/\
   ∀h',h'.get? e=some (exO (.ref C) #[.ref t,.none,.ref a,.none,.bool true,.none])->Heap.SameBut e s₁.heap h'->E (.ref e) {s₁ with heap:=h'}) E s):
  wpAny 'l' A (raiseStmt env (some x) (some c)) Q E s:=by
 have Qq:(Value.ref C::bm).contains (.type "BaseException")=true:=by rw [Eu,Ho,FM]
 unfold raiseStmt;refine Ab (Br h (λ v s₁ h₁=>?_) λ _ _ x=>x);obtain⟨e,t,oa,us,rfl,hC,he,ga,da,za,Hx,hCe,hE⟩:=h₁;obtain⟨hp,g,d,tk,os⟩:=s₁;dsimp only at*;refine Ab (BI (hc _ _ ?_))
 repeat (first|with_reducible refine CC he ?_|with_reducible refine CC hC ?_|(with_reducible refine CD hC ?_;rw [Qq])|wp_step)
 have e1:=A9 (Obj.mapFields λ x=>x.setIfInBounds 3 Value.none) he rfl;have e2:=A9 (Obj.mapFields λ x=>x.setIfInBounds 4 (Value.bool true)) e1 rfl;have ka:=(AI ((hp.update e (Obj.mapFields λ x=>x.setIfInBounds 3 Value.none))) (Obj.mapFields λ x=>x.setIfInBounds 4 (Value.bool true)) (B7 Hx)).trans ((AI hp (Obj.mapFields λ x=>x.setIfInBounds 3 Value.none) (B7 Hx)).trans ga);have e3:((hp.update e (Obj.mapFields λ x=>x.setIfInBounds 3 Value.none)).update e (Obj.mapFields λ x=>x.setIfInBounds 4 (Value.bool true))).get? e=some (exO (.ref C) #[.ref t,.none,.none,.none,.bool true,.none]):=e2;have sb2:Heap.SameBut e hp ((hp.update e (Obj.mapFields λ x=>x.setIfInBounds 3 Value.none)).update e (Obj.mapFields λ x=>x.setIfInBounds 4 (Value.bool true))):=(B1 ..).trans (B1 ..);clear e1 e2;generalize (hp.update e (Obj.mapFields λ x=>x.setIfInBounds 3 Value.none)).update e (Obj.mapFields λ x=>x.setIfInBounds 4 (Value.bool true))=Hw at*;refine kU hA ka da za e3 rfl (by show(2:Nat)<6;decide) Hx λ h' g' sb=>?_
 exact hE h' g' (sb2.trans sb)
def HV (F:ExcBaseFacts B newId initId bmB)
  (Ho:bm.contains (.type "BaseException")=true) (Xq:eval cz env=pure .none) (hA:A.handled=↑a) (Ik:(backTo Hj (starEach args env)).any (·.1)=false) (Pz:mN "__init__"=none)
  (h:wpAny 'l' A (eval (.Name x np) env) (λ f s₁=>f=.ref C/\wpAny 'l' A (evalArgs (.ref C) true (backTo Hj (starEach args env)) [])
   (λ ar s₂=>ar.kw=[]/\ar.pos.length≤sizeLine/\s₂.heap.get? C=some (excClassObj nm q C N bs bm hdct sn sub ab col dd k0 k1 k2 k3 k5 newId)/\s₂.heap.Ns N mN/\OwnTail s₂.heap bmB bm/\
    (∃oa us,s₂.heap.get? a=some oa/\oa.data=.fields us/\us[2]?=some Value.none)/\
    ∀h' e t,(∀b o,s₂.heap.get? b='g'->h'.get? b='g')->s₂.heap.get? e=none->h'.get? e=some (exO (.ref C) #[.ref t,.none,.ref a,.none,.bool true,.none])->E (.ref e) {s₂ with heap:=h'}) E s₁) E s):
  wpAny 'l' A (exec (.Raise (some (.Call (.Name x np) args [] Hj)) (some cz) pos) env) Q E s:=by
 rw [arm_exec_Raise];refine Ab (Dp ?_);refine fH (C:=C) (nm:=nm) (q:=q) (N:=N) (bs:=bs) (hdct:=hdct) (sn:=sn) (sub:=sub) (ab:=ab) (col:=col) (dd:=dd) (k0:=k0) (k1:=k1) (k2:=k2) (k3:=k3) (k5:=k5) (newId:=newId) (a:=a) Ho (λ Q s hq=>?_) hA ?_
 ·rw [Xq];exact Ab (AG (Ab (Dp (AG hq))))
 refine Ab (Br (wpAny_Call_ofName (Br h (λ f s₁ h₁=>?_) λ _ _ x=>x)) (λ v s₃ h₃=>Ab (Dp (AG h₃))) λ _ _ x=>x);obtain⟨rfl,h₁⟩:=h₁;unfold callWith;refine Ab (BI (Br h₁ (λ a s₂ h₂=>Ab (Dp ?_)) λ _ _ x=>x));obtain⟨apos,akw⟩:=a;obtain⟨SX,hlen,hC,hn,T,⟨oa,us,ga,da,za⟩,h₂⟩:=h₂;obtain rfl:akw=[]:=SX;obtain⟨hp,g,d,tk,os⟩:=s₂;simp only [Ik];refine Ab (wpAny_keeperOf_exc hC ?_);refine Ab (wpAny_call_exc_subT (hrest:=hlen) F T hC hn Pz λ h' e hm=>Ab (BI (wpAny_point (AG ?_))));obtain⟨t,ht,_,_⟩:=hm.there;refine⟨e,t,oa,us,rfl,hm.keeps _ _ hC,ht,hm.keeps _ _ ga,da,za,λ z=>?_,λ z=>?_,λ h'' g' sb=>?_⟩
 ·have:=hm.new;rw [<-z] at this;rw [this] at ga;cases ga
 ·have:=hm.new;rw [<-z] at this;rw [this] at hC;cases hC
 ·refine h₂ h'' e t (λ b o q=>?_) hm.new g';refine sb.extBut b o (λ z=>?_) (hm.keeps _ _ q);have:=hm.new;rw [<-z] at this;rw [this] at q;cases q
def tL (hK:∀s2,wpAny M B (leaving env (.ref e)) Q E2 s2->Kx (.ref e) s2)
  (Je:A.frames=some (env::outer)) (hl:s.heap.FunFrames base (env::outer)) (hf:env.frame=some L)
  (he:s.heap.get? e=some (exO cls vs)) (h0:vs[1]?=some Value.none) (h2:vs[2]?=some c/\6≤vs.size)
  (h:∀h' T,Jn h' e cls [e,T] c->s.heap.objs.size≤T->(∀b o,s.heap.get? b='g'->b≠e->b∉(env::outer).filterMap (·.frame)->h'.get? b='g')->
   (∀b o,s.heap.get? b='g'->b≠e->∃sl,h'.get? b=some {o with slots:=sl})->Q () {s with heap:=h'}):
  notedBy M A env (cameBackBy M B env Kx) (.ref e) s:=by
 have h1:1<vs.size:=(Bf.mp h0).1;have ne:e∉(env::outer).filterMap (·.frame):=λ hm=>by
  obtain⟨_,o,ho,SQ⟩:=hl.mem hm;rw [he] at ho;cases ho;exact SQ vs rfl
 unfold notedBy noteFrame;simp only [hf];refine Ab (A6 he rfl h0 ?_);rw [AH (by decide)];refine Ab (wpAny_frameOf_fun Je hl hf λ g1 s1=>?_);refine Ab (wpAny_entryPlaceOf λ pl HZ=>?_);unfold EntryCells.newEntry newFields;refine Ab (DO ?_ (HZ.sizeOk5 _ _ _ _ _));have hsz:g1.objs.size=s.heap.objs.size:=s1.1;have PF:g1.get? e=some (exO cls vs):=(s1.2.1 e ne).trans he;generalize hO:({cls:=.type "traceback",dict:=none,data:=.fields ([Value.none,.ref L,.none,rawInt L,.none]++(if pl.isEmpty then List.replicate 6 Value.none else pl)).toArray}:F1)=oT;have e3:∃ts,oT.data=.fields ts/\3<ts.size:=⟨_,by rw [<-hO],by simp only [AC,Ac,Ar,Fc];omega⟩;have Jv:oT.isFreed=false:=by rw [<-hO];rfl
 clear hO;obtain⟨ts,Iw,M7⟩:=e3;have Kd:(g1.push oT).get? e=some (exO cls vs):=Aj _ PF;have MQ:(g1.push oT).get? g1.objs.size=some oT:=AN g1 Jv;have NH:g1.objs.size≠e:=DH (AA PF);refine BC Kd rfl h1 ?_;have Qp:=A9 'j' Kd rfl;have O0:=(AI (g1.push oT) 'j' (B7 NH)).trans MQ;have KL:((g1.push oT).update e 'j').get? e=some (exO cls (vs.setIfInBounds 1 (Value.ref g1.objs.size))):=Qp;have U6:∀b o,b≠e->g1.get? b='g'->((g1.push oT).update e 'j').get? b='g':=λ b o hb q=>by
  rw [AI _ _ (B7 hb)];exact Aj _ q
 generalize (g1.push oT).update e 'j'=g3 at*;have f1:(vs.setIfInBounds 1 (Value.ref g1.objs.size))[1]?=↑g1.objs.size:=by simp [h1]
 unfold cameBackBy;refine Ab (A6 KL rfl f1 ?_);rw [AH (by simp)];unfold setFlight;refine Ab (A6 KL rfl f1 ?_);rw [AK (show(Value.ref g1.objs.size !=Value.none)=true from by simp)];refine BC O0 Iw M7 ?_;have TM:=A9 (Obj.mapFields (·.setIfInBounds 3 (env.frame.elim Value.none λ f=>rawInt f))) O0 (BJ (Bq Iw _));have Qa:∀b o,b≠g1.objs.size->g3.get? b='g'->(g3.update g1.objs.size (Obj.mapFields (·.setIfInBounds 3 (env.frame.elim Value.none λ f=>rawInt f)))).get? b='g':=λ b o hb q=>by
  rw [AI _ _ (B7 hb)];exact q
 have VE:(oT.mapFields (·.setIfInBounds 3 (env.frame.elim Value.none λ f=>rawInt f))).data=.fields (ts.setIfInBounds 3 (rawInt L)):=by rw [hf];exact Bq Iw _
 generalize g3.update g1.objs.size (Obj.mapFields (·.setIfInBounds 3 (env.frame.elim Value.none λ f=>rawInt f)))=g4 at*;generalize oT.mapFields (·.setIfInBounds 3 (env.frame.elim Value.none λ f=>rawInt f))=o4 at*;have Xo:=Qa e _ (B7 NH) KL;refine hK _ ?_;unfold leaving;refine Ab ?_;unfold noteFrame;simp only [hf];refine Ab (A6 Xo rfl f1 ?_);rw [AK (show(Value.ref g1.objs.size !=Value.none)=true from by simp)];refine Ab (A6 TM VE (x:=rawInt L) (by simp [M7]) ?_);rw [AK (by simp)];refine AG ?_;unfold setFlight;refine Ab (A6 Xo rfl f1 ?_);rw [AK (show(Value.ref g1.objs.size !=Value.none)=true from by simp)];have z4:3<(ts.setIfInBounds 3 (rawInt L)).size:=by rw [Dg];exact M7
 refine BC TM VE z4 ?_;have keep:∀b o,b≠e->g1.get? b='g'->(g4.update g1.objs.size (Obj.mapFields (·.setIfInBounds 3 ((none:Option FR).elim Value.none λ f=>rawInt f)))).get? b='g':=λ b o hb q=>by
  rw [AI _ _ (DH (AA q))];exact Qa b o (A7 (AA q)) (U6 b o hb q)
 refine h _ g1.objs.size ⟨vs.setIfInBounds 1 (Value.ref g1.objs.size),?_,?_,.inr ⟨g1.objs.size,_,_,f1,NH,A9 _ TM (BJ (Bq VE _)),Bq VE _,?_,rfl⟩⟩ (A5 hsz.symm) (λ b o q hb hn=>?_) λ b o q hb=>?_
 ·rw [AI _ _ NH];exact Xo
 ·rw [Df (by decide),Dg];exact h2
 ·simp [M7]
 ·exact keep b o hb ((s1.2.1 b hn).trans q)
 ·obtain⟨sl,e'⟩:=s1.2.2 b o q;exact⟨sl,keep b _ hb e'⟩
end QQ
namespace QQ
open PySem
def ul {os:OsState}
  (hC:h.get? C=some (excClassObj nm q C N bs bm hdct sn sub ab col dd k0 k1 k2 k3 k5 newId))
  (he:h.get? e=some oe) (Kg:oe.cls=.ref C) (Ho:bm.contains (.type "BaseException")=true)
  (hq:Q true ⟨h,g,d,t,os⟩):wpAny M A (excMatches (.ref e) (.ref C)) Q E ⟨h,g,d,t,os⟩:=by
 have Qq:(Value.ref C::bm).contains (.type "BaseException")=true:=by rw [Eu,Ho,FM]
 have f:=tc_notTuple;unfold excMatches
 repeat (first|(with_reducible refine CC he ?_;rw [Kg])|with_reducible refine CC hC ?_|(with_reducible refine CD hC ?_;rw [Qq])|wp_step)
 refine CD hC ?_;rw [show(Value.ref C::bm).contains (.ref C)=true by simp]
 repeat wp_step
 exact hq
end QQ
namespace L2
open PySem PySem.Spec PyProof.Rows QQ
def Inv.rexe {X:Cx}{σ:St}(I:Inv {X with xe:=W} F6 σ H s):Inv {X with xe:=W'} F6 σ H s:=
 ⟨⟨I.ok.mod,I.ok.kind,I.ok.glob,I.ok.blt,I.ok.above,I.ok.inj,I.ok.has,I.ok.cab,I.ok.hd,I.ok.frames,I.ok.stk,I.ok.exf,I.ok.bs,I.ok.bsz,I.ok.noex,I.ok.exfs,I.ok.funs,I.ok.frf⟩,I.os,I.bare,I.base,I.loc,I.cell,I.free,I.freeC,I.pin,I.hok,I.len⟩
def iJ (X:Cx)(e:FR)(G:Hp)(E:XK):Cx:={cxHand X e G with
 xe:=λ x s'=>∃e2 C t F6 σ H',x=.ref e2/\Inv (cxHand X e G) F6 σ H' s'/\s'.heap.get? e2=some (exO (.ref C) #[.ref t,.none,.ref e,.none,.bool true,.none])/\JK (cxHand X e G) F6 H' e2/\E (.ref C) none H'}
def fq {G:Hp}{np Hj pos:Pos}(hX:X.ex=[])(hk:G a=some (.frz oa (.own a)))(hda:oa.data=.fields us)(h2:us[2]?=some Value.none)
  (hg:Gl (iJ X a G E) x) (hm:X.mg x=↑C) (c:ExC X.K C) (he:PE (iJ X a G E) e te)
  (Xq:autoParam (eval cz X.env=pure .none) Z0) (HY:autoParam (starEach [e] X.env=(false,eval e X.env)::starEach [] X.env) Z0) (hd:'e'):
  PS (iJ X a G E) (.Raise (some (.Call (.Name x np) [e] [] Hj)) (some cz) pos) (uK C E te):=by
 intro F6 s σ H D I h;obtain⟨bm,N,nm,q,bs,hdct,sn,sub,ab,col,dd,k0,k1,k2,k3,k5,hl,_,hf⟩:=eD c;obtain⟨⟨mN,hN,Pz⟩,T⟩:=hf X.base I.mod.kin;refine QQ.HV (nm:=nm) (q:=q) (N:=N) (bs:=bs) (bm:=bm) (hdct:=hdct) (sn:=sn) (sub:=sub) (ab:=ab) (col:=col) (dd:=dd) (k0:=k0) (k1:=k1) (k2:=k2) (k3:=k3) (k5:=k5)
  Fj (mN:=mN) (a:=a) (T.hasType (by decide+kernel)) Xq rfl (by show(backTo Hj (starEach [e] X.env)).any (·.1)=false;rw [HY];rfl) Pz (cu I hg hm ⟨rfl,?_⟩ hd)
 show wpAny _ _ (evalArgs (.ref C) true (backTo Hj (starEach [e] X.env)) []) _ _ _;rw [HY];refine EY (Fp (thn (he F6 s σ H _ I h) λ u s1 z1=>Fx ?_));obtain⟨y,H1,I1,r1,q1⟩:=z1;obtain⟨ga,_⟩:=I1.hok a _ (I1.base.frzs a oa (.own a) hk);refine⟨rfl,by show 1≤sizeLine;decide,I1.kIn C _ hl,hN.keeps I1.bk,T.keeps I1.bk,⟨oa,us,ga,hda,h2⟩,λ h' e2 t kp nw g'=>?_⟩;have I2:Inv (cxHand X a G) F6 σ H1 s1:=Inv.rexe I1;exact⟨e2,C,t,F6,σ,H1,rfl,I2.kept (t':=s1.toks) kp,g',I2.new nw (I2.hok.gone nw) (by show e2∉X.ex;rw [hX];simp),q1⟩
def zi (D0:FR)(tb:St->XK->TS)(th:TS):TS:=λ D σ H=>
 tb σ (λ cls _ H'=>cls=.ref D0/\∀e vs,H' e=none->th D σ (upd H' e (.frz (exO (.ref D0) vs) (.own e)))) D σ H
end L2
namespace K21.Ck
open PySem L2 QQ W17 W16 BP
seal PE PA PS PSs PT PW PG PI
structure Ni (K:Frag)(mg:Str->Option FS)(C cN:FR):Prop where
 Y:Rows K mg
 T:O7 K mg C
 m:mg "BitReader"=↑C
 init:∃f fd,Hb K "__init__" "BitReader.__init__" oB f fd/\Binds K fd ["self","row"] []/\Mk K C f
 take:∃f fd,Me K C "take" "BitReader.take" jQ ["self","size"] f fd
 left:∃f fd,Me K C "left" "BitReader.left" lT Jah f fd
 need:∃f fd,'h' "need_row" cb Jaf f fd
 size:∃f fd,'h' "need_size" cQ Jak f fd
 ones:∃f fd,'h' "ones" gf Jak f fd
 bits:∃f fd,'h' "bits_at" gL ["row","place","size"] f fd
 mN:mg "NoBits"=↑cN
 xN:ExC K cN
def Ni.tk (Z:Ni K mg C cN):∃f fd,Me K C "take" "BitReader.take" jQ ["self","size"] f fd/\∀P w base,'a' (Lp P w) 31 f fd ["self","size"] (LI C cN):=by
 obtain⟨f,fd,Tk⟩:=Z.take;obtain⟨_,_,L⟩:=Z.left;obtain⟨_,_,W⟩:=Z.Y.whole;obtain⟨_,_,S⟩:=Z.size;obtain⟨_,_,O⟩:=Z.ones;obtain⟨_,_,Ba⟩:=Z.bits;exact⟨f,fd,Tk,λ _ _ _=>pI Tk.F S W Ba O L Z.T Z.Y.X Z.mN Z.xN⟩
def _root_.K21.Gq.keep (h:Gq C H p d R t)(k:∀c o,H c='g'->(c=p\/c=d)->H' c='g'):Gq C H' p d R t:=by
 obtain⟨⟨dx,hp⟩,hd,r1,r2⟩:=h;exact⟨⟨dx,k _ _ hp (.inl rfl)⟩,k _ _ hd (.inr rfl),r1,r2⟩
def rg:y' Jac Jac (am iN):=Gw Z8
def zP:(["step","reader"]:List Str).Nodup:=Z8
end K21.Ck
namespace L2
open PySem PySem.Spec PySem.Calls PyProof.Rows QQ PySem.W
def oA (D:FS->Prop)(E:XK)(X:Cx)(N:List Str)(qual:Str)(scope:Scope)(cl:List (Str×FR))(f:FR)(cd:FS)(A:FX)(s:FT)(H:Hp):Cx:=
 (qx X N qual scope cl f cd A s H).wish λ e s'=>wpAny 'd' (A.deeper (envX qual scope s.heap.objs.size f cd cl)) (leaving (envX qual scope s.heap.objs.size f cd cl) e) (λ _ IH=>Iu D X.prog X.w X.stack H s E e IH) (λ e' IH=>Iu D X.prog X.w X.stack H s E e' IH) s'
def JY (D:FS->Prop)(X:Cx)(E:XK):Prop:=∀F6 (σ:St) H' s' ea cls fp c,Inv X F6 σ H' s'->D c->Jn s'.heap ea cls fp c->Wf X F6 H' ea c->(∀b∈fp,JK X F6 H' b)->E cls none H'->X.xe (.ref ea) s'
def xb (hX:X.ex=[])(HY:X.stack=X.env::X.outer)(hf:X.env.frame=some X.env.locals)
  (hx:∀e s',wpAny 'd' X.A (leaving X.env (.ref e)) (λ _ IH=>Iu D X.prog X.w X.outer X.H₀ X.s₀ E (.ref e) IH) (λ e' IH=>Iu D X.prog X.w X.outer X.H₀ X.s₀ E e' IH) s'->X.xe (.ref e) s'):JY D X E:=by
 intro F6 σ H' s' ea cls fp c I' dc F bk fr q;refine hx ea s' ?_;unfold leaving;refine Ab (land (HY▸I'.ok.frames) (HY▸I'.stack) hf F λ h' T F' hT f3 f4 f5=>?_);have J:=I'.landed fr (by rw [HY];exact f3) f4 f5;refine⟨ea,cls,[ea,T],H',rfl,J.os,J.bare,by have:=J.base;rw [hX] at this;exact this,J.hok,⟨c,dc,F',bk.1,λ b e=>(bk.2 b e).s0⟩,λ b hb=>?_,q⟩;rcases AB.mp hb with hb|hb
 ·subst hb;have z:=fr b F.here;exact⟨z.s0,z.h⟩
 ·rw [As] at hb;subst hb;refine⟨?_,I'.hok.fresh hT⟩;cases z:X.s₀.heap.get? b with
  |none=>rfl
  |some o=>
   obtain⟨o',r⟩:=I'.base.there b o z (by rw [hX];simp);exact absurd (Ap (AA r) hT) (BK _)
def JY.passes (L:JY D X E)(hX:X.ex=[]):cI (Iu D X.prog X.w) X E:=by
 intro F6 σ H s e s' I hx;obtain⟨ea,cls,fp,H',rfl,I',⟨c,dc,F,bk⟩,fr,q⟩:=I.thrown hx hX;exact L F6 σ H' s' ea cls fp c I' dc F bk fr q
def vX:cI (Iu D X.prog X.w) (oA D E X N qual scope cl f cd A s H) E:=
 JY.passes (xb rfl rfl rfl λ _ _ z=>z) rfl
def rQ {σ:St}
  (I:'b' s) (C:N4 X y Nc scope cl js) (hr:Ge (k+2) X.A) (hf:s.heap.get? f=some (kla_obj "<lambda>" qual params body scope cl pm c' NK)) (Jm:s.heap.CodeRec (.ref c') qual)
  (KR:∀u,bindArgs (kla_fn "<lambda>" qual params body scope cl pm (.ref c') NK) ⟨[u],[]⟩=pure [(y,u)]) (r:RelV v u)
  (he:PE (oA D E X (y::Nc) qual scope cl f (.ref c') X.A.in1 s H) body te) (hq:te (wz js σ v) H Q):
  wpAny 'd' X.A.in1 (call (.ref f) [u]) (EP X F6 σ Q) (λ e s'=>Iu D X.prog X.w X.stack H s E e s') s:=by
 have hd:X.A.in1.depth<recursionLimit:=(show Ge (k+1) X.A.in1 from hr.in1).depth;refine Ec (kla_callFunE hd hf rfl C.co C.gen rfl Jm ?_);rw [KR];refine AG (wpAny_newFunctionEnv C.nocell (λ z hz=>?_) (λ h₁ Rm VG=>⟨(I.ok.mod.nolimit.keeps I.bk).fresh _ VG,?_⟩) C.kind)
 ·rw [As.mp hz];exact C.par
 show codeAny _ _ (.expr body (envX qual scope s.heap.objs.size f (.ref c') cl)) _ _;have hk₁:∀b o,s.heap.get? b='g'->h₁.get? b='g':=λ b o e=>VG.extBut b o (A7 (AA e)) (Aj _ e)
 refine kla_codeExpr (Br (he [] _ (wz js σ v) H Q ((wj I C r Rm hk₁).wish _) hq) (λ w' s' hs=>?_) λ _ _ z=>z);obtain⟨v',H',J,r',q⟩:=hs;exact I.after ⟨v',H',J.os,J.bare,J.base,J.hok,r',q⟩
def tF {σ:St}(I:'b' s)(hX:X.ex=[])(hL:JY D X E)(hh:X.A.handled=none)(hq:Gf X.K H l xs)(Hx:0<xs.length)(hf:∀v,of.data≠ .cell v)(ff:G0 X F6 H f)(Tj:s.heap.get? f=some of)
  (step:∀(G2:List (FR×F1)) (s':FT) (v:V) (u:FS),Inv X G2 σ H s'->s'.heap.get? f=some of->xs[0]?=some v->RelV v u->
   wpAny 'd' X.A.in1 (call (.ref f) [u]) (EP X G2 σ λ _ _=>False) (λ e IH=>Iu D X.prog X.w X.stack H s' E e IH) s'):
  wpAny 'd' X.A (call (.builtin "min") [.ref l] [(Str.ofString "key",.ref f)]) (EP X F6 σ Q) X.xe s:=by
 have Vc:(toString "min"++toString ".loop":String)="min.loop":=Z9;obtain⟨Gd,rv,pl,hz⟩:=I.list hq;have HI:=rv.length;have NC:l<s.heap.objs.size:=by obtain⟨o,e,_⟩:=pl.isList;exact AA e
 refine kmk_tree PySem.F.kind_min PySem.F.plain_min PySem.F.entry_min (kmk_min_key _ _) ?_;show wpAny _ X.A.in1 (Builtin.Builtins.bindParams "min" ["key","default"] 0 ⟨[],[(Str.ofString "key",.ref f)]⟩>>= _) _ _ s;refine Ab (wpAny_of_eq (show Builtin.Builtins.bindParams "min" ["key","default"] 0 ⟨[],[(Str.ofString "key",.ref f)]⟩=pure [↑f,none] from rfl) ?_);refine Ab (AG ?_);refine Ab (wpAny_pyIter_list pl.isList ?_);refine Ab (wpAny_newList ?_ (A1 _));rw [Vc];have hS:'i'.objs.size=s.heap.objs.size+1:=size_push' ..;have hlI:l≠s.heap.objs.size:=A7 NC;have hSI:'i'.objs.size≠s.heap.objs.size:=by rw [hS];exact DH (Dr _)
 refine AG ⟨plainId_quiet PySem.F.plain_min_loop _,?_⟩;have OX:∀b o,s.heap.get? b='g'->('i'.push (seqObj "list" #[] 0)).get? b='g':=λ b o e=>Aj _ (Aj _ e)
 have gI:('i'.push (seqObj "list" #[] 0)).get? s.heap.objs.size=some {cls:=.type "list_iterator",data:=.fields #[.ref l,.int 0 0]}:=
  Aj _ (AN _ rfl)
 have gS:('i'.push (seqObj "list" #[] 0)).get? 'i'.objs.size=some (seqObj "list" #[] 0):=AN _ rfl;have fI:G0 X F6 H s.heap.objs.size:=I.fpOk (Ak _) (I.hok.fresh (Ak _));have fS:G0 X F6 H 'i'.objs.size:=I.fpOk (by rw [hS];exact BM _ 1) (I.hok.fresh (by rw [hS];exact BM _ 1));have nfI:f≠s.heap.objs.size:=A7 (AA Tj);have nfS:f≠'i'.objs.size:=by rw [hS];exact A7 (Fu (AA Tj))
 have J0:'b' {s with heap:=(s.heap.push {cls:=.type "list_iterator",data:=.fields #[.ref l,.int 0 0]}).push (seqObj "list" #[] 0)}:=I.kept OX;have VN:('i'.push (seqObj "list" #[] 0)).IsList l Gd.toArray:=by
  obtain⟨o,e,r⟩:=pl.isList;exact⟨o,OX _ _ e,r⟩
 have hf0:=OX _ _ Tj;generalize 'i'.objs.size=S at*;generalize 'i'.push (seqObj "list" #[] 0)=h0 at*;generalize s.heap.objs.size=Ia at*;have W:=Walks.list (prog:=X.prog) (w:=X.w) (A:=X.A.in1) hh Ia l hlI Gd.toArray;have hsz:Gd.toArray.size=Gd.length:=AC ..;refine Fe PySem.F.entry_min_loop ?_;rw [Around.under_plainId PySem.F.plain_min_loop _];show wpAny _ X.A.in1 (seqItems? (.ref _)>>= _) _ _ _;refine Ab (wpAny_seqItems gS rfl ?_);show wpAny _ X.A.in1 (tryCatch (pyNext (.ref Ia)) _>>= _) _ _ _;refine Ab (wpAny_tryCatch (W.item 0 _ _ _ (by rw [hsz];exact Av Hx HI) ⟨⟨_,gI,rfl,rfl⟩,VN⟩ λ u h' tk' hP KJ Xh=>?_));have hu:Gd[0]?=some u:=by simpa using hP
 obtain⟨oI',YM,HH,hod⟩:=id KJ.1;obtain⟨v,hv,rvu⟩:∃v,xs[0]?=some v/\RelV v u:=by
  obtain⟨u',e3,r3⟩:=rv.get (Ad Hx);rw [hu] at e3;cases e3;exact⟨_,Ad Hx,r3⟩
 have J1:'b' {s with heap:=h',toks:=tk'}:=Inv.turned (s:={s with heap:=h0}) J0 (λ b o n e=>Xh b o (by simpa using n) e) fI.1 fI.2.1 fI.2.2.2.1 fI.2.2.2.2.1 fI.2.2.2.2.2;have Qu:=Xh S _ (by simpa using hSI) gS;have hf':=Xh f _ (by simpa using nfI) hf0;have Jp:=J1.pinned (λ b hb=>by
  rcases AB.mp hb with rfl|hb
  ·exact fI
  ·rcases AB.mp hb with rfl|hb
   ·exact fS
   ·rw [As.mp hb];exact ff) (λ b hb=>by
  rcases AB.mp hb with rfl|hb
  ·exact⟨_,YM,λ v z=>by rw [hod] at z;cases z⟩
  ·rcases AB.mp hb with rfl|hb
   ·exact⟨_,Qu,fY⟩
   ·rw [As.mp hb];exact⟨_,hf',hf⟩)
 show wpAny _ X.A.in1 (tryCatch (holding [u] (call (.ref f) [u])) _>>= _) _ _ _;refine Ab (wpAny_tryCatch (BI (Br (step _ _ v u Jp hf' hv rvu) (λ x IH z9=>by obtain⟨_,_,_,_,z⟩:=z9;exact z.elim) λ e IH hx=>?_)));obtain⟨ea,cls,fp,H2,rfl,J2p,⟨c,dc,F,bk,bn⟩,nw,q⟩:=Jp.thrown hx hX;have mS:=bS (fp:=[Ia,S,f]) (b:=S) Z6 Qu;obtain⟨gS2,nS⟩:IH.heap.get? S=_/\H2 S=none:=let z:=J2p.pin (S,_) (AD _ (AD _ mS));⟨z.1,z.2.1⟩;have sub:∀p∈X.pn++F6,p∈X.pn++(F6++jq [Ia,S,f] h'):=λ p hp=>by
  rcases AR.mp hp with z|z
  ·exact Bm _ z
  ·exact AD _ (Bm _ z)
 refine Ab ?_;refine wpAny_updateSeq gS2 rfl (Ab (wpAny_letGo (wpAny_throw ?_)));exact hL F6 σ H2 _ ea cls fp c (J2p.unpinned.turn (fS.at nS)) dc (F.keep λ b hb o e=>by
  show(IH.heap.update S _).get? b=_;rw [Do _ _ _ _ λ z=>(nw b hb).pin _ (AD _ (AD _ mS)) z.symm];exact e) ⟨bk,λ b e=>let n:=bn b e;⟨n.s0,n.loc,n.cel,λ p hp=>n.pin p (sub p hp)⟩⟩ (λ b hb=>let n:=nw b hb;⟨n.s0,n.h,n.loc,n.cel,λ p hp=>n.pin p (sub p hp)⟩) q
inductive Mh (K:Frag) (P:FR) (pos:Pos) (qual:Str) (js:'c') (te:TE) (σ:St) (zs:List V) (H1:Hp):Prop
 |mk (p:_) (xs:_) (v:_) (h0:zs=[.ref p]) (h1:Gf K H1 p xs) (h2:xs[0]?=some v) (h3:Iy P pos qual H1) (h4:(∀c xs,Gf K H1 c xs->c≠P)) (h5:∀H2,sS P H1 H2->Iy P pos qual H2->te (wz js σ v) H2 λ _ _=>False):Mh K P pos qual js te σ zs H1
def yN (K:Frag)(P:FR)(pos:Pos)(qual:Str)(js:'c')(te:TE)(t:TA):TE:=λ σ H Q=>t σ H λ zs H1=>Mh K P pos qual js te σ zs H1
def wS {p:Pos}{kp:Pos}{pos:Pos}{NR:Pos}{y:Str}(hX:X.ex=[])(hL:JY D X E)(hn:X.A.handled=none)(hr:Ge (k+2) X.A)(hg:Gl X "min")(hm:X.mg "min"=none)(C:N4 X y Nc scope cl js)(L9:X.env.code=.ref c)(hC:CodeHd X.base c P)
  (Qr:∃bm o,X.mg "__builtins__"=↑bm/\bm≠builtinsNs/\bm≠mainGlobals/\X.base.get? bm='g'/\o.cls=.type "module"/\o.dict=some builtinsNs/\o.data=.plain)
  (QT:defaultsOf params X.env=([],[])) (KR:∀(pm cd ct u:FS),bindArgs (kla_fn "<lambda>" (X.env.qual++"<lambda>") params body scope cl pm cd ct) ⟨[u],[]⟩=pure [(y,u)])
  (he:∀f c' s H,PE (oA D E X (y::Nc) (X.env.qual++"<lambda>") scope cl f (.ref c') X.A.in1 s H) body te) (ha:PA X [e] t)
  (hee:autoParam (backTo pos (starEach (e:: []) X.env)=(false,eval e X.env)::backTo pos (starEach [] X.env)) Z0) (Ik:autoParam ((backTo pos (starEach (e:: []) X.env)).any (·.1)=false) Z0)
  (Hc:autoParam ((backToKw pos (keywordEach [⟨some "key",.Lambda params body scope NR,kp⟩] X.env)).all (·.1.isSome)=true) Z0)
  (SX:autoParam ((backToKw pos (keywordEach [⟨some "key",.Lambda params body scope NR,kp⟩] X.env)).any (·.1.isNone)=false) Z0)
  (Xn:autoParam ((backToKw pos (keywordEach [⟨some "key",.Lambda params body scope NR,kp⟩] X.env)).filterMap (·.1)=[("key":Str)]) Z0):
  PE X (.Call (.Name "min" p) [e] [⟨some "key",.Lambda params body scope NR,kp⟩] pos) (yN X.K P NR (X.env.qual++"<lambda>") js te t):=by
 intro F6 s σ H Q I h;refine BN (eF I hg hm (show bootBuiltins "min"=some (.builtin "min") from Z8) ?_);refine PyProof.Rows.callWith_kw (thn (ha pos F6 s σ H _ I h) λ us s1 z9=>?_) hee Ik Hc SX;obtain⟨vs,H1,I1,r1,q1⟩:=z9;obtain⟨l,xs,v0,rfl,hq,Hx,hT,hnP,q⟩:=q1;have YO:0<xs.length:=(Af.mp Hx).1;obtain⟨u,rfl,ru⟩:=fg r1;obtain rfl:u=Value.ref l:=ru;refine kws_cons (u7 I1 hT L9 hC Qr QT C.clos λ f c' pm NK H2 s2 I2 ff Tj Jm QL MQ sT=>kws_nil ?_);rw [Xn];have qs:=q H2 sT MQ;show wpAny _ _ (call (.builtin "min") [.ref l] [(Str.ofString "key",.ref f)]) _ _ s2;have Lg:Gf X.K H2 l xs:=by
  rcases hq with hq|hq
  ·rcases hq with z|⟨o,z⟩
   ·exact .inl (.inl (sT _ _ (hnP l xs (.inl (.inl z))) z))
   ·exact .inl (.inr ⟨o,sT _ _ (hnP l xs (.inl (.inr ⟨o,z⟩))) z⟩)
  ·exact .inr hq
 refine tF I2 hX hL hn Lg YO (λ v z=>by cases z) ff Tj (λ G2 s' v u J YX hv ru=>?_);obtain rfl:v0=v:=AJ (Hx.symm.trans hv);obtain⟨oc,M6,t,hc,d1,d2⟩:=QL;have HH:s'.heap.get? c'=some oc:=(J.hok _ _ hc).1;exact rQ J C hr YX ⟨c',oc,M6,t,rfl,HH,d1,d2⟩ (λ u=>KR _ _ _ u) ru (he f c' s' H2) qs
end L2
namespace K21
open PySem L2
def Gm (H H':Hp):Prop:=∀c o,H c='g'->(∀ps,o≠ .tbl ps)->H' c='g'
def Gm.refl {H:Hp}:Gm H H:=λ _ _ e _=>e
def Gm.trans {H H' RU:Hp}(a:Gm H H')(b:Gm H' RU):Gm H RU:=λ c o e n=>b c o (a c o e n) n
def _root_.L2.C'.n {H H':Hp}(a:C' H H'):Gm H H':=λ c o e _=>a c o e
theorem Gm.lst (s:Gm H H')(e:H c=↥xs):H' c=↥xs:=s _ _ e (by intro ps z;cases z)
theorem Gm.tup (s:Gm H H')(e:H c=some (.tup xs)):H' c=some (.tup xs):=s _ _ e (by intro ps z;cases z)
theorem Gm.ins (s:Gm H H')(e:H c=some (.ins C dx fs)):H' c=some (.ins C dx fs):=s _ _ e (by intro ps z;cases z)
namespace Rf
def GU.sameN (s:Gm H H')(h:GU K H x t):GU K H' x t:=by
 cases h with
 |non=>exact .non
 |bl y=>exact .bl y
 |int i=>exact .int i
 |str y=>exact .str y
 |flt y=>exact .flt y
 |lst e=>exact .lst (s _ _ e (by intro ps z;cases z))
 |frz e=>exact .frz (s _ _ e (by intro ps z;cases z))
 |tup e=>exact .tup (s _ _ e (by intro ps z;cases z))
 |dK e=>exact .dK (s _ _ e (by intro ps z;cases z))
 |dT e=>exact .dT (s _ _ e (by intro ps z;cases z))
 |ins e cl ha hn htk hm=>exact .ins (s _ _ e (by intro ps z;cases z)) cl ha hn htk hm
theorem HG.sameN (s:Gm H H')(h:HG K H x):HG K H' x:=by
 obtain⟨t,b,c,ty,r⟩:=h;exact⟨t,b,c,GU.sameN s ty,r⟩
theorem G9.sameN (s:Gm H H')(h:G9 K H x):G9 K H' x:=by
 rcases h with⟨t,ty,r⟩|⟨a,xs,j,y,e,hl,hg,hj,hy⟩
 ·exact .inl ⟨t,GU.sameN s ty,r⟩
 ·refine .inr ⟨a,xs,j,y,e,s.lst hl,hg,hj,?_⟩;rcases hy with hy|⟨hy,r⟩
  ·exact .inl hy
  ·exact .inr ⟨hy.sameN s,r⟩
def MV.sameN (h:MV H x B)(s:Gm H H'):MV H' x B:=by
 obtain⟨a,e,h1,h2⟩:=h;exact⟨a,e,s.lst h1,h2⟩
theorem Ii.sameN (h:Ii K H x m)(s:Gm H H'):Ii K H' x m:=by
 rcases h with⟨h1,h⟩|⟨W,h,r⟩
 ·exact .inl ⟨h1,h.sameN s⟩
 ·exact .inr ⟨W,h.sameN s,r⟩
theorem Jr.sameN (h:Jr K H x y)(s:Gm H H'):Jr K H' x y:=by
 rcases h with h|⟨T,h,r⟩
 ·exact .inl (h.sameN s)
 ·refine .inr ⟨T,h.sameN s,?_⟩;rcases r with r|r|⟨r1,r2⟩
  ·exact .inl r
  ·exact .inr (.inl r)
  ·exact .inr (.inr ⟨r1,r2.sameN s⟩)
end Rf
end K21
namespace K21
open PySem L2 QQ W17 W16 BP
seal PE PA PS PSs PT PW PG PI
def oy {x y z:Str}{a b c:FR}(h:List.lookup x [(y,a),(z,b)]=some c):(x=y/\c=a)\/(x=z/\c=b):=by
 unfold List.lookup at h
 split at h
 ·rename_i e
  cases h;exact .inl ⟨by simpa using e,rfl⟩
 ·unfold List.lookup at h
  split at h
  ·rename_i e
   cases h;exact .inr ⟨by simpa using e,rfl⟩
  ·cases h
def dq (np:H p=none)(nd:H d=none):C' H (upd (upd H d (.own p)) p (.ins C d [])):=λ c o e=>by
 rw [aj (ai e np),aj (ai e nd)];exact e
def _root_.L2.Gb.or (F:'a' (Iu D P w) k f fd ps sp)(G:'a' Gn k f fd ps Sa):'a' (Iu D P w) k f fd ps λ vs H Q E=>sp vs H Q E\/Sa vs H Q E:=by
 refine⟨λ vs H Q E h=>h.elim (F.len _ _ _ _) (G.len _ _ _ _),λ A outer s H args us vs Q E hr he hb hv h=>h.elim (F.run A outer s H args us vs Q E hr he hb hv) λ h=>Dj (G.run A outer s H args us vs Q E hr he hb hv h) λ r s' q=>?_⟩;cases r with
 |error e=>exact q.elim
 |ok fl=>cases fl<;>exact q
inductive Hg (K:Frag) (cR:FR) (vs:List V) (H:Hp) (Gj:VK) (E:XK):Prop
 |mk (o:_) (p:_) (x:_) (y:_) (h0:vs=[.ref o,.ref p,x,y]) (h1:Rf.Jr K H x y) (h2:∀H',C' H H'->E (.ref cR) none H'):Hg K cR vs H Gj E
def lA (Y:NL K mg)(N:Rf.Nr K mg cR):∃f fd,'h' "need_signs" cY Jad f fd/\∀P w base,'a' (Jo P w) 34 f fd Jad (Rf.spNeedSigns K cR):=by
 obtain⟨_,_,Sg⟩:=Y.needsigns;obtain⟨_,_,Ah⟩:=Y.needahead;obtain⟨_,_,Wn⟩:=Y.V.needwin;exact⟨_,_,Sg,λ _ _ _=>Rf.ok_needsigns Sg Ah Wn N⟩
def rY (F:Hb K "tell" "RawWay.tell" gk f fd)(Y:NL K mg)(N:Rf.Nr K mg cR):'a' (Jo P w) 35 f fd Jab (Hg K cR):=by
 obtain⟨_,_,Sg,GS⟩:=lA Y N;refine F.okE HR ?_
 intro 'a';obtain⟨o,p,x,y,rfl,hN,k⟩:=h;refine⟨_,ag (bp CA rfl (bi (ap (GS P w base) hr Z7 Sg.m Sg.F.kp Sg.b .nil bu (aa (pv 2) (aa (pv 3) ac)))) (aG (i:=4) HR.nd) bP),?_⟩;exact⟨_,rfl,_,rfl,x,y,rfl,hN,k⟩
def qJ {f fR:FR}(F:Hb K "tell" "RunWay.tell" gn f fd)(Ro:'h' "runs_of" gO ["signs"] fR QC)(Y:NL K mg)(N:Rf.Nr K mg cR):'a' (Jo P w) 35 f fd Jab (Hg K cR):=by
 obtain⟨_,_,Sg,GS⟩:=lA Y N;refine F.okE G7 ?_
 intro 'a';obtain⟨o,p,x,y,rfl,hN,k⟩:=h;have Gz:Ge 1 _:=hr.mono Z9;refine⟨_,ag (bp CA rfl (bi (ap (jK Ro Y.V.R.X) Gz Z7 Ro.m Ro.F.kp Ro.b .nil az (aa (ap (GS P w base) hr Z7 Sg.m Sg.F.kp Sg.b .nil bu (aa (pv 2) (aa (pv 3) ac))) ac))) (dR rfl (bh (aG (i:=4) G7.nd) (bh (aG (i:=5) G7.nd) df))) bP),?_⟩;exact⟨_,rfl,_,rfl,x,y,rfl,hN,k⟩
def rS (F:Hb K "tell" "CopyWay.tell" fz f fd)(Y:NL K mg)(N:Rf.Nr K mg cR):'a' (Jo P w) 35 f fd Jab (Hg K cR):=by
 obtain⟨_,_,Sg,GS⟩:=lA Y N;refine F.okE JB ?_
 intro 'a';obtain⟨o,p,x,y,rfl,hN,k⟩:=h;refine⟨_,ad (aE (ap (GS P w base) hr Z7 Sg.m Sg.F.kp Sg.b .nil bu (aa (pv 2) (aa (pv 3) ac)))) bP,?_⟩;exact⟨_,rfl,_,rfl,x,y,rfl,hN,k⟩
def qV (F:Hb K "tell" "ShareWay.tell" iy f fd)(Y:NL K mg)(N:Rf.Nr K mg cR):'a' (Jo P w) 35 f fd Jab (Hg K cR):=by
 obtain⟨_,_,Sg,GS⟩:=lA Y N;refine F.okE G' ?_
 intro 'a';obtain⟨o,p,x,y,rfl,hN,k⟩:=h;refine⟨_,ad (aE (ap (GS P w base) hr Z7 Sg.m Sg.F.kp Sg.b .nil bu (aa (pv 2) (aa (pv 3) ac)))) bP,?_⟩;exact⟨_,rfl,_,rfl,x,y,rfl,hN,k⟩
inductive Kq (K:Frag) (C cR:FR) (vs:List V) (H:Hp) (Gj:VK) (E:XK):Prop
 |mk (o:_) (dx:_) (x:_) (y:_) (h0:vs=[.ref o,x,y]) (h1:H o=some (.ins C dx [])) (h2:Rf.Jr K H x y) (h3:∀H',C' H H'->E (.ref cR) none H'):Kq K C cR vs H Gj E
def tM (F:Hb K "cost" "Way.cost" pC f fd)(Z:OK K mg B)(XZ:Cls K C)(Te:Meth K C "tell" fT)(bT:Binds K PV Jab [])(GT:'a' (Jo P w) 35 fT PV Jab (Hg K cR)):
  Gb P w K mg base (Jo P w) 36 f fd ["self","text","before"] (Kq K C cR):=by
 obtain⟨_,_,FI,bI,MI⟩:=Z.init;refine F.okE Kk ?_
 intro 'a';obtain⟨o,dx,x,y,rfl,ho,hN,k⟩:=h;have IW:Ge 2 _:=hr.mono Z9;refine⟨_,ad (aq (i:=3) Kk.nd (jd MI (iV FI Z.T) IW Z7 Z.m bI .nil az))
  (ad (aE (aN (pv 0) XZ Te GT hr bT .nil bu (aa (pv 3) (aa (pv 1) (aa (pv 2) ac)))))
  (ag bN)),?_⟩
 refine λ p dp np nd ne=>?_
 have s0:=dq (C:=B) np nd;refine⟨p,dp,rfl,af,λ d H2 nd2 hB kp=>⟨rfl,?_⟩⟩;have s2:C' H H2:=λ c o e=>kp _ _ (s0 _ _ e) (ai e np)
 exact⟨_,rfl,o,dx,[],rfl,s2 _ _ ho,rfl,_,rfl,_,rfl,_,rfl,o,p,x,y,rfl,hN.sameN s2.n,λ H' s3=>k _ (s2.trans s3)⟩
structure WC (K:Frag)(mg:Str->Option FS)(C:FR):Prop where
 cl:Cls K C
 mkb:MkB K C
 cost:∃f fd,Me K C "cost" "Way.cost" pC ["self","text","before"] f fd
structure O6 (K:Frag)(mg:Str->Option FS)(B D G C0 C1 C2 C3:FR):Prop where
 S0:V6 K mg B D G
 runsof:∃f fd,'h' "runs_of" gO ["signs"] f fd
 w0:WC K mg C0
 w1:WC K mg C1
 w2:WC K mg C2
 w3:WC K mg C3
 m0:mg "RawWay"=↑C0
 m1:mg "RunWay"=↑C1
 m2:mg "CopyWay"=↑C2
 m3:mg "ShareWay"=↑C3
 t0:∃f fd,Me K C0 "tell" "RawWay.tell" gk Jab f fd
 t1:∃f fd,Me K C1 "tell" "RunWay.tell" gn Jab f fd
 t2:∃f fd,Me K C2 "tell" "CopyWay.tell" fz Jab f fd
 t3:∃f fd,Me K C3 "tell" "ShareWay.tell" iy Jab f fd
 ways:∃f fd,'h' "ways" u9 [] f fd
structure QX (P:FU)(w:FV)(K:Frag)(mg:Str->Option FS)(base:FY)(B C cR:FR)(u:Nat):Prop where
 cl:Cls K C
 tell:∃f fd,Meth K C "tell" f/\Binds K fd Jab []/\'a' (Jo P w) 35 f fd Jab λ vs H Q E=>Hg K cR vs H Q E\/spT u B vs H Q E
 cost:∃f fd,Meth K C "cost" f/\Binds K fd ["self","text","before"] []/\'a' (Jo P w) 36 f fd ["self","text","before"] λ vs H Q E=>Kq K C cR vs H Q E\/Wq u C vs H Q E
noncomputable def cs (C0 C1 C2 C3:FR):Nat->FR
 |0=>C0
 |1=>C1
 |2=>C2
 |_=>C3
def pY (F:'a' Gn k f fd ps sp)
  (h:∀(o p d a:FR) (x:V) (T W:List Nat) (N T0:Nat) (H:Hp) (Q:VK) (E:XK),Gh B H p d N T0->T0≤1000->H a=↥(T.map vN)->Hd H x W->TW T W->
   (∀(ps:List (Nat×Nat)) (H':Hp),KN u W T ps->Gh B H' p d (eS ps N) (T0+tots ps)->(∀c o,H c='g'->c≠p->c≠d->H' c='g')->Q .non H')->sp [.ref o,.ref p,.ref a,x] H Q E):'a' Gn k f fd ps (spT u B):=by
 refine F.weak λ vs H Q E z=>?_
 obtain⟨o,p,d,a,x,T,W,N,T0,rfl,hB,h0,ha,hx,t,k⟩:=z;exact h o p d a x T W N T0 H Q E hB h0 ha hx t k
def pU (c:WC K mg C)(Z:OK K mg B)(m:Meth K C "tell" f)(b:Binds K fd Jab [])(GE:'a' (Jo P w) 35 f fd Jab (Hg K cR))(GT:'a' Gn 35 f fd Jab (spT u B)):QX P w K mg base B C cR u:=by
 obtain⟨_,_,Co⟩:=c.cost;exact⟨c.cl,⟨_,_,m,b,GE.or GT⟩,⟨_,_,Co.m,Co.b,(tM Co.F Z c.cl m b GE).or (vA Co.F Z c.cl m b GT)⟩⟩
def O6.ok (Z:O6 K mg B D G C0 C1 C2 C3)(N:Rf.Nr K mg cR)(hi:i<4):QX P w K mg base B (cs C0 C1 C2 C3 i) cR i:=by
 obtain⟨_,_,Ro⟩:=Z.runsof;have S0:=Z.S0;rcases i with _|_|_|_|i
 ·obtain⟨_,_,T⟩:=Z.t0;exact pU Z.w0 S0.Zb T.m T.b (rY T.F S0.Y N) (pY ((oR T.F S0.Y S0.Zb).mono Z9) λ o p d a x T W N T0 H Q E hB h0 ha hx t k=>
   ⟨o,p,d,a,x,T,W,N,T0,rfl,hB,h0,ha,t.tb,t.one,Ai t.le (AZ rfl),hx,t.wb,t.wl,λ H'=>k _ H' rfl⟩)
 ·obtain⟨_,_,T⟩:=Z.t1;exact pU Z.w1 S0.Zb T.m T.b (qJ T.F Ro S0.Y N) (pY ((nM T.F Ro S0.Y S0.Zb).mono Z9) λ o p d a x T W N T0 H Q E hB h0 ha hx t k=>
   ⟨o,p,d,a,x,T,W,N,T0,rfl,hB,h0,ha,t.tb,t.one,Ai t.le (AZ rfl),hx,t.wb,t.wl,λ H'=>k _ H' rfl⟩)
 ·obtain⟨_,_,T⟩:=Z.t2;refine pU Z.w2 S0.Zb T.m T.b (rS T.F S0.Y N) (pY ((ra T.F S0.Y S0.Zb).mono Z9) λ o p d a x T W N T0 H Q E hB h0 ha hx t k=>?_);obtain⟨Pp,hw⟩:=gm W T;exact⟨o,p,d,a,x,T,W,Pp,N,T0,rfl,hB,h0,ha,t.tb,t.one,Ai t.le (AZ rfl),hx,t.wb,t.wl,hw,λ H'=>k _ H' ⟨Pp,hw,rfl⟩⟩
 ·obtain⟨_,_,T⟩:=Z.t3;refine pU Z.w3 S0.Zb T.m T.b (qV T.F S0.Y N) (pY (rP T.F S0) λ o p d a x T W N T0 H Q E hB h0 ha hx t k=>?_);obtain⟨Pp,hw⟩:=gm W T;exact⟨o,p,d,a,x,T,W,Pp,N,T0,rfl,hB,h0,ha,t.tb,t.one,t.le,hx,t.wb,t.wl,hw,λ L It b H' sl wi=>k _ H' ⟨Pp,L,It,b,hw,sl,wi,rfl⟩⟩
 ·lia
def gx4 {os:Nat->FR}(hi:i<4):([.ref (os 0),.ref (os 1),.ref (os 2),.ref (os 3)]:List V)[i]?=↑(os i):=by
 rcases i with _|_|_|_|i
 all_goals first|rfl|lia
inductive LF (C:Nat->FR) (vs:List V) (H:Hp) (Q:VK) (Gj:XK):Prop
 |mk (h0:vs=[]) (h1:∀l (os ds:Nat->FR) H',H l=none->(∀i,i<4->H (os i)=none)->H' l=↥[.ref (os 0),.ref (os 1),.ref (os 2),.ref (os 3)]->(∀i,i<4->H' (os i)=some (.ins (C i) (ds i) []))->C' H H'->Q (.ref l) H'):LF C vs H Q Gj
def xW:y' [] [] (am u9):=Gw Z8
def kZ (F:Hb K "ways" "ways" u9 f fd)(Z:O6 K mg B D G C0 C1 C2 C3):'a' Gn 1 f fd [] (LF (cs C0 C1 C2 C3)):=by
 refine F.ok xW ?_
 intro 'a';obtain⟨rfl,k⟩:=h;refine⟨_,ag (aB (aH (aa (gu Z.w0.mkb Z7 Z.m0) (aa (gu Z.w1.mkb Z7 Z.m1) (aa (gu Z.w2.mkb Z7 Z.m2) (aa (gu Z.w3.mkb Z7 Z.m3) ac)))))),?_⟩;intro p0 d0 n0 m0 e0 p1 d1 n1 m1 e1 p2 d2 n2 m2 e2 p3 d3 n3 m3 e3;have s0:=dq (C:=C0) n0 m0;have g0:(upd (upd H d0 (.own p0)) p0 (.ins C0 d0 [])) p0=_:=af;generalize upd (upd H d0 (.own p0)) p0 (.ins C0 d0 [])=H1 at*;have s1:=dq (C:=C1) n1 m1;have g1:(upd (upd H1 d1 (.own p1)) p1 (.ins C1 d1 [])) p1=_:=af;generalize upd (upd H1 d1 (.own p1)) p1 (.ins C1 d1 [])=H2 at*;have s2:=dq (C:=C2) n2 m2;have g2:(upd (upd H2 d2 (.own p2)) p2 (.ins C2 d2 [])) p2=_:=af;generalize upd (upd H2 d2 (.own p2)) p2 (.ins C2 d2 [])=H3 at*;have s3:=dq (C:=C3) n3 m3;have g3:(upd (upd H3 d3 (.own p3)) p3 (.ins C3 d3 [])) p3=_:=af;generalize upd (upd H3 d3 (.own p3)) p3 (.ins C3 d3 [])=H4 at*;have Vq:C' H H2:=λ c o e=>s1 _ _ (s0 _ _ e)
 have IL:C' H H3:=λ c o e=>s2 _ _ (Vq _ _ e)
 have ZC:C' H H4:=λ c o e=>s3 _ _ (IL _ _ e)
 have Nn:C' H1 H4:=λ c o e=>s3 _ _ (s2 _ _ (s1 _ _ e))
 have s24:C' H2 H4:=λ c o e=>s3 _ _ (s2 _ _ e)
 refine⟨by show(4:Nat)≤sizeLine;decide,λ l nl=>?_⟩;have s5:C' H4 (upd H4 l (.lst [.ref p0,.ref p1,.ref p2,.ref p3])):=λ c o e=>(aj (ai e nl)).trans e
 refine k l (cs p0 p1 p2 p3) (cs d0 d1 d2 d3) _ (none_of ZC nl) (λ i hi=>?_) af (λ i hi=>?_) (λ c o e=>s5 _ _ (ZC _ _ e))
 ·match i,hi with
  |0,_=>exact n0
  |1,_=>exact none_of s0 n1
  |2,_=>exact none_of Vq n2
  |3,_=>exact none_of IL n3
 ·match i,hi with
  |0,_=>exact s5 _ _ (Nn _ _ g0)
  |1,_=>exact s5 _ _ (s24 _ _ g1)
  |2,_=>exact s5 _ _ (s3 _ _ g2)
  |3,_=>exact s5 _ _ g3
structure JS (K:Frag)(x qual:Str)(st:F5)(dV:FS)(c f:FR)(fd:FW):Prop where
 ex:∃(oc:FS) (od:Option FR) (kV doc pm:FS) (an:Option FR) (ct:FS) (osl:Array (Option FS)),
  fd=fnOf x qual (bx st) (bj st) (am st) dV kV doc pm an (.ref c) ct/\K.lookup f=some ⟨oc,od,.func fd,osl⟩/\codeIn K (.ref c) qual=true
 kp:keepIn K (.ref f)=true
def JS.okE (F:JS K x qual st dV c f fd)(S:y' N ps (am st))
  (hb:∀(A:FX) (outer:List Env) (s:FT) (H:Hp) (vs:List V) (Q:VK) (E:XK),Ge k (A.deeper (PyProof.Rows.envOfC qual (am st) s.heap.objs.size f (.ref c)))->sp vs H Q E->
   let X:=(cxOf (Iu D P w) P w K mg base N qual (am st) f (.ref c) A outer s H E);∃t,PSs X (bj st) t/\t {nx:=λ _ H'=>Q .non H',rt:=Q} (start N vs) H) (len:autoParam (∀vs H Q E,sp vs H Q E->vs.length=ps.length) ZV):'a' (Iu D P w) (k+1) f fd ps sp:=by
 obtain⟨oc,od,kV,doc,pm,an,ct,osl,rfl,lk,Jm⟩:=F.ex;exact o0 lk Jm S len λ A outer s H vs Q E hr JN=>hb A outer s H vs Q E hr JN
abbrev xw:Pos:=⟨469,27,469,61⟩
abbrev L6 (Tb:FR)(H:Hp):Prop:=Iy Tb xw ("best_way.<locals>."++"<lambda>") H
def _root_.L2.Iy.ne (h:Iy Tb p q H)(e:H a='g')(hn:∀ps,o≠ .tbl ps):a≠Tb:=by
 rintro rfl;obtain⟨ps,e',_⟩:=h;rw [e] at e';exact hn ps (AJ e')
theorem _root_.L2.Iy.n (h:Iy Tb p q H)(s:sS Tb H H'):Gm H H':=λ c o e n=>s c o (h.ne e n) e
def _root_.L2.Iy.sq (h:Iy Tb p q H)(hK:K.lookup Tb=none)(e:Gf K H a xs):a≠Tb:=by
 rcases e with(e|⟨o,e⟩)|⟨o,Gd,n,e,_⟩
 ·exact h.ne e (by intro ps z;cases z)
 ·exact h.ne e (by intro ps z;cases z)
 ·rintro rfl;rw [hK] at e;cases e
inductive Oe (K:Frag) (Tb cR:FR) (vs:List V) (H:Hp) (Gj:VK) (E:XK):Prop
 |mk (x y:V) (h0:vs=[x,y]) (h1:Rf.Jr K H x y) (h2:L6 Tb H) (h3:∀H',Gm H H'->L6 Tb H'->E (.ref cR) none H'):Oe K Tb cR vs H Gj E
def xj:y' Jad Jad (am eY):=Gw Z8
def wK (F:JS K "best_way" "best_way" eY dV c f fd)(Z:O6 K mg B D G C0 C1 C2 C3)(N:Rf.Nr K mg cR)(hm:mg "min"=none)(hC:CodeHd base c Tb)(hB:Js mg base)(hK:K.lookup Tb=none):
  Gb P w K mg base (Jo P w) 39 f fd Jad (Oe K Tb cR):=by
 obtain⟨_,_,Wy⟩:=Z.ways;have W0:=Z.ok (P:=P) (w:=w) (base:=base) N (i:=0) Z9;obtain⟨_,_,mC,bC,GC⟩:=W0.cost;refine F.okE xj ?_
 intro A outer st H vs Q E hr h _;obtain⟨x,y,rfl,hN,hT,k⟩:=h;have Gz:Ge 1 _:=hr.mono Z9;have hn:=hr.hd Z9;refine⟨_,ag (aB (wS (Nc:=["text","before"]) (js:=[0,1]) (cl:=[("text",st.heap.objs.size+1),("before",st.heap.objs.size+1+1)]) (P:=Tb) (c:=c) (D:=λ _=>True) (E:=E) rfl (xb rfl rfl rfl λ _ _ z=>z) hn hr Z7 hm
  ⟨rfl,rfl,rfl,Z8,rfl,Z7,λ x c h=>?c0,λ x hx=>?c1,rfl,λ i x j h1 h2=>?c2⟩ rfl hC hB Z7 (λ pm cd ct u=>Z7)
  (λ f' c' s H=>aN (pv 0) Z.w0.cl mC GC (hr.in1.deeper _) bC .nil vX (aa (pv 1) (aa (pv 2) ac)))
  (aa (eT (kZ Wy.F Z) Gz Z7 Wy.m Wy.F.kp Wy.b .nil az) ac))),?_⟩
 case c0=>
  rcases oy h with⟨rfl,rfl⟩|⟨rfl,rfl⟩<;>rfl
 case c1=>
  rcases hx with hx|hx
  ·have m':(x,NameKind.cell)∈([("way",.local),("before",.free),("text",.free)]:List (Str×NameKind)):=Bb hx;simp at m'
  ·have m':(x,NameKind.free)∈([("way",.local),("before",.free),("text",.free)]:List (Str×NameKind)):=Bb hx;have e:x="before"\/x="text":=by simpa using m'
   rcases e with rfl|rfl<;>exact⟨_,rfl⟩
 case c2=>rcases slotsL h1 h2 with⟨rfl,rfl⟩|⟨rfl,rfl⟩<;>exact⟨rfl,rfl,rfl,λ c h=>h⟩
 refine⟨rfl,λ l os ds H1 nl no hl ho s1=>⟨l,_,_,rfl,.inl (.inl hl),rfl,hT.same s1,λ c xs h=>(hT.same s1).sq hK h,λ H2 sT MQ=>?_⟩⟩;have O1:=hT.same s1;have n2:Gm H H2:=s1.n.trans (O1.n sT);exact⟨_,rfl,os 0,ds 0,[],rfl,(O1.n sT).ins (ho 0 Z9),rfl,_,rfl,_,rfl,.inl ⟨os 0,ds 0,x,y,rfl,(O1.n sT).ins (ho 0 Z9),hN.sameN n2,λ H' s3=>k _ (n2.trans s3.n) (MQ.same s3)⟩⟩
abbrev lH:F5:=bq (top 34) 3
abbrev Vn:F5:=bq (top 34) 4
inductive Mp (C:FR) (vs:List V) (H:Hp) (Q:VK) (Gj:XK):Prop
 |mk (p:_) (d:_) (R:_) (t:_) (h0:vs=[.ref p]) (h1:Gq C H p d R t) (h2:Q (vN t) H):Mp C vs H Q Gj
def wM:y' Jah Jah (am lH):=Gw Z8
def jj (F:Hb K "place" "BitReader.place" lH f fd)(T:O7 K mg C):'a' Gn 1 f fd Jah (Mp C):=by
 refine F.ok wM ?_
 intro 'a';obtain⟨p,d,R,t,rfl,⟨⟨dx,hp⟩,hd,hb,ht⟩,q⟩:=h;refine⟨_,ag (aB (bB (pv 0) rfl)),?_⟩;exact⟨_,rfl,p,C,dx,_,_,rfl,hp,T.cl,T.nT,gJ _ _,q⟩
inductive Uh (C:FR) (vs:List V) (H:Hp) (Q:VK) (Gj:XK):Prop
 |mk (p:_) (d:_) (R:_) (t:_) (u:_) (h0:vs=[.ref p,vN u]) (h1:Gq C H p d R t) (h2:u≤8*R.length) (h3:∀H',Gq C H' p d R u->(∀c o,H c='g'->c≠p->H' c='g')->Q .non H'):Uh C vs H Q Gj
def zB:y' ["self","place"] ["self","place"] (am Vn):=Gw Z8
def sJ (F:Hb K "go" "BitReader.go" Vn f fd)(W:'h' "is_whole" bQ Jaa RC JV)(T:O7 K mg C)(X:Txt K mg):
  Gb P w K mg base Gn 2 f fd ["self","place"] (Uh C):=by
 have GW:'a' Gn 1 RC JV Jaa spWhole:=dD W X;refine F.ok zB ?_
 intro 'a';obtain⟨p,d,R,t,u,rfl,S0,hu,q⟩:=h;obtain⟨⟨dx,hp⟩,hd,hb,ht⟩:=id S0;have Iv:p≠d:=aT hp hd 'f';refine⟨_,ad (aM (cv (bX (ap GW hr Z7 W.m W.F.kp W.b .nil az (aa (pv 1) (aa ae (aa (ao eV ae (ay ax Z7 X.len Ay (aa (bB (pv 0) rfl) ac))) ac)))))) (ag bN) aF)
  (ag (cF (pv 0) (pv 1) rfl)),?_⟩
 refine⟨_,rfl,_,rfl,p,C,dx,_,_,rfl,hp,T.cl,T.nH,jD _ _,d,_,rfl,.inl (Gf.of hd),_,_,rfl,rfl,.inl ⟨by decide,by decide⟩,_,_,_,rfl,_,rfl,?_⟩;have e1:(decide ((0:Int)≤(u:Int))&&decide ((u:Int)≤8*((R.map vN).length:Int)))=true:=by
  rw [Ae (by lia),Ae (by rw [Aa];lia)];rfl
 try dsimp only
 rw [e1];refine cV ⟨_,rfl,_,rfl,p,C,dx,_,rfl,hp,T.cl,T.nT,uS _ _,?_⟩
 try dsimp only
 rw [ui];refine q _ ⟨⟨dx,af⟩,by rw [aj Iv.symm];exact hd,hb,hu⟩ λ c o e n1=>?_
 rw [aj n1];exact e
def Gq.same (h:Gq C H p d R t)(s:C' H H'):Gq C H' p d R t:=by
 obtain⟨⟨dx,h1⟩,h2,h3,h4⟩:=h;exact⟨⟨dx,s _ _ h1⟩,s _ _ h2,h3,h4⟩
end K21
namespace K21.C
open PySem L2 QQ C9 C10
seal PE PA PS PSs PT PW PG PI
structure V9 (K:Frag)(mg:Str->Option FS)(C:FR):Prop where
 X:Txt K mg
 Y:QG K mg
 need:∃f fd,'h' "need_lengths" d5 Jae f fd
 cof:∃f fd,'h' "codes_of" fb Jae f fd
 keep:∃f fd,Me K C "keep_beginnings" "CodeReader.keep_beginnings" sV ["self","code","length"] f fd
 R:Ud K mg C
def Ow (F:Hb K "__init__" "CodeReader.__init__" kR f fd)(M:V9 K mg C):'a' Gn 34 f fd ["self","lengths"] (Mu C):=by
 obtain⟨X,Y,⟨_,_,N⟩,⟨_,_,O⟩,⟨_,_,Ke⟩,T⟩:=M;have GO:=JG (P:=P) (w:=w) (base:=base) O N Y;have GK:=vG (P:=P) (w:=w) (base:=base) Ke.F T X;refine F.ok HN ?_
 intro 'a';obtain⟨p,dx,a,L,rfl,hp,ha,G,q⟩:=h;have Gz:Ge 1 _:=hr.mono Z9;refine⟨_,ad (cF (pv 0) gN rfl) (ad (cF (pv 0) gN rfl)
  (ag (bp AV rfl (iz Z7 Y.X.enum (aa (ap GO hr Z7 O.m O.F.kp O.b .nil az (aa (pv 1) ac)) ac)) (dR rfl (bh (aG (i:=2) HN.nd) (bh (aG (i:=3) HN.nd) df)))
   (ag (aM (oQ (wf (pv 3)))
    (ad (pz (u1 hr) (bB (pv 0) rfl) (pv 3) (pv 2) rfl)
    (ag (aE (aN (pv 0) T.cl Ke.m GK Gz Ke.b .nil az (aa (aU bL (pv 3) ae (λ _ _=>rfl)) (aa (aU bL (pv 3) ae (λ _ _=>rfl)) ac)))))) aF))))),?_⟩
 refine aw λ R1 g1=>?_
 intro d nd;have Iv:p≠d:=ai hp nd;refine⟨_,rfl,p,C,dx,[],rfl,(by rw [aj Iv];exact hp),T.cl,T.nT,(by show 0<1000;decide),g1 _ _ ?_⟩;clear g1;refine aw λ R1 g1=>?_
 intro e ne;have Pw:p≠e:=by
  rintro rfl;rw [af] at ne;cases ne
 have Vx:d≠e:=by
  rintro rfl;rw [aj Iv.symm,af] at ne;cases ne
 refine⟨_,rfl,p,C,dx,_,rfl,(by rw [aj Pw,af]),T.cl,T.nB,(by show 1<1000;decide),g1 _ _ ?_⟩;clear g1;have WI:H e=none:=by
  rw [aj Pw.symm,aj Vx.symm] at ne;exact ne
 try dsimp only
 rw [qv];have kp:∀b o,H b='g'->b≠p->upd (upd (upd (upd H d (.dT [])) p (.ins C dx (putF "things" (.ref d) []))) e (.dT [])) p (.ins C dx (fC d e)) b='g':=λ b o ez hn=>by
  rw [aj hn,aj (ai ez WI),aj hn,aj (ai ez nd)];exact ez
 have SK:upd (upd (upd (upd H d (.dT [])) p (.ins C dx (putF "things" (.ref d) []))) e (.dT [])) p (.ins C dx (fC d e)) p=some (.ins C dx (fC d e)):=af;have Nd:upd (upd (upd (upd H d (.dT [])) p (.ins C dx (putF "things" (.ref d) []))) e (.dT [])) p (.ins C dx (fC d e)) d=some (.dT []):=by
  rw [aj Iv.symm,aj Vx,aj Iv.symm,af]
 have he0:upd (upd (upd (upd H d (.dT [])) p (.ins C dx (putF "things" (.ref d) []))) e (.dT [])) p (.ins C dx (fC d e)) e=some (.dT []):=by
  rw [aj Pw.symm,af]
 generalize upd (upd (upd (upd H d (.dT [])) p (.ins C dx (putF "things" (.ref d) []))) e (.dT [])) p (.ins C dx (fC d e))=H0 at*;have Ss:a≠p:=aT ha hp 'f';refine⟨_,rfl,_,L,rfl,⟨a,rfl,kp _ _ ha Ss,G.most⟩,G,λ l xs H1 nl s1 MN XG=>?_⟩;have Nu:l≠p:=λ z=>by rw [z,SK] at nl;cases nl
 have JL:l≠d:=λ z=>by rw [z,Nd] at nl;cases nl
 have nle:l≠e:=λ z=>by rw [z,he0] at nl;cases nl
 refine⟨l,_,rfl,Gf.of MN,ug (λ i σ H2=>∃v2 v3 k1 k2,σ=[↑p,↑a,v2,v3]/\H2 p=some (.ins C dx (fC d e))/\H2 d=some (.dT k1)/\H2 e=some (.dT k2)/\lK L i k1/\lM L i k2/\H2 l=↥xs/\CL H2 xs (codes L)/\
   ∀b o,H b='g'->b≠p->H2 b='g') ⟨none,none,[],[],rfl,s1 _ _ SK,s1 _ _ Nd,s1 _ _ he0,wx L,wC L,MN,XG,λ b o ez hn=>s1 _ _ (kp b o ez hn)⟩ (λ i σ H' _ z9=>by obtain⟨_,_,_,_,_,_,_,_,_,_,z,_⟩:=z9;exact Gf.of z) ?_ ?_⟩
 ·rintro i x t σ H2 hx nt ⟨v2,v3,k1,k2,rfl,Hw,hd2,Kd,hT,hB,G5,hC,HX⟩;have HI:i<(codes L).length:=by rw [<-hC.1];exact(Af.mp hx).1
  have hiL:i<L.length:=by
   unfold codes at HI
   rwa [bv] at HI
  have hLle:=G.le;have st:=ak (o:=.tup [vN i,x]) nt;refine⟨t,_,rfl,GF.of af,rfl,_,_,rfl,_,_,rfl,rfl,?_⟩;have ot:=hC.2 i x _ hx (Ad HI);have SH:=st _ _ Hw;have VR:=st _ _ hd2;have Tq:=st _ _ Kd;have hlT:=st _ _ G5;have hCT:CL _ xs (codes L):=hC.keep λ t2 ys ez=>st _ _ ez
  have Ul:∀b o,H b='g'->b≠p->upd H2 t (.tup [vN i,x]) b='g':=λ b o ez hn=>st _ _ (HX b o ez hn)
  generalize upd H2 t (.tup [vN i,x])=H3 at*;cases eo:(codes L)[i] with
  |none=>
   rw [eo] at ot;have ex:x=.non:=ot;subst ex;have h0:∀s,L[i]?=some s->¬1≤s:=λ s hs h1=>by
    have:=IE G hs h1;rw [Ad HI,eo] at this;cases this
   refine⟨_,rfl,_,rfl,cV ?_⟩;exact⟨_,_,k1,k2,rfl,SH,VR,Tq,wO hT h0,wU hB h0,hlT,hCT,Ul⟩
  |some c=>
   rw [eo] at ot;have OC:=oJ G (by rw [Ad HI,eo]);obtain⟨u,ex,hu⟩:=hC.keep (H':=H3) (λ t2 ys ez=>by exact(st _ _ ez))|>.2 i x _ hx (by rw [Ad HI,eo]);subst ex;refine⟨_,rfl,_,rfl,eQ ?_⟩;refine aw λ R2 g2=>?_
   refine⟨_,rfl,_,rfl,p,C,dx,_,_,rfl,SH,T.cl,T.nT,yr _ _,_,rfl,d,_,rfl,M5.t (b:=u) (k:=kk c.1 c.2) VR hu (Be (show _≤300 by have:=hT.1;lia) Z9),g2 _ _ ?_⟩;clear g2;have nud:u≠d:=aT hu VR 'f';have Ny:upd H3 d (.dT (putK k1 (kk c.1 c.2) (vN i))) u=some (.tup [vN c.1,vN c.2]):=by rw [aj nud];exact hu
   refine⟨_,rfl,p,dx,_,rfl,(by rw [aj Iv];exact SH),Mb _ _ Z8 Z8,?_⟩;refine⟨_,rfl,u,_,_,_,rfl,rfl,GF.of Ny,aD (j:=0) rfl,_,rfl,u,_,_,_,rfl,rfl,GF.of Ny,aD (j:=1) rfl,?_⟩;have UW:c.2≤12:=oI G OC.1;refine⟨p,d,e,dx,c.1,c.2,k2,rfl,(by rw [aj Iv];exact SH),(by rw [aj Vx.symm];exact Tq),(by have:=hB.1;lia),UW,λ H5 k2' he5 Ql hv5 Lu=>?_⟩;refine⟨_,_,_,k2',rfl,Lu _ _ (by rw [aj Iv];exact SH) Pw,Lu _ _ af Vx,he5,?_,?_,Lu _ _ (by rw [aj JL];exact hlT) nle,?_,λ b o ez hn=>?_⟩
   ·have:=yx hT OC.1 OC.2.1;rw [<-OC.2.2] at this;exact this
   ·refine yI hB OC.1 UW Ql λ a b=>?_
    rw [<-OC.2.2];exact hv5 a b
   ·refine hCT.keep λ t2 ys ez=>?_
    refine Lu _ _ ?_ (aT ez Tq 'f');rw [aj (aT ez VR 'f')];exact ez
   ·have h3:=Ul b o ez hn;refine Lu _ _ ?_ (ai ez WI);rw [aj (ai ez nd)];exact h3
 ·rintro σ H2 ⟨v2,v3,k1,k2,rfl,Hw,hd2,Kd,hT,hB,G5,hC,HX⟩;have e1:xs.length=L.length:=by rw [hC.1];unfold codes;rw [bv]
  rw [e1] at hT hB;exact q d e H2 nd WI ⟨⟨dx,Hw⟩,⟨k1,hd2,hT⟩,⟨k2,Kd,hB⟩⟩ HX
def zt (h:Hk C H p d e L)(h':Gq B H r g R t):p≠r/\d≠r/\e≠r/\p≠g/\d≠g/\e≠g:=by
 obtain⟨⟨dx,h1⟩,⟨k1,h2,_⟩,⟨k2,h3,_⟩⟩:=h;obtain⟨⟨dy,r1⟩,r2,_,_⟩:=h';refine⟨aT h1 r1 ?_,aT h2 r1 'f',aT h3 r1 'f',aT h1 r2 'f',aT h2 r2 'f',aT h3 r2 'f'⟩;intro z;injection z with _ _ z
 unfold fC fR at z;injection z with z _
 injection z with z _
 exact zW z
def Hk.but (h:Hk C H p d e L)(h':Gq B H r g R t)(s:∀c o,H c='g'->c≠r->H' c='g'):Hk C H' p d e L:=by
 obtain⟨n1,n2,n3,_⟩:=zt h h';exact h.keep λ c o ez hc=>s c o ez (by rcases hc with rfl|rfl|rfl<;>assumption)
structure Er2 (K:Frag)(mg:Str->Option FS)(cN cB:FR):Prop where
 mN:mg "NoBits"=↑cN
 xN:ExC K cN
 mB:mg "BadCode"=↑cB
 xB:ExC K cB
structure Rds (K:Frag)(mg:Str->Option FS)(B:FR):Prop where
 X:Txt K mg
 whole:∃f fd,'h' "is_whole" bQ Jaa f fd
 size:∃f fd,'h' "need_size" cQ Jak f fd
 ones:∃f fd,'h' "ones" gf Jak f fd
 bits:∃f fd,'h' "bits_at" gL ["row","place","size"] f fd
 take:∃f fd,Me K B "take" "BitReader.take" jQ ["self","size"] f fd
 left:∃f fd,Me K B "left" "BitReader.left" lT Jah f fd
 place:∃f fd,Me K B "place" "BitReader.place" lH Jah f fd
 go:∃f fd,Me K B "go" "BitReader.go" Vn ["self","place"] f fd
 R:O7 K mg B
def zJ (B:FR)(H:Hp)(r g:FR)(R:'c')(t:Nat)(Q:VK)(E:XK)(cN cB:FR):Res->Prop
 | .thing q s=>∀H',Gq B H' r g R (t+s)->(∀c o,H c='g'->c≠r->H' c='g')->Q (vN q) H'
 | .bad=>∀H',Gq B H' r g R t->(∀c o,H c='g'->c≠r->H' c='g')->E (.ref cB) none H'
 | .none=>∀H',Gq B H' r g R t->(∀c o,H c='g'->c≠r->H' c='g')->E (.ref cN) none H'
inductive Ml (C B cN cB:FR) (vs:List V) (H:Hp) (Q:VK) (E:XK):Prop
 |mk (p d e r g:FR) (L R:'c') (t:Nat) (res:Res) (h0:vs=[.ref p,.ref r]) (h1:Hk C H p d e L) (h2:Good L) (h3:Gq B H r g R t) (h4:Due L ((bt R).drop t) res) (h5:zJ B H r g R t Q E cN cB res):Ml C B cN cB vs H Q E
def Ov {P:FU}(F:Hb K "thing" "CodeReader.thing" oo f fd)(T:Ud K mg C)(D:Rds K mg B)(Z:Er2 K mg cN cB):'a' (Lp P w) 32 f fd ["self","reader"] (Ml C B cN cB):=by
 obtain⟨X,⟨_,_,W⟩,⟨_,_,S⟩,⟨_,_,O⟩,⟨_,_,Bi⟩,⟨_,_,Ta⟩,⟨_,_,Le⟩,⟨_,_,Pl⟩,⟨_,_,Go⟩,TB⟩:=D;have GT:=pI (P:=P) (w:=w) (base:=base) Ta.F S W Bi O Le TB X Z.mN Z.xN;have GL:=qf (P:=P) (w:=w) (base:=base) Le.F TB X;have GP:=jj (P:=P) (w:=w) (base:=base) Pl.F TB;have GG:=sJ (P:=P) (w:=w) (base:=base) Go.F W TB X;refine F.okE HL ?_
 intro 'a';obtain⟨p,d,e,r,g,L,R,t,res,rfl,hC,G,hR,hD,k⟩:=h;have Gz:Ge 1 _:=hr.mono Z9;have IW:Ge 2 _:=hr.mono Z9;refine⟨_,ad (aq (i:=2) HL.nd (cx (pv 1) TB.cl Pl.m GP Gz Pl.b .nil az))
  (ad (aq (i:=3) HL.nd ae)
  (ad (aq (i:=4) HL.nd ae)
  (ad (cA CA (oQ (yb (u1 hr) (aO (aa (pv 3) (aa (pv 4) ac))) (bB (pv 0) rfl)))
   (ad (aM (aA bE (cx (pv 1) TB.cl Le.m GL Gz Le.b .nil az) ae (aC _))
    (ad (aE (aN (pv 1) TB.cl Go.m GG IW Go.b .nil az (aa (pv 2) ac))) (ag (cj bu (hr.hd Z9) Z7 Z.mN Z.xN aX))) aF)
   (ad (aq (i:=3) HL.nd (ao um (ao dP (pv 3) ae) (aN (pv 1) TB.cl Ta.m GT hr Ta.b .nil jU (aa ae ac))))
   (ag (aq (i:=4) HL.nd (ao aI (pv 4) ae))))))
  (ad (aM (oQ (rL (u1 hr) (aO (aa (pv 3) (aa (pv 4) ac))) (bB (pv 0) rfl)))
    (ad (aE (aN (pv 1) TB.cl Go.m GG IW Go.b .nil az (aa (pv 2) ac))) (ag (cj bu (hr.hd Z9) Z7 Z.mB Z.xB aX))) aF)
  (ag (aB (vm (u1 hr) (bB (pv 0) rfl) (aO (aa (pv 3) (aa (pv 4) ac))) (λ _ _=>rfl)))))))),?_⟩
 have ht:=hR.le;have MK:((bt R).drop t).length=8*R.length-t:=by rw [Au,Hv]
 refine aw λ R1 g1=>?_
 obtain⟨dx,NA⟩:=hR.ob;refine⟨_,rfl,r,dx,_,rfl,NA,dL _ _ Z8 Z8,r,g,R,t,rfl,hR,g1 _ _ ?_⟩;clear g1;refine aw λ R1 g1=>g1 _ _ ?_
 clear g1;refine aw λ R1 g1=>g1 _ _ ?_
 clear g1;refine aw λ R1 g1=>?_
 refine⟨λ m σ H2=>∃s,m=(8*R.length-t)-s/\t+s≤8*R.length/\(∀j<s,Nk L (((bt R).drop t).take j))/\σ=[↑p,↑r,some (vN t),some (vN (BP.num (((bt R).drop t).take s))),some (vN s)]/\Gq B H2 r g R (t+s)/\Hk C H2 p d e L/\∀c o,H c='g'->c≠r->H2 c='g',
  ⟨_,0,rfl,by lia,λ j hj=>absurd hj (by lia),rfl,hR,hC,λ c o z _=>z⟩,?_⟩
 rintro m σ H2 ⟨s,rfl,hs,Xt,rfl,Iq,OG,HX⟩;have LW:(((bt R).drop t).take s).length=s:=by rw [Aq,MK];lia
 obtain⟨k2,ND,IF⟩:=OG.bg;obtain⟨dy,Hw⟩:=OG.ob;refine⟨_,rfl,_,rfl,(by show 2≤sizeLine;decide),λ u nu=>?_⟩;have su:=ak (o:=.tup [vN (BP.num (((bt R).drop t).take s)),vN s]) nu;have hu:upd H2 u (.tup [vN (BP.num (((bt R).drop t).take s)),vN s]) u=some (.tup ((kk (BP.num (((bt R).drop t).take s)) s).map kV)):=af;have Ic:=Iq.same su;have XF:=OG.same su;have NQ:∀c o,H c='g'->c≠r->upd H2 u (.tup [vN (BP.num (((bt R).drop t).take s)),vN s]) c='g':=λ c o z hn=>su _ _ (HX c o z hn)
 have hk3:=su _ _ ND;have M9:=su _ _ Hw;generalize upd H2 u (.tup [vN (BP.num (((bt R).drop t).take s)),vN s])=H3 at*;refine⟨_,rfl,p,C,dy,_,_,rfl,M9,T.cl,T.nB,zw _ _,e,_,rfl,Jd.t hk3 hu,_,rfl,?_⟩;have hw:=wG IF (((bt R).drop t).take s);rw [LW] at hw;by_cases c1:Nk L (((bt R).drop t).take s)
 ·rw [hw.mpr c1];refine eQ ?_;refine⟨λ σ' H'=>∃m',m'<8*R.length-t-s/\∃s',m'=(8*R.length-t)-s'/\t+s'≤8*R.length/\(∀j<s',Nk L (((bt R).drop t).take j))/\σ'=[↑p,↑r,some (vN t),some (vN (BP.num (((bt R).drop t).take s'))),some (vN s')]/\Gq B H' r g R (t+s')/\Hk C H' p d e L/\∀c o,H c='g'->c≠r->H' c='g',λ σ' H' h=>h,?_⟩;have UZ:∀j<s+1,Nk L (((bt R).drop t).take j):=λ j hj=>by
   rcases A2 j s with z|z
   ·exact Xt j z
   ·have:j=s:=by lia
    subst this;exact c1
  refine aw λ R2 g2=>?_
  obtain⟨JJ,NS⟩:=Ic.ob;refine⟨_,rfl,r,JJ,_,rfl,NS,dL _ _ Z8 Z8,r,g,R,t+s,rfl,Ic,rfl,_,rfl,bc (λ h1=>?_) (λ h1=>?_)⟩
  ·have h0:8*R.length-(t+s)=0:=Gr.mp (Am h1);have hn:Due L ((bt R).drop t) .none:=λ j hj=>UZ j (by rw [MK] at hj;lia)
   obtain rfl:=hD.uniq hn;refine aw λ R3 g3=>?_
   refine⟨_,rfl,r,JJ,_,rfl,NS,dL _ _ Z8 Z8,_,rfl,r,g,R,t+s,t,rfl,Ic,ht,λ H4 JO Lv=>g3 _ _ ?_⟩;exact k H4 JO λ c o z hn=>Lv c o (NQ c o z hn) hn
  ·have h0:t+s<8*R.length:=by
    rcases A2 (t+s) (8*R.length) with z|z
    ·exact z
    ·exact absurd (Ae (Gr.mpr (show 8*R.length-(t+s)=0 by lia))) h1
   refine g2 _ _ ?_;clear g2;obtain⟨b,Ib,TH⟩:=xo h0;refine aw λ R2 g2=>?_
   have UB:s≤12:=by
    obtain⟨q1,s1,z1,z2,_⟩:=c1;have:=oI G z1;lia
   have es:BP.num (((bt R).drop t).take s)<2^s:=by have:=BP.HB (((bt R).drop t).take s);rwa [LW] at this
   have es2:2^s≤2^12:=Cv Z9 UB;refine⟨_,rfl,_,_,rfl,rfl,⟨by lia,by lia,by lia⟩,?_⟩;refine⟨_,rfl,r,JJ,_,rfl,NS,dL _ _ Z8 Z8,r,g,R,t+s,1,rfl,Ic,by lia,λ _ H4 JO Lv=>?_,λ z=>absurd z (Nat.not_lt.2 h0)⟩;refine⟨_,_,rfl,rfl,g2 _ _ ?_⟩;clear g2;have hb3:b.toNat<2^1:=by cases b<;>decide
   have e1:Builtin.bitOr (⇑(BP.num (((bt R).drop t).take s))*2^(1:Int).toNat) ⇑(K21.bt R (t+s) 1)=⇑(BP.num (((bt R).drop t).take (s+1))):=by
    show Builtin.bitOr _ ⇑(BP.val R/2^(8*R.length-(t+s+1))%2^1)=_;rw [TH];have:=nO (BP.num (((bt R).drop t).take s)) b.toNat 1 hb3;rw [Ib,BP.K9];rw [show((1:Int))=⇑(1) from rfl,this];lia
   try dsimp only
   rw [e1];refine⟨_,rfl,_,_,rfl,rfl,?_⟩;have e2:⇑s+1=⇑(s+1):=by lia
   try dsimp only
   rw [e2];exact⟨_,by lia,s+1,rfl,by lia,UZ,rfl,JO,XF.but Ic Lv,λ c o z hn=>Lv c o (NQ c o z hn) hn⟩
 ·rw [Bool.eq_false_iff.mpr (λ z=>c1 (hw.mp z))];refine cV (g1 _ _ ?_);clear g1;obtain⟨k1,Qm,O1⟩:=XF.th;obtain⟨JJ,NS⟩:=Ic.ob;obtain⟨Wk,Zt⟩:=wp O1 (((bt R).drop t).take s);rw [LW] at Wk Zt;refine aw λ R2 g2=>?_
  refine⟨_,rfl,_,rfl,(by show 2≤sizeLine;decide),λ v nv=>?_⟩;have sv:=ak (o:=.tup [vN (BP.num (((bt R).drop t).take s)),vN s]) nv;have hv:upd H3 v (.tup [vN (BP.num (((bt R).drop t).take s)),vN s]) v=some (.tup ((kk (BP.num (((bt R).drop t).take s)) s).map kV)):=af;have JO:=Ic.same sv;have hC4:=XF.same sv;have Lv:∀c o,H c='g'->c≠r->upd H3 v (.tup [vN (BP.num (((bt R).drop t).take s)),vN s]) c='g':=λ c o z hn=>sv _ _ (NQ c o z hn)
  have hk4:=sv _ _ Qm;have VI:=sv _ _ M9;have Oz:=sv _ _ NS;generalize upd H3 v (.tup [vN (BP.num (((bt R).drop t).take s)),vN s])=H4 at*;refine⟨_,rfl,p,C,dy,_,_,rfl,VI,T.cl,T.nT,yr _ _,d,_,rfl,Jd.t hk4 hv,_,rfl,?_⟩;by_cases c2:∃q,dQ L (((bt R).drop t).take s) q
  ·obtain⟨q,hq⟩:=c2;rw [Wk q hq];refine cV (g2 _ _ ?_);clear g2;have hn:Due L ((bt R).drop t) (.thing q s):=⟨by rw [MK];lia,hq,Xt⟩;obtain rfl:=hD.uniq hn;refine⟨_,rfl,p,C,dy,_,_,rfl,VI,T.cl,T.nT,yr _ _,_,rfl,_,rfl,(by show 2≤sizeLine;decide),λ x nx=>?_⟩;have sx:=ak (o:=.tup [vN (BP.num (((bt R).drop t).take s)),vN s]) nx;refine⟨d,_,rfl,?_,k _ (JO.same sx) λ c o z hn=>sx _ _ (Lv c o z hn)⟩;have:=Jd.t (sx _ _ hk4) (show upd H4 x (.tup [vN (BP.num (((bt R).drop t).take s)),vN s]) x=some (.tup ((kk (BP.num (((bt R).drop t).take s)) s).map kV)) from af);rw [Wk q hq] at this;exact this
  ·have c3:∀q,¬dQ L (((bt R).drop t).take s) q:=λ q hq=>c2 ⟨q,hq⟩
   rw [Zt c3];refine eQ ?_;have hn:Due L ((bt R).drop t) .bad:=⟨s,by rw [MK];lia,Xt,c1,c3⟩;obtain rfl:=hD.uniq hn;refine aw λ R3 g3=>?_
   refine⟨_,rfl,r,JJ,_,rfl,Oz,dL _ _ Z8 Z8,_,rfl,r,g,R,t+s,t,rfl,JO,ht,λ H5 Qv Lu=>g3 _ _ ?_⟩;exact k H5 Qv λ c o z hn=>Lu c o (Lv c o z hn) hn
end K21.C
namespace K21.M
open BP C9 C10 W17
def vJ (u)(h:t+s≤u.length):num ((u.drop t).take s)=num u/2^(u.length-(t+s))%2^s:=by
 have h1:=dC (u.take t) (u.drop t);rw [Bn,Au] at h1;have h2:=HB (u.drop t);rw [Au] at h2;have h3:num (u.drop t)=num u%2^(u.length-t):=by rw [h1,BE,Nat.mul_add_mod,CI h2]
 rw [lW _ (by rw [Au];lia),h3,Au,Nat.sub_sub,show u.length-t=(u.length-(t+s))+s by lia,Dl,Fh]
def cS (h:n<2^s)(r):num ((dig n s++r).take s)=n:=by
 rw [List.take_left' (Gk n s),gA,CI h]
def cG (n s)(r):(dig n s++r).drop s=r:=List.drop_left' (Gk n s)
inductive Kt (e:Nat):Nat->List Bool->Bool->Prop
 |o6 {n:Nat} {b:List Bool}:n<e->b.length<6->Kt e n b false
 |o8 {n:Nat} {b:List Bool}:n<e->6≤b.length->b.length<14->Kt e n b false
 |bad {n:Nat} {b:List Bool}:n<e->b.length=14->e<n+(num (b.take 6)+1)->Kt e n b true
 |go {n:Nat} {b:List Bool} {o:Bool}:n<e->14≤b.length->n+(num (b.take 6)+1)≤e->Kt e (n+(num (b.take 6)+1)) (b.drop 14) o->Kt e n b o
def Kt.lt (h:Kt e n b o):n<e:=by cases h<;>assumption
def tt {b:List Bool}(h:i≤m):(b.take m).take i=b.take i:=by rw [List.take_take,Bu h]
def Kt.cut (h:Kt e n b o)(ho:o=true):∀{m},m<b.length->Kt e n (b.take m) false:=by
 have ln:∀{b:List Bool} {m},m<b.length->(b.take m).length=m:=λ h=>by rw [Aq];lia
 induction h with
 |o6=>cases ho
 |o8=>cases ho
 |bad h1 h2 h3=>
  intro m hm;rcases A2 m 6 with c|c
  ·exact .o6 h1 (by rw [ln hm];exact c)
  ·exact .o8 h1 (by rw [ln hm];exact c) (by rw [ln hm];lia)
 | @go n b o h1 h2 h3 h4 ih=>
  intro m hm;rcases A2 m 6 with c|c
  ·exact .o6 h1 (by rw [ln hm];exact c)
  rcases A2 m 14 with c'|c'
  ·exact .o8 h1 (by rw [ln hm];exact c) (by rw [ln hm];exact c')
  ·refine .go h1 (by rw [ln hm];exact c') (by rw [tt c];exact h3) ?_;rw [tt c,Fs];exact ih ho (by rw [Au];lia)
inductive JW (e:Nat):Nat->List Bool->Bool->Prop
 |o1 {n:Nat} {b:List Bool}:n<e->b.length<1->JW e n b false
 |s8 {n:Nat} {b:List Bool}:n<e->1≤b.length->num (b.take 1)=0->b.length<9->JW e n b false
 |sg {n:Nat} {b:List Bool} {o:Bool}:n<e->9≤b.length->num (b.take 1)=0->JW e (n+1) (b.drop 9) o->JW e n b o
 |c8 {n:Nat} {b:List Bool}:n<e->1≤b.length->num (b.take 1)=1->b.length<9->JW e n b false
 |c4 {n:Nat} {b:List Bool}:n<e->9≤b.length->num (b.take 1)=1->b.length<13->JW e n b false
 |bad {n:Nat} {b:List Bool}:n<e->b.length=13->num (b.take 1)=1->(e<n+(num ((b.drop 9).take 4)+3)\/num ((b.drop 1).take 8)=0\/n<num ((b.drop 1).take 8))->JW e n b true
def JW.lt (h:JW e n b o):n<e:=by cases h<;>assumption
def JW.cut (h:JW e n b o)(ho:o=true):∀{m},m<b.length->JW e n (b.take m) false:=by
 have ln:∀{b:List Bool} {m},m<b.length->(b.take m).length=m:=λ h=>by rw [Aq];lia
 induction h with
 |o1=>cases ho
 |s8=>cases ho
 |c8=>cases ho
 |c4=>cases ho
 |bad h1 h2 h3 h4=>
  intro m hm;rcases A2 m 1 with c|c
  ·exact .o1 h1 (by rw [ln hm];exact c)
  rcases A2 m 9 with c'|c'
  ·exact .c8 h1 (by rw [ln hm];exact c) (by rw [tt c];exact h3) (by rw [ln hm];exact c')
  ·exact .c4 h1 (by rw [ln hm];exact c') (by rw [tt c];exact h3) (by rw [ln hm];lia)
 | @sg n b o h1 h2 h3 h4 ih=>
  intro m hm;rcases A2 m 1 with c|c
  ·exact .o1 h1 (by rw [ln hm];exact c)
  rcases A2 m 9 with c'|c'
  ·exact .s8 h1 (by rw [ln hm];exact c) (by rw [tt c];exact h3) (by rw [ln hm];exact c')
  ·refine .sg h1 (by rw [ln hm];exact c') (by rw [tt c];exact h3) ?_;rw [Fs];exact ih ho (by rw [Au];lia)
inductive Jf:'c'->Nat->List Bool->Option ('c'×List Bool)->Prop
 |done {L:'c'} {ah:Nat} {b:List Bool}:272≤L.length->Jf L ah b (some (L,b))
 |e3 {L:'c'} {ah:Nat} {b:List Bool}:L.length<272->b.length<3->Jf L ah b none
 |one {L:'c'} {ah:Nat} {b:List Bool} {o:Option ('c'×List Bool)}:L.length<272->3≤b.length->num (b.take 3)≠7->Jf (L++[num (b.take 3)]) (num (b.take 3)) (b.drop 3) o->Jf L ah b o
 |e6 {L:'c'} {ah:Nat} {b:List Bool}:L.length<272->3≤b.length->num (b.take 3)=7->b.length<9->Jf L ah b none
 |rep {L:'c'} {ah:Nat} {b:List Bool} {o:Option ('c'×List Bool)}:L.length<272->9≤b.length->num (b.take 3)=7->Jf (L++List.replicate (num ((b.drop 3).take 6)+3) ah) ah (b.drop 9) o->Jf L ah b o
def tab (T:'c'):List (Nat×Nat):=T.map λ l=>(l,3)
def lx (hT:∀l∈T,l<7):∀{L} {ah} {r} {o},L.length+T.length≤272->Jf (L++T) (T.getLastD ah) r o->Jf L ah (bitsP (tab T)++r) o:=by
 induction T with
 |nil=>intro L ah r o _ h;rwa [Bv] at h
 |cons l T ih=>
  intro L ah r o hl h;have h7:l<7:=hT l AE;have h8:l<2^3:=D9 h7 (by decide);have e:bitsP (tab (l::T))++r=dig l 3++(bitsP (tab T)++r):=by rw [<-An];exact Bx (·++r) (aZ (l,3) (tab T))
  rw [Ar] at hl;rw [e];refine .one (by lia) (by rw [Ac,Gk];lia) (by rw [cS h8];lia) ?_;rw [cS h8,cG];refine ih (λ x hx=>hT x (Az _ hx)) (by rw [Ac];show _+1+_≤_;lia) ?_;rw [An]
  rwa [List.getLastD_cons] at h
def nP (hT:∀l∈T,l<7):∀{L} {ah m} {r},L.length+T.length≤272->m<3*T.length->Jf L ah ((bitsP (tab T)++r).take m) none:=by
 induction T with
 |nil=>intro L ah m r _ h;exact absurd h (Dc _)
 |cons l T ih=>
  intro L ah m r hl hm;have h7:l<7:=hT l AE;have h8:l<2^3:=D9 h7 (by decide);have e:bitsP (tab (l::T))++r=dig l 3++(bitsP (tab T)++r):=by rw [<-An];exact Bx (·++r) (aZ (l,3) (tab T))
  rw [Ar] at hl hm;have hlen:(bitsP (tab T)).length=3*T.length:=by
   rw [aV];clear ih hl hm hT e
   induction T with
   |nil=>rfl
   |cons x T ih=>show tots ((x,3)::tab T)=_;rw [bU,ih,Ar];show 3+_=_;lia
  rw [e];have Rn:((dig l 3++(bitsP (tab T)++r)).take m).length=m:=by rw [Aq,Ac,Ac,Gk,hlen];lia
  rcases A2 m 3 with c|c
  ·exact .e3 (by lia) (by rw [Rn];exact c)
  ·refine .one (by lia) (by rw [Rn];exact c) (by rw [tt c,cS h8];lia) ?_;rw [tt c,cS h8,Fs,cG];exact ih (λ x hx=>hT x (Az _ hx)) (by rw [Ac];show _+1+_≤_;lia) (by lia)
inductive Lk (L:'c') (e:Nat):Nat->List Bool->Bool->Prop
 |no {n:Nat} {b:List Bool}:n<e->Due L b .none->Lk L e n b false
 |bad {n:Nat} {b:List Bool}:n<e->Due L b .bad->Lk L e n b true
 |sg {n q s:Nat} {b:List Bool} {o:Bool}:n<e->Due L b (.thing q s)->q<256->Lk L e (n+1) (b.drop s) o->Lk L e n b o
 |c8 {n q s:Nat} {b:List Bool}:n<e->Due L b (.thing q s)->256≤q->(b.drop s).length<8->Lk L e n b false
 |cp {n q s:Nat} {b:List Bool}:n<e->Due L b (.thing q s)->256≤q->8≤(b.drop s).length->(e<n+(q-256+3)\/num ((b.drop s).take 8)=0\/n<num ((b.drop s).take 8))->Lk L e n b true
def Lk.lt (h:Lk L e n b o):n<e:=by cases h<;>assumption
def RO (L:'c'):Prop:=(∀l∈L,l=0)\/((∃l∈L,0<l)/\4096<krf 12 L)
inductive RN (e n:Nat) (b:List Bool):Bool->Prop
 |tno:Jf [] 0 b none->RN e n b false
 |tbad {L:'c'} {r:List Bool}:Jf [] 0 b (some (L,r))->272<L.length->RN e n b true
 |lbad {L:'c'} {r:List Bool}:Jf [] 0 b (some (L,r))->L.length=272->(∀l∈L,l≤6)->RO L->RN e n b true
 |ok {L:'c'} {r:List Bool} {o:Bool}:Jf [] 0 b (some (L,r))->L.length=272->Good L->Lk L e n r o->RN e n b o
end K21.M
namespace L2
open PySem
def Gb.up (F:'a' (Lp P w) k f fd ps sp):'a' (Jo P w) k f fd ps sp:=by
 refine⟨F.len,λ A outer s H args us vs Q E hr he hb hv h=>Dj (F.run A outer s H args us vs Q E hr he hb hv h) λ r s' q=>?_⟩;cases r with
 |error e=>
  obtain⟨ea,cls,fp,H',e1,e2,e3,e4,e5,⟨c,_,e6⟩,e7,e8⟩:=q;exact⟨ea,cls,fp,H',e1,e2,e3,e4,e5,⟨c,trivial,e6⟩,e7,e8⟩
 |ok fl=>cases fl<;>exact q
end L2
namespace K21.Ck
open PySem L2 QQ W17 W16 BP K21.M
seal PE PA PS PSs PT PW PG PI
abbrev GZ (r:FR)(H H':Hp):Prop:=∀c o,H c='g'->c≠r->H' c='g'
def RB (C:FR)(H:Hp)(r d:FR)(b:List Bool):Prop:=∃R t,Gq C H r d R t/\b=(K21.C.bt R).drop t
theorem RB.keep (h:RB C H r d b)(k:∀c o,H c='g'->(c=r\/c=d)->H' c='g'):RB C H' r d b:=by
 obtain⟨R,t,h,e⟩:=h;exact⟨R,t,h.keep k,e⟩
def RB.same (h:RB C H r d b)(k:C' H H'):RB C H' r d b:=h.keep λ c o e _=>k c o e
def RB.ob (h:RB C H r d b):∃dx t,H r=some (.ins C dx (fR d t)):=by
 obtain⟨R,t,⟨⟨dx,h⟩,_⟩,_⟩:=h;exact⟨dx,t,h⟩
def RB.ls (h:RB C H r d b):∃o,H d='g':=by
 obtain⟨R,t,⟨_,h,_⟩,_⟩:=h;exact⟨_,h⟩
theorem RB.upd (h:RB C H r d b)(h1:l≠r)(h2:l≠d):RB C (upd H l o) r d b:=h.keep λ c o e hc=>by
 rw [aj (by rcases hc with rfl|rfl;exact h1.symm;exact h2.symm)];exact e
inductive Ko (C cN:FR) (vs:List V) (H:Hp) (Q:VK) (E:XK):Prop
 |mk (r d:FR) (b:List Bool) (s:Nat) (h0:vs=[.ref r,vN s]) (h1:RB C H r d b) (h2:s≤24) (h3:(s≤b.length->∀H',RB C H' r d (b.drop s)->GZ r H H'->Q (vN (num (b.take s))) H')) (h4:(b.length<s->E (.ref cN) none H)):Ko C cN vs H Q E
def xJ (hb:∀b∈R,b<256)(h:t+s≤8*R.length):bt R t s=num (((K21.C.bt R).drop t).take s):=by
 have hv:=Ki hb;rw [oh] at hv;rw [vJ _ (by rw [K21.C.Hv];exact h),K21.C.Hv];unfold K21.C.bt;rw [gA,CI hv];rfl
def _root_.K21.Ck.Ni.tkB (Z:Ni K mg C cN):∃f fd,Me K C "take" "BitReader.take" jQ ["self","size"] f fd/\∀P w base,'a' (Lp P w) 31 f fd ["self","size"] (Ko C cN):=by
 obtain⟨f,fd,Tk,G⟩:=Z.tk;refine⟨f,fd,Tk,λ P w base=>(G P w base).imp λ vs H Q E h=>?_⟩;obtain⟨r,d,b,s,rfl,⟨R,t,hR,rfl⟩,hs,k1,k2⟩:=h;have hl:((K21.C.bt R).drop t).length=8*R.length-t:=by rw [Au,K21.C.Hv]
 rw [hl] at k1 k2;have ht:=hR.le;refine⟨r,d,R,t,s,rfl,hR,hs,λ h H' MR kp=>?_,λ h=>k2 (by omega)⟩;rw [xJ hR.by' h];exact k1 (by omega) H' ⟨R,t+s,MR,by rw [Cn]⟩ kp
inductive Od (C cN:FR) (vs:List V) (H:Hp) (Q:VK) (E:XK):Prop
 |mk (o r d:FR) (x:V) (b:List Bool) (n:Nat) (h0:vs=[.ref o,.ref r,vN n,x]) (h1:RB C H r d b) (h2:n≤64) (h3:((8*n≤b.length/\∀l H',GZ r H H'->Q (.ref l) H')\/(b.length<8*n/\∀H',GZ r H H'->E (.ref cN) none H'))):Od C cN vs H Q E
def vo (C cN:FR)(E:XK):TE:=mq C "take" (Ko C cN) [] E (Gs 1) (aP (tC (.int 8)) bF)
def vn {P:FU}(F:Hb K "read" "RawWay.read" iN f fd)(Z:Ni K mg C cN):'a' (Lp P w) 32 f fd Jac (Od C cN):=by
 have X:=Z.Y.X;obtain⟨_,_,Tk,NP⟩:=Z.tkB;have GT:=NP P w base;have TR:=Z.T;refine F.okE rg ?_
 intro 'a';obtain⟨o,r,d,x,b,n,rfl,hR,G6,k⟩:=h;refine⟨_,ag (aB (uR (js:=[none,some 1]) rfl rfl
  ⟨rfl,Z8,Z8,Z7,λ x c h=>(by obtain⟨rfl,rfl⟩:=dG h;rfl),λ x hx=>?c1,rfl,λ i x j h1 h2=>?c2⟩
  (cZ Z7 X.range (aa (pv 2) ac)) (λ fp s H=>aG (i:=0) zP)
  (λ fp s H=>aN (pv 1) TR.cl Tk.m GT hr Tk.b .nil zq (aa ae ac)))),?_⟩
 case c1=>
  rcases hx with hx|hx
  ·have m':(x,NameKind.cell)∈([(".0",.local),("step",.local),("reader",.cell)]:List (Str×NameKind)):=Bb hx;have e:x="reader":=by simpa using m'
   subst e;exact⟨_,rfl⟩
  ·have m':(x,NameKind.free)∈([(".0",.local),("step",.local),("reader",.cell)]:List (Str×NameKind)):=Bb hx;simp at m'
 case c2=>
  obtain⟨rfl,rfl⟩:=ju h1 h2;exact⟨rfl,rfl,rfl,λ c h=>h⟩
 refine⟨_,rfl,(n:Int),rfl,by omega,by omega,λ l nl=>?_⟩;obtain⟨V3,t0,NA⟩:=hR.ob;obtain⟨_,Nd⟩:=hR.ls;have Jk:l≠r:=(ai NA nl).symm;have JL:l≠d:=(ai Nd nl).symm;have s0:=ak (o:=.lst []) nl;refine kj (g:=bw 0) (te:=vo C cN E) (lo:=0) (l:=l) (k:=((n:Nat):Int).toNat)
  (λ i ys σ H2=>∃v0 c,σ=[v0,↑r]/\ys.length=i/\8*i+c.length=b.length/\H2 l=↥ys/\RB C H2 r d c/\GZ r H H2)
  ⟨none,b,rfl,rfl,DA _,af,hR.same s0,λ c o e _=>s0 _ _ e⟩ ?_ ?_ ?_ ?_
 ·rintro i ys σ H2 hi ⟨v0,c,rfl,hy,hc,Hy,Iq,kp⟩;have Xk:i<n:=by simpa using hi
  obtain⟨dx,t,IW⟩:=Iq.ob;refine⟨_,rfl,r,dx,_,rfl,IW,dL _ _ Z8 Z8,r,d,c,8,rfl,Iq,Z9,λ h8 H3 Ic G4=>?_,λ h8=>?_⟩
  ·exact⟨G4 _ _ Hy Jk,bA (by omega),_,_,rfl,by rw [Ac,hy];rfl,by rw [Au];omega,af,Ic.upd Jk JL,λ c o e n=>by rw [aj (ai e nl)];exact G4 _ _ (kp _ _ e n) n⟩
  ·rcases k with⟨h,_⟩|⟨_,k⟩
   ·omega
   ·exact k _ kp
 rotate_left
 ·exact λ x σ H A B h z=>h _ _ z
 ·rintro σ H A B h ⟨v,e1,a',dx,fs,e2,e3,e4,p',d',b',s',e5,e6,e7,z,z'⟩;exact⟨v,e1,a',dx,fs,e2,e3,e4,p',d',b',s',e5,e6,e7,λ y H' z1 z2=>h _ _ (z y H' z1 z2),z'⟩
 ·rintro ys σ H2 ⟨v0,c,rfl,hy,hc,Hy,Iq,kp⟩;rw [AM] at hc;rcases k with⟨_,k⟩|⟨h,_⟩
  ·exact k l H2 kp
  ·omega
structure Rds (K:Frag)(mg:Str->Option FS)(cB:FR):Prop where
 X:K21.Txt K mg
 room:∃f fd,'h' "need_room" hJ ["signs","size","end"] f fd
 lay:∃f fd,'h' "lay_copy" jE ["signs","back","size","end"] f fd
 ahead:∃f fd,'h' "signs_ahead" jn ["before"] f fd
 mB:mg "BadBody"=↑cB
 xB:ExC K cB
inductive Mn (cB:FR) (vs:List V) (H:Hp) (Q:VK) (E:XK):Prop
 |mk (a:_) (xs:_) (s:_) (e:_) (h0:vs=[.ref a,vN s,vN e]) (h1:H a=↥xs) (h2:(xs.length+s≤e->Q .non H)) (h3:(e<xs.length+s->E (.ref cB) none H)):Mn cB vs H Q E
def my (F:'h' "need_room" hJ ["signs","size","end"] f fd)(Z:Rds K mg cB):'a' (Lp P w) 31 f fd ["signs","size","end"] (Mn cB):=by
 refine F.F.okE oz ?_
 intro 'a';obtain⟨a,xs,s,e,rfl,ha,k1,k2⟩:=h;refine⟨_,ag (aM (aA dk (ao aI (ay ax Z7 Z.X.len Ay (aa (pv 0) ac)) (pv 1)) (pv 2) (aC _)) (ag (cj bu (hr.hd Z9) Z7 Z.mB Z.xB aX)) aF),?_⟩;refine⟨_,rfl,a,_,rfl,.inl (Gf.of ha),_,rfl,_,_,rfl,rfl,_,rfl,_,_,rfl,rfl,_,rfl,bc (λ h=>?_) (λ h=>?_)⟩
 ·have:=Am h;exact k2 (by omega)
 ·refine k1 ?_;rcases A2 e (xs.length+s) with q|q
  ·exact absurd (Ae (by omega)) h
  ·exact q
inductive Og (cB:FR) (vs:List V) (H:Hp) (Gj:VK) (E:XK):Prop
 |mk (l:_) (xs:_) (b:_) (z:_) (e:_) (h0:vs=[.ref l,vN b,vN z,vN e]) (h1:H l=↥xs) (h2:(e<xs.length+z\/b=0\/xs.length<b)) (h3:E (.ref cB) none H):Og cB vs H Gj E
def p7 (F:'h' "lay_copy" jE ["signs","back","size","end"] f fd)(Z:Rds K mg cB):'a' (Lp P w) 32 f fd ["signs","back","size","end"] (Og cB):=by
 obtain⟨_,_,Nr⟩:=Z.room;refine F.F.okE yK ?_
 intro 'a';obtain⟨l,xs,b,z,e,rfl,hl,hz,k⟩:=h;refine⟨_,ad (aE (ap (my Nr Z) hr Z7 Nr.m Nr.F.kp Nr.b .nil bu (aa (pv 0) (aa (pv 2) (aa (pv 3) ac)))))
  (ad (aM (PW.pt (jg (aA bE (pv 1) ae (aC _)) (fX (aA dk (pv 1) (ay ax Z7 Z.X.len Ay (aa (pv 0) ac)) (aC _))))) (ag (cj bu (hr.hd Z9) Z7 Z.mB Z.xB aX)) aF)
  bP),?_⟩
 refine⟨_,rfl,_,rfl,_,rfl,l,_,z,e,rfl,hl,λ hz1=>?_,λ _=>k⟩;refine⟨_,rfl,rfl,_,rfl,bc (λ h=>eQ k) (λ h=>?_)⟩;refine⟨_,rfl,_,rfl,l,_,rfl,.inl (Gf.of hl),_,_,rfl,rfl,_,rfl,bc (λ h=>k) (λ h2=>?_)⟩;rcases hz with hz|rfl|hz
 ·omega
 ·exact absurd (Ae rfl) h
 ·exact absurd (Ae (by omega)) h2
inductive Ob (C cN cB:FR) (vs:List V) (H:Hp) (Gj:VK) (E:XK):Prop
 |mk (o r d:FR) (x:V) (b:List Bool) (e:Nat) (z:Bool) (h0:vs=[.ref o,.ref r,vN e,x]) (h1:RB C H r d b) (h2:e≤64) (h3:Kt e 0 b z) (h4:∀H',GZ r H H'->E (.ref (if z then cB else cN)) none H'):Ob C cN cB vs H Gj E
def vL {P:FU}{w:FV}(F:Hb K "read" "RunWay.read" jt f fd)(Y:Rds K mg cB)(Z:Ni K mg C cN):'a' (Lp P w) 32 f fd Jac (Ob C cN cB):=by
 have X:=Z.Y.X;obtain⟨_,_,Tk,NP⟩:=Z.tkB;have GT:=NP P w base;have TR:=Z.T;obtain⟨_,_,Nm⟩:=Y.room;have GM:=my (P:=P) (w:=w) (base:=base) Nm Y;refine F.okE HQ ?_
 intro 'a';obtain⟨o,r,d,x,b,e,z,rfl,hR,G6,hk,k⟩:=h;refine⟨_,ad (aq (i:=4) HQ.nd (aH ac))
  (ad (cA CA (aA eO (ay ax Z7 X.len Ay (aa (pv 4) ac)) (pv 2) (aC _))
   (ad (aq (i:=5) HQ.nd (ao aI (aN (pv 1) TR.cl Tk.m GT hr Tk.b .nil bu (aa ae ac)) ae))
   (ad (aq (i:=6) HQ.nd (aN (pv 1) TR.cl Tk.m GT hr Tk.b .nil bu (aa ae ac)))
   (ad (aE (ap GM hr Z7 Nm.m Nm.F.kp Nm.b .nil bu (aa (pv 4) (aa (pv 5) (aa (pv 2) ac)))))
   (ag (aE (d8 Bc Ey PySem.F.type_list_extend jW (pv 4) (aa (ao cU (aH (aa (pv 6) ac)) (pv 5)) ac))))))))
  bP),?_⟩
 obtain⟨V3,t0,NA⟩:=hR.ob;obtain⟨_,Nd⟩:=hR.ls;have no:∀t,(fR d t).lookup ("take":Str)=none:=λ t=>dL _ _ Z8 Z8
 refine aw λ R1 g1=>?_
 refine⟨Z9,λ l nl=>g1 _ _ ?_⟩;clear g1;have Jk:l≠r:=(ai NA nl).symm;have JL:l≠d:=(ai Nd nl).symm;have s0:=ak (o:=.lst []) nl;refine⟨λ m σ H2=>∃v5 v6 xs b,m=e-xs.length/\Kt e xs.length b z/\σ=[↑o,↑r,some (vN e),some x,↑l,v5,v6]/\H2 l=↥xs/\RB C H2 r d b/\GZ r H H2,
  ⟨e,none,none,[],b,rfl,hk,rfl,af,hR.same s0,λ c o e _=>s0 _ _ e⟩,?_⟩
 rintro m σ H2 ⟨v5,v6,xs,b,rfl,hk,rfl,Hy,Iq,kp⟩;have F9:=hk.lt;refine⟨_,rfl,l,_,rfl,.inl (Gf.of Hy),_,rfl,_,_,rfl,rfl,_,rfl,bc (λ h=>?_) (λ h=>absurd (Ae (by omega)) h)⟩;clear h;refine⟨λ σ' H'=>∃m',m'<e-xs.length/\∃v5 v6 xs b,m'=e-xs.length/\Kt e xs.length b z/\σ'=[↑o,↑r,some (vN e),some x,↑l,v5,v6]/\H' l=↥xs/\RB C H' r d b/\GZ r H H',λ σ' H' z=>z,?_⟩;obtain⟨MT,t2,IW⟩:=Iq.ob;refine aw λ R2 g2=>?_
 refine⟨_,rfl,r,MT,_,rfl,IW,no _,r,d,b,6,rfl,Iq,Z9,λ h6 H3 Ic G4=>?_,λ h6=>?_⟩
 rotate_left
 ·cases hk with
  |o6=>exact k _ kp
  |o8 _ q=>omega
  |bad _ q=>omega
  |go _ q=>omega
 refine⟨_,_,rfl,rfl,g2 _ _ ?_⟩;clear g2;have e1:⇑(num (b.take 6))+1=⇑(num (b.take 6)+1):=rfl
 try dsimp only
 rw [e1];obtain⟨JJ,t3,HS⟩:=Ic.ob;refine aw λ R2 g2=>?_
 refine⟨_,rfl,r,JJ,_,rfl,HS,no _,r,d,_,8,rfl,Ic,Z9,λ h8 H4 JO IM=>g2 _ _ ?_,λ h8=>?_⟩
 rotate_left
 ·rw [Au] at h8;have YA:GZ r H H3:=λ c o e n=>G4 _ _ (kp _ _ e n) n
  cases hk with
  |o6=>omega
  |o8=>exact k _ YA
  |bad _ q=>omega
  |go _ q=>omega
 clear g2;rw [Au] at h8;have KC:=IM _ _ (G4 _ _ Hy Jk) Jk;have Ut:GZ r H H4:=λ c o e n=>IM _ _ (G4 _ _ (kp _ _ e n) n) n
 rw [Cn] at JO;refine aw λ R2 g2=>?_
 refine⟨_,rfl,_,rfl,_,rfl,l,_,num (b.take 6)+1,e,rfl,KC,λ hz=>g2 _ _ ?_,λ hz=>?_⟩
 rotate_left
 ·cases hk with
  |o6=>omega
  |o8=>omega
  |bad=>exact k _ Ut
  |go _ _ q=>omega
 clear g2;have ND:Kt e (xs.length+(num (b.take 6)+1)) (b.drop 14) z:=by
  cases hk with
  |o6=>omega
  |o8=>omega
  |bad _ _ q=>omega
  |go _ _ _ q=>exact q
 generalize num (b.take 6)+1=z6 at*;generalize num ((b.drop 6).take 8)=s at*;refine⟨_,rfl,.inl ⟨rfl,_,Gf.of KC⟩,_,rfl,(by show 1≤sizeLine;decide),λ l4 n4=>?_⟩;have s4:=ak (o:=.lst [vN s]) n4;have MS:(upd H4 l4 (.lst [vN s])) l4=↥[vN s]:=af;have Y5:=s4 _ _ KC;have Qv:=JO.same s4;have Ks:GZ r H (upd H4 l4 (.lst [vN s])):=λ c o e n=>s4 _ _ (Ut _ _ e n)
 generalize upd H4 l4 (.lst [vN s])=H5 at*;refine⟨_,rfl,l4,_,_,rfl,rfl,MS,by omega,by omega,dO (by show 1*_≤2000;omega),λ l6 n6=>?_⟩;rw [AM,K21.C.IB];have s6:=ak (o:=.lst (List.replicate z6 (vN s))) n6;refine⟨l,l6,_,_,rfl,rfl,s6 _ _ Y5,af,dO (by rw [Al];omega),_,?_,_,_,_,_,rfl,?_,rfl,af,(Qv.same s6).upd Jk JL,λ c o e n=>?_⟩
 ·rw [Ac,Al];have:=ND.lt;omega
 ·rw [Ac,Al];exact ND
 ·rw [aj (ai e nl)];exact s6 _ _ (Ks _ _ e n)
end K21.Ck
namespace QQ
open PySem
def rb {os:OsState}
  (hC:h.get? C=some (excClassObj nm q C N bs bm hdct sn sub ab col dd k0 k1 k2 k3 k5 newId)) (hD:h.get? D=some (excClassObj WE q' D N' X7 QD N2 Wr QH Ya QV P0 j0 j1 j2 j3 j5 newId'))
  (he:h.get? e=some oe) (Kg:oe.cls=.ref C) (Ho:QD.contains (.type "BaseException")=true) (hm:(Value.ref C::bm).contains (.ref D)=false) (ne:C≠D)
  (hq:Q false ⟨h,g,d,t,os⟩):wpAny M A (excMatches (.ref e) (.ref D)) Q E ⟨h,g,d,t,os⟩:=by
 have Qq:(Value.ref D::QD).contains (.type "BaseException")=true:=by rw [Eu,Ho,FM]
 have f:=tc_notTuple;unfold excMatches
 repeat (first|(with_reducible refine CC he ?_;rw [Kg])|with_reducible refine CC hD ?_|(with_reducible refine CD hD ?_;rw [Qq])|(with_reducible refine CD hC ?_;rw [hm])|wp_step)
 exact hq
end QQ
namespace L2
open PySem PySem.Spec PyProof.Rows QQ
def Sk (X:Cx)(C:FR)(hs:List ExceptHandler):Prop:=∀ea G F6 (σ:St) H s vs (rest:List ExceptHandler) (Q:Flow->FT->Prop) (E:FS->FT->Prop),Inv (cxHand X ea G) F6 σ H s->s.heap.get? ea=some (exO (.ref C) vs)->
 wpAny 'd' X.A (handleBy (.ref ea) X.env rest) Q E s->wpAny 'd' X.A (handleBy (.ref ea) X.env (hs++rest)) Q E s
def Sk.all {σ:St}(h:Sk X C hs)(I:Inv (cxHand X ea G) F6 σ H s)(ge:s.heap.get? ea=some (exO (.ref C) vs))
  (h0:wpAny 'd' X.A (handleBy (.ref ea) X.env []) Q E s):wpAny 'd' X.A (handleBy (.ref ea) X.env hs) Q E s:=by
 have:=h ea G F6 σ H s vs [] Q E I ge h0
 rwa [Bv] at this
def ig:Sk X C []:=λ _ _ _ _ _ _ _ _ _ _ _ _ h=>h
def iF (hg:Gl X x)(hm:X.mg x=↑D0)(hD:ExC X.K D0)(cC:ExC X.K C)(Hx:C≠D0)(Lx:mroIn X.K C (.ref D0)=some false)(hk:Sk X C hs)
  (hd:'e'):Sk X C (.ExceptHandler (some (.Name x np)) nm body Ij::hs):=by
 intro ea G F6 σ H s vs rest Q E I ge h;refine Fd (EM (cu I hg hm ?_ hd)) (by intro q;cases q);obtain⟨bm,N,nm,qn,bs,hdct,sn,sub,ab,col,dd,k0,k1,k2,k3,k5,Xf,Xs,_⟩:=eD cC;obtain⟨QD,N',WE,qn',X7,N2,Wr,QH,Ya,QV,P0,j0,j1,j2,j3,j5,SV,_,Tp⟩:=eD hD;have NV:(Value.ref C::bm).contains (.ref D0)=false:=by
  unfold mroIn at Lx;rw [Xs] at Lx;simpa using Lx
 have T'':=(Tp _ I.kIn).2;have gC:=I.kIn C _ Xf;have gD:=I.kIn D0 _ SV;have h':=hk ea G F6 σ H s vs rest Q E I ge h;obtain⟨Xl,gg,dr,tk,Wv⟩:=s;exact rb gC gD ge rfl (T''.hasType Z8) NV Hx h'
def gq {K:Frag}(eX:X=cxOf (Jo P w) P w K mg base N qual scope f cd A outer s₀ H₀ E)
    {hs rest:List ExceptHandler} (pre:List ExceptHandler) (hq:h₀::hs=pre++.ExceptHandler (some (.Name x np)) none (b₀::NY) Ij::rest) (hg:Gl X x) (hm:X.mg x=↑D0) (hD:ExC X.K D0) (hk:Sk X D0 pre)
  (hb:∀pn σ0 E',PSs (ma X pn σ0 E' λ c=>c=.none) body (tb σ0 E')) (hh:∀e G o us,G e=some (.frz o (.own e))->o.data=.fields us->us[2]?=some Value.none->PSs (iJ X e G E) (b₀::NY) th) (hd:'e'):
  PS X (.Try body (h₀::hs) [] [] pos) (zi D0 tb th):=by
 have HY:X.stack=X.env::X.outer:=by rw [eX];rfl
 have Je:X.env.frame=some X.env.locals:=by rw [eX];rfl
 have hX:X.ex=[]:=by rw [eX];rfl
 intro F6 s σ H D I h;refine oq HY Je hX (hb (X.pn++F6) σ _) I h ?_;rintro ea T _ _ H' s1 vs ts oT rfl- -⟨rfl,q⟩ F' I2 nE nT ge z2-neT- - -;rw [hq];have hf:X.A.frames=some (X.env::X.outer):=HY▸I2.ok.frames;have q:=q ea vs nE.h;have I3:=I2.hand nE ge z2 (.inl rfl);have hG:(upd X.H₀ ea (.frz (exO (.ref D0) vs) (.own ea))) ea=some (.frz (exO (.ref D0) vs) (.own ea)):=af;have uh:∀σ6 H6 s6,Inv (cxHand X ea (upd X.H₀ ea (.frz (exO (.ref D0) vs) (.own ea)))) F6 σ6 H6 s6->Inv X F6 σ6 H6 s6:=λ _ _ _ z=>Inv.unhand I2 nE z
 have nE0:JK X [] H' ea:=⟨nE.s0,nE.h,nE.loc,nE.cel,λ p hp=>nE.pin p (by simp at hp;exact Bm _ hp)⟩;have Zs:∀σ6 H6 s6,Inv (cxHand X ea (upd X.H₀ ea (.frz (exO (.ref D0) vs) (.own ea)))) [] σ6 H6 s6->Inv X [] σ6 H6 s6:=λ _ _ _ z=>Inv.unhand I2.unpinned nE0 z
 generalize hG3:upd X.H₀ ea (.frz (exO (.ref D0) vs) (.own ea))=G3 at*;generalize Rx:upd H' ea (.frz (exO (.ref D0) vs) (.own ea))=H3 at*;refine hk ea G3 F6 σ H3 _ vs _ _ _ I3 ge ?_;refine Fd (EM (cu I3 hg hm ?_ hd)) (by intro q;cases q);obtain⟨bm,N',nm,qn,bs,hdct,sn,sub,ab,col,dd,k0,k1,k2,k3,k5,SV,_,Tp⟩:=eD hD;have TT:=(Tp _ I2.kIn).2;obtain⟨Xl,gg,dr,tk,Wv⟩:=s1;refine ul (I2.kIn D0 _ SV) ge rfl (TT.hasType (by decide+kernel)) (codeAny_handlers_suite ?_);refine jy F' λ h4 F4 k4=>?_
 have WQ:JK (cxHand X ea G3) F6 H3 T:=⟨nT.s0,by rw [<-Rx,aj neT];exact nT.h,nT.loc,nT.cel,nT.pin⟩;have I4:=I3.landed (λ b hb=>by rw [As] at hb;rw [hb];exact WQ) (λ b o g hb _=>k4 b o g λ z=>hb (by simp [z])) (λ b o g hb=>⟨o.slots,k4 b o g λ z=>hb (by simp [z])⟩) (λ b o g=>by
  by_cases hb:b=T
  ·obtain⟨o',us,g',_⟩:=F4.rec T (by simp);exact⟨o',by rw [hb];exact g'⟩
  ·exact⟨o,k4 b o g hb⟩)
 refine Br (hh ea G3 _ vs hG rfl z2.1 F6 _ σ H3 D (Inv.rexe I4) q) (λ f s6 q6=>?_) λ x s6 z6=>?_
 ·cases f with
  |next=>obtain⟨σ6,H6,I6,q7⟩:=q6;exact⟨σ6,H6,uh _ _ _ (Inv.rexe I6),q7⟩
  |brk=>obtain⟨σ6,H6,I6,q7⟩:=q6;exact⟨σ6,H6,uh _ _ _ (Inv.rexe I6),q7⟩
  |cont=>obtain⟨σ6,H6,I6,q7⟩:=q6;exact⟨σ6,H6,uh _ _ _ (Inv.rexe I6),q7⟩
  |ret u=>obtain⟨v,σ6,H6,I6,r,q7⟩:=q6;exact⟨v,σ6,H6,uh _ _ _ (Inv.rexe I6),r,q7⟩
 ·obtain⟨e2,C2,t,G2,σ6,H6,rfl,I6,g2,n2,qE⟩:=z6;have hE6:H6 ea=some (.frz (exO (.ref D0) vs) (.own ea)):=I6.base.frzs _ _ _ hG;have J0:=Zs _ _ _ I6.unpinned;have ne2:ea≠e2:=λ z=>by have nh:=n2.h;rw [<-z,hE6] at nh;cases nh
  refine tL (λ s2 z=>by rw [eX];rw [eX] at z;exact z) hf (HY▸J0.stack) Je g2 rfl ⟨rfl,by show(6:Nat)≤6;decide⟩ λ h7 T7 F7 hT7 k7 Zw=>?_
  have n20:JK X [] H6 e2:=⟨n2.s0,n2.h,n2.loc,n2.cel,λ p hp=>n2.pin p (by simp at hp;exact Bm _ hp)⟩;have J:=J0.landed (λ b hb=>by rw [As] at hb;rw [hb];exact n20) (λ b o g hb hn=>k7 b o g (λ z=>hb (by simp [z])) (by rw [HY] at hn;exact hn)) (λ b o g hb=>Zw b o g λ z=>hb (by simp [z])) (λ b o g=>by
   by_cases hb:b=e2
   ·obtain⟨M6,g',_⟩:=F7;exact⟨_,by rw [hb];exact g'⟩
   ·obtain⟨sl,e'⟩:=Zw b o g hb;exact⟨_,e'⟩)
  have NI:H6 T7=none:=J0.hok.fresh hT7;have sT:X.s₀.heap.get? T7=none:=by
   cases z:X.s₀.heap.get? T7 with
   |none=>rfl
   |some o=>
    obtain⟨o',r⟩:=J0.base.there T7 o z (by rw [hX];simp);exact absurd (Ap (AA r) hT7) (BK _)
  have sA:=nE.s0;have s2':=n2.s0;have hz:=z2;have nh2:=n2.h;clear hb hh uh Zs I I2 I3 I4 I6 J0;subst eX;refine⟨e2,_,[e2,T7],H6,rfl,J.os,J.bare,J.base,J.hok,⟨.ref ea,trivial,F7,.inr ⟨ea,_,vs,rfl,ne2,hE6,rfl,hz.2,hz.1⟩,λ b e=>?_⟩,λ b hb=>?_,qE⟩
  ·cases e;exact sA
  ·rcases AB.mp hb with hb|hb
   ·subst hb;exact⟨s2',nh2⟩
   ·rw [As] at hb;subst hb;exact⟨sT,NI⟩
def yg (C:FR)(E:XK)(tb:St->XK->TS):TS:=λ D σ H=>
 tb σ (λ cls _ H'=>cls=.ref C/\E cls none H') D σ H
def mH {D':FS->Prop}{K:Frag}(eX:X=cxOf (Iu D' P w) P w K mg base N qual scope f cd A outer s₀ H₀ E)
     (cC:ExC X.K C) (hk:Sk X C (h₀::hs))
  (hb:∀pn σ0 E',PSs (ma X pn σ0 E' D') body (tb σ0 E')):
  PS X (.Try body (h₀::hs) [] [] pos) (yg C E tb):=by
 have HY:X.stack=X.env::X.outer:=by rw [eX];rfl
 have Je:X.env.frame=some X.env.locals:=by rw [eX];rfl
 have hX:X.ex=[]:=by rw [eX];rfl
 intro F6 s σ H D I h;refine oq HY Je hX (hb (X.pn++F6) σ _) I h ?_;rintro ea T _ c H' s1 vs ts oT dc bk bn ⟨rfl,q⟩ F' I2 nE nT ge z2 v1 neT gT dT zT;obtain⟨G,RT,X9,Vh⟩:=I2.ready ⟨bk,bn⟩;have Q7:JK {X with H₀:=G} F6 H' ea:=⟨nE.s0,nE.h,nE.loc,nE.cel,nE.pin⟩;have I3:=RT.hand Q7 ge z2 X9;have uh:∀σ6 H6 s6,Inv (cxHand X ea (upd G ea (.frz (exO (.ref C) vs) (.own ea)))) F6 σ6 H6 s6->Inv X F6 σ6 H6 s6:=λ _ _ _ z=>Vh _ _ _ (Inv.unhand RT Q7 z)
 generalize hG3:upd G ea (.frz (exO (.ref C) vs) (.own ea))=G3 at*;generalize Rx:upd H' ea (.frz (exO (.ref C) vs) (.own ea))=H3 at*;obtain⟨Xl,gg,dr,tk,Wv⟩:=s1;refine hk.all I3 ge (wpAny_handleBy_nil ?_);refine lJ ⟨vs,oT,ts,ge,z2,v1,neT,gT,dT,zT⟩ λ h3 v' F3 k3 t3=>?_
 have J3:=I2.landed (λ b hb=>by rw [As] at hb;rw [hb];exact nT) (λ b o g hb _=>k3 b o g λ z=>hb (by simp [z])) (λ b o g hb=>⟨o.slots,k3 b o g λ z=>hb (by simp [z])⟩) t3;have X8:∀b,c=.ref b->X.s₀.heap.get? b=none:=λ b e=>(bn b e).s0
 have sE:=nE.s0;have hE:=nE.h;have nE2:=nE;clear hb I I2 RT I3 uh Vh bn Q7 hk;subst eX;show wpAny (model P w) _ (leaving _ (.ref ea)) _ _ _;refine kC J3.ok.frames J3.stack rfl F3 λ h4 T4 F4 KA g3 g4 g5=>?_
 have J4:=J3.landed (λ b hb=>by
  rcases AB.mp hb with z|z
  ·rw [z];exact nE2
  ·rw [As.mp z];exact nT) g3 g4 g5
 refine⟨ea,_,[ea,T4],H',rfl,J4.os,J4.bare,J4.base,J4.hok,⟨c,dc,F4,bk,X8⟩,λ b hb=>?_,q⟩;rcases AB.mp hb with hb|hb
 ·rw [hb];exact⟨sE,hE⟩
 ·rw [As.mp hb];rcases KA with z|z
  ·rw [z];exact⟨nT.s0,nT.h⟩
  ·refine⟨?_,J3.hok.fresh z⟩;cases y:s₀.heap.get? T4 with
   |none=>rfl
   |some o=>
    obtain⟨o',r⟩:=J3.base.there T4 o y (by simp [cxOf]);exact absurd (Ap (AA r) z) (BK _)
end L2
namespace K21.Ck
open PySem L2 QQ W17 W16 BP K21.M
seal PE PA PS PSs PT PW PG PI
def GZ.tr (a:GZ r H H')(b:GZ r H' RU):GZ r H RU:=λ c o e n=>b c o (a c o e n) n
def GZ.s (a:GZ r H H')(b:C' H' RU):GZ r H RU:=λ c o e n=>b c o (a c o e n)
def GZ.of (a:C' H H'):GZ r H H':=λ c o e _=>a c o e
def GZ.up (a:GZ r H H')(n:H l=none):GZ r H (upd H' l o):=λ c o e z=>by rw [aj (ai e n)];exact a c o e z
inductive Mt (C cN cB:FR) (vs:List V) (H:Hp) (Gj:VK) (E:XK):Prop
 |mk (o:_) (r:_) (d:_) (x:_) (W:_) (b:_) (n:_) (z:_) (h0:vs=[.ref o,.ref r,vN n,x]) (h1:RB C H r d b) (h2:Hd H x W) (h3:n≤64) (h4:W.length≤192) (h5:JW (W.length+n) W.length b z) (h6:∀H',GZ r H H'->E (.ref (if z then cB else cN)) none H'):Mt C cN cB vs H Gj E
def ut (F:Hb K "read" "CopyWay.read" gR f fd)(Y:Rds K mg cB)(Z:Ni K mg C cN):'a' (Lp P w) 33 f fd Jac (Mt C cN cB):=by
 have X:=Z.Y.X;obtain⟨_,_,Tk,NP⟩:=Z.tkB;have GT:=NP P w base;have TR:=Z.T;obtain⟨_,_,La⟩:=Y.lay;obtain⟨_,_,Ao⟩:=Y.ahead;have GA:=iR (P:=P) (w:=w) (base:=base) Ao X;have GL:=p7 (P:=P) (w:=w) (base:=base) La Y;obtain⟨tl,hle⟩:=X.least;refine F.okE HM ?_
 intro 'a';obtain⟨o,r,d,x,W,b,n,z,rfl,hR,hx,G6,hW,hk,k⟩:=h;have IZ:Ge 31 _:=hr.mono Z9;have Gz:Ge 1 _:=hr.mono Z9;refine⟨_,ad (aq (i:=4) HM.nd (ap GA Gz Z7 Ao.m Ao.F.kp Ao.b .nil az (aa (pv 3) ac)))
  (ad (aq (i:=5) HM.nd (ay ax Z7 X.len Ay (aa (pv 4) ac)))
  (ad (aq (i:=6) HM.nd (ao aI (pv 5) (pv 2)))
  (ad (cA CA (aA eO (ay ax Z7 X.len Ay (aa (pv 4) ac)) (pv 6) (aC _))
   (ag (aM (aA bE (aN (pv 1) TR.cl Tk.m GT IZ Tk.b .nil bu (aa ae ac)) ae (aC _))
    (ag (aE (d8 Bc Bp By bO (pv 4) (aa (aN (pv 1) TR.cl Tk.m GT IZ Tk.b .nil bu (aa ae ac)) ac))))
    (ad (aq (i:=7) HM.nd (aN (pv 1) TR.cl Tk.m GT IZ Tk.b .nil bu (aa ae ac)))
    (ad (aq (i:=8) HM.nd (ao aI (aN (pv 1) TR.cl Tk.m GT IZ Tk.b .nil bu (aa ae ac)) (aJ (v:=.int 3) Z7 hle ⟨tl,rfl⟩)))
    (ag (aE (ap GL hr Z7 La.m La.F.kp La.b .nil bu (aa (pv 4) (aa (pv 7) (aa (pv 8) (aa (pv 6) ac))))))))))))
  bP))),?_⟩
 obtain⟨V3,t0,NA⟩:=hR.ob;obtain⟨_,Nd⟩:=hR.ls;have no:∀t,(fR d t).lookup ("take":Str)=none:=λ t=>dL _ _ Z8 Z8
 refine aw λ R1 g1=>?_
 refine⟨_,rfl,x,W,rfl,hx,λ l nl=>g1 _ _ ?_⟩;clear g1;have Jk:l≠r:=(ai NA nl).symm;have JL:l≠d:=(ai Nd nl).symm;have s0:=ak (o:=.lst (W.map vN)) nl;refine aw λ R1 g1=>?_
 refine⟨_,rfl,l,_,rfl,.inl (Gf.of af),g1 _ _ ?_⟩;clear g1
 try dsimp only
 rw [Aa];refine aw λ R1 g1=>?_
 refine⟨_,rfl,_,rfl,_,_,rfl,rfl,g1 _ _ ?_⟩;clear g1;have e0:(W.length:Int)+(n:Int)=⇑(W.length+n):=rfl
 try dsimp only
 rw [e0];generalize he:W.length+n=e at*;refine⟨λ m σ H2=>∃v7 v8 xs b,m=e-xs.length/\JW e xs.length b z/\σ=[↑o,↑r,some (vN n),some x,↑l,some (vN W.length),some (vN e),v7,v8]/\H2 l=↥xs/\RB C H2 r d b/\GZ r H H2,
  ⟨_,none,none,W.map vN,b,rfl,by rw [Aa];exact hk,rfl,af,hR.same s0,.of s0⟩,?_⟩
 rintro m σ H2 ⟨v7,v8,xs,b,rfl,hk,rfl,Hy,Iq,kp⟩;have F9:=hk.lt;refine⟨_,rfl,l,_,rfl,.inl (Gf.of Hy),_,rfl,_,_,rfl,rfl,_,rfl,bc (λ h=>?_) (λ h=>absurd (Ae (by lia)) h)⟩;clear h;refine⟨λ σ' H'=>∃m',m'<e-xs.length/\∃v7 v8 xs b,m'=e-xs.length/\JW e xs.length b z/\σ'=[↑o,↑r,some (vN n),some x,↑l,some (vN W.length),some (vN e),v7,v8]/\H' l=↥xs/\RB C H' r d b/\GZ r H H',λ σ' H' z=>z,?_⟩;obtain⟨MT,t2,IW⟩:=Iq.ob;refine⟨_,rfl,r,MT,_,rfl,IW,no _,r,d,b,1,rfl,Iq,Z9,λ h1 H3 Ic G4=>?_,λ h1=>?_⟩
 rotate_left
 ·cases hk with
  |o1=>exact k _ kp
  |s8 _ q=>lia
  |sg _ q=>lia
  |c8 _ q=>lia
  |c4 _ q=>lia
  |bad _ q=>lia
 obtain⟨JJ,t3,HS⟩:=Ic.ob;have Ir:=G4 _ _ Hy Jk;have G4:=kp.tr G4;have Ib:num (b.take 1)<2:=by
  have:=HB (b.take 1)
  rwa [Aq,Bu h1] at this
 refine⟨rfl,_,rfl,bc (λ h=>?_) (λ h=>?_)⟩
 ·have h0:num (b.take 1)=0:=Gr.mp (Am h);refine⟨_,rfl,.inl ⟨rfl,_,Gf.of Ir⟩,_,rfl,r,JJ,_,rfl,HS,no _,r,d,_,8,rfl,Ic,Z9,λ h8 H4 JO IM=>?_,λ h8=>?_⟩
  ·rw [Au] at h8;rw [Cn] at JO;have KC:=IM _ _ Ir Jk;have ND:JW e (xs.length+1) (b.drop 9) z:=by
    cases hk with
    |sg _ _ _ q=>exact q
    |o1|s8|c8|c4|bad=>lia
   refine⟨l,_,_,rfl,rfl,KC,bA (by lia),_,?_,_,_,_,_,rfl,?_,rfl,af,JO.upd Jk JL,(G4.tr IM).up nl⟩
   ·rw [Ac];show _-(_+1)<_;lia
   ·rw [Ac];exact ND
  ·rw [Au] at h8;cases hk with
   |s8=>exact k _ G4
   |o1|sg|c8|c4|bad=>lia
 ·have h0:num (b.take 1)=1:=by
   have:num (b.take 1)≠0:=λ q=>h (by rw [q];rfl)
   lia
  refine aw λ R2 g2=>?_
  refine⟨_,rfl,r,JJ,_,rfl,HS,no _,r,d,_,8,rfl,Ic,Z9,λ h8 H4 JO IM=>g2 _ _ ?_,λ h8=>?_⟩
  rotate_left
  ·rw [Au] at h8;cases hk with
   |c8=>exact k _ G4
   |o1|sg|s8|c4|bad=>lia
  clear g2;rw [Au] at h8;rw [Cn] at JO;obtain⟨TZ,t4,Oz⟩:=JO.ob;have KC:=IM _ _ Ir Jk;have IM:=G4.tr IM;refine aw λ R2 g2=>?_
  refine⟨_,rfl,r,TZ,_,rfl,Oz,no _,r,d,_,4,rfl,JO,Z9,λ h4 H5 Qv Ks=>?_,λ h4=>?_⟩
  rotate_left
  ·rw [Au] at h4;cases hk with
   |c4=>exact k _ IM
   |o1|sg|s8|c8|bad=>lia
  rw [Au] at h4;refine⟨_,_,rfl,rfl,g2 _ _ ?_⟩;clear g2;have e1:⇑(num ((b.drop (1+8)).take 4))+3=⇑(num ((b.drop 9).take 4)+3):=rfl
  try dsimp only
  rw [e1];cases hk with
  |bad _ _ _ q=>exact⟨_,rfl,_,rfl,_,rfl,_,rfl,l,xs,_,_,e,rfl,Ks _ _ KC Jk,q,k _ (IM.tr Ks)⟩
  |o1|sg|s8|c8|c4=>lia
inductive K4 (C cN:FR) (vs:List V) (H:Hp) (Q:VK) (E:XK):Prop
 |mk (r:_) (d:_) (b:_) (o:_) (h0:vs=[.ref r]) (h1:RB C H r d b) (h2:Jf [] 0 b o) (h3:(∀L b' l H',o=some (L,b')->H l=none->H' l=↥(L.map vN)->RB C H' r d b'->GZ r H H'->Q (.ref l) H')) (h4:(∀b' H',o=none->RB C H' r d b'->GZ r H H'->E (.ref cN) none H')):K4 C cN vs H Q E
def IA:y' ["reader","lengths","ahead","told"] ["reader"] (am oK):=Gw Z8
def kc (F:'h' "lengths_in_items" oK ["reader"] f fd)(Z:Ni K mg C cN):'a' (Lp P w) 32 f fd ["reader"] (K4 C cN):=by
 have X:=Z.Y.X;obtain⟨_,_,Tk,NP⟩:=Z.tkB;have GT:=NP P w base;have T:=Z.T;obtain⟨tm,hm⟩:=X.many;obtain⟨ta,Xv⟩:=X.again;obtain⟨tl,hle⟩:=X.leastA;refine F.F.okE IA ?_
 intro 'a';obtain⟨r,d,b,o,rfl,hR,hI,kQ,kE⟩:=h;refine⟨_,ad (aq (i:=1) IA.nd (aH ac))
  (ad (aq (i:=2) IA.nd ae)
  (ad (cA CA (aA eO (ay ax Z7 X.len Ay (aa (pv 1) ac)) (aJ (v:=.int 272) Z7 hm ⟨tm,rfl⟩) (aC _))
   (ad (aq (i:=3) IA.nd (aN (pv 0) T.cl Tk.m GT hr Tk.b .nil bu (aa ae ac)))
   (ag (aM (aA bE (pv 3) (aJ (v:=.int 7) Z7 Xv ⟨ta,rfl⟩) (aC _))
    (ag (aE (d8 Bc Ey PySem.F.type_list_extend jW (pv 1) (aa (ao cU (aH (aa (pv 2) ac)) (ao aI (aN (pv 0) T.cl Tk.m GT hr Tk.b .nil bu (aa ae ac)) (aJ (v:=.int 3) Z7 hle ⟨tl,rfl⟩))) ac))))
    (ad (aq (i:=2) IA.nd (pv 3))
    (ag (aE (d8 Bc Bp By bO (pv 1) (aa (pv 2) ac)))))))))
  (ag (aB (pv 1))))),?_⟩
 obtain⟨V3,t0,NA⟩:=hR.ob;obtain⟨_,Nd⟩:=hR.ls;have no:∀t,(fR d t).lookup ("take":Str)=none:=λ t=>dL _ _ Z8 Z8
 refine aw λ R1 g1=>?_
 refine⟨Z9,λ l nl=>g1 _ _ ?_⟩;clear g1;have Jk:l≠r:=(ai NA nl).symm;have JL:l≠d:=(ai Nd nl).symm;have s0:=ak (o:=.lst []) nl;refine aw λ R1 g1=>g1 _ _ ?_
 clear g1;refine aw λ R1 g1=>?_
 refine⟨λ m σ H2=>∃ah L v3 b,m=272-L.length/\L.length≤400/\Jf L ah b o/\σ=[↑r,↑l,some (vN ah),v3]/\H2 l=↥(L.map vN)/\RB C H2 r d b/\GZ r H H2,
  ⟨_,0,[],none,b,rfl,Z9,hI,rfl,af,hR.same s0,.of s0⟩,?_⟩
 rintro m σ H2 ⟨ah,L,v3,b,rfl,hL4,hI,rfl,Hy,Iq,kp⟩;refine⟨_,rfl,l,_,rfl,.inl (Gf.of Hy),_,_,rfl,rfl,_,rfl,bc (λ hc=>?_) (λ hc=>?_)⟩
 rotate_left
 ·have OB:272≤L.length:=by
   rcases A2 L.length 272 with q|q
   ·exact absurd (Ae (by rw [Aa];lia)) hc
   ·exact q
  refine g1 _ _ ⟨_,rfl,?_⟩;cases hI with
  |done _=>exact kQ _ _ l H2 rfl nl Hy Iq kp
  |e3|one|e6|rep=>lia
 clear g1;have F9:L.length<272:=by have:=Am hc;rw [Aa] at this;lia
 clear hc;refine⟨λ σ' H'=>∃m',m'<272-L.length/\∃ah L v3 b,m'=272-L.length/\L.length≤400/\Jf L ah b o/\σ'=[↑r,↑l,some (vN ah),v3]/\H' l=↥(L.map vN)/\RB C H' r d b/\GZ r H H',λ σ' H' z=>z,?_⟩;obtain⟨MT,t2,IW⟩:=Iq.ob;refine aw λ R2 g2=>?_
 refine⟨_,rfl,r,MT,_,rfl,IW,no _,r,d,b,3,rfl,Iq,Z9,λ h3 H3 Ic G4=>g2 _ _ ?_,λ h3=>?_⟩
 rotate_left
 ·cases hI with
  |e3=>exact kE _ H2 rfl Iq kp
  |done|one|e6|rep=>lia
 clear g2;have Ir:=G4 _ _ Hy Jk;have G4:=kp.tr G4;refine⟨_,rfl,rfl,_,rfl,bc (λ h7=>?_) (λ h7=>?_)⟩
 ·have h7:num (b.take 3)=7:=Gr.mp (Am h7);refine⟨_,rfl,.inl ⟨rfl,_,Gf.of Ir⟩,_,rfl,(by show 1≤sizeLine;decide),λ l4 n4=>?_⟩;have s4:=ak (o:=.lst [vN ah]) n4;have MS:(upd H3 l4 (.lst [vN ah])) l4=↥[vN ah]:=af;have JO:=Ic.same s4;have KC:=s4 _ _ Ir;have IM:=G4.s s4;generalize upd H3 l4 (.lst [vN ah])=H4 at*;obtain⟨TZ,t4,Oz⟩:=JO.ob;have n4r:l4≠r:=aT MS Oz 'f';refine⟨_,rfl,r,TZ,_,rfl,Oz,no _,r,d,_,6,rfl,JO,Z9,λ h6 H5 Qv Ks=>?_,λ h6=>?_⟩
  rotate_left
  ·rw [Au] at h6;cases hI with
   |e6=>exact kE _ H4 rfl JO IM
   |done|e3=>lia
   |one _ _ q=>exact absurd h7 q
   |rep=>lia
  rw [Au] at h6;rw [Cn] at Qv;have hb6:num ((b.drop 3).take 6)<64:=by
   have:=HB ((b.drop 3).take 6)
   rwa [Aq,Au,Bu h6] at this
  have XB:Jf (L++List.replicate (num ((b.drop 3).take 6)+3) ah) ah (b.drop 9) o:=by
   cases hI with
   |rep _ _ _ q=>exact q
   |done|e3|e6=>lia
   |one _ _ q=>exact absurd h7 q
  generalize num ((b.drop 3).take 6)=z6 at*;refine⟨_,_,rfl,rfl,l4,_,_,rfl,rfl,Ks _ _ MS n4r,by lia,by lia,dO (by show 1*_≤2000;lia),λ l6 n6=>?_⟩;have e1:((z6:Int)+3).toNat=z6+3:=rfl
  try dsimp only
  rw [e1,K21.C.IB];have s6:=ak (o:=.lst (List.replicate (z6+3) (vN ah))) n6;refine⟨l,l6,_,_,rfl,rfl,s6 _ _ (Ks _ _ KC Jk),af,dO (by rw [Aa,Al];lia),_,?_,ah,_,_,_,rfl,?_,XB,rfl,by rw [af,Aw,Em],(Qv.same s6).upd Jk JL,((IM.tr Ks).s s6).up nl⟩
  ·rw [Ac,Al];lia
  ·rw [Ac,Al];lia
 ·have h7:num (b.take 3)≠7:=λ z=>h7 (Ae (Gr.mpr z))
  have XB:Jf (L++[num (b.take 3)]) (num (b.take 3)) (b.drop 3) o:=by
   cases hI with
   |one _ _ _ q=>exact q
   |done|e3=>lia
   |e6 _ _ q=>exact absurd q h7
   |rep _ _ q=>exact absurd q h7
  generalize num (b.take 3)=y at*;refine⟨_,rfl,_,rfl,.inl ⟨rfl,_,Gf.of Ir⟩,_,rfl,l,_,_,rfl,rfl,Ir,bA (by rw [Aa];lia),_,?_,y,_,_,_,rfl,?_,XB,rfl,by rw [af,Aw];rfl,Ic.upd Jk JL,G4.up nl⟩
  ·rw [Ac];show 272-(_+1)<_;lia
  ·rw [Ac];show _+1≤_;lia
structure Apart (K:Frag)(a b:FR):Prop where
 ne:a≠b
 mro:mroIn K a (.ref b)=some false
structure NM (K:Frag)(mg:Str->Option FS)(C G cN cB cT cL cC:FR):Prop where
 Z:Ni K mg C cN
 Y:Rds K mg cB
 items:∃f fd,'h' "lengths_in_items" oK ["reader"] f fd
 table:∃f fd,'h' "take_table" eI ["reader"] f fd
 place:∃f fd,Me K C "place" "BitReader.place" lH Jah f fd
 go:∃f fd,Me K C "go" "BitReader.go" Vn ["self","place"] f fd
 M:K21.C.V9 K mg G
 mG:mg "CodeReader"=↑G
 init:∃f fd,Hb K "__init__" "CodeReader.__init__" kR f fd/\Binds K fd ["self","lengths"] []/\Mk K G f
 thing:∃f fd,Me K G "thing" "CodeReader.thing" oo ["self","reader"] f fd
 codesin:∃f fd,'h' "codes_in" iQ ["reader"] f fd
 thingin:∃f fd,'h' "thing_in" jC ["reader","codes"] f fd
 mT:mg "BadTable"=↑cT
 xT:ExC K cT
 mL:mg "BadLengths"=↑cL
 xL:ExC K cL
 mC:mg "BadCode"=↑cC
 xC:ExC K cC
 nt:Apart K cN cT
 nl:Apart K cN cL
 nc:Apart K cN cC
 lt:Apart K cL cT
def i4 {A B:'c'}(h:A.map vN=B.map vN):A=B:=by
 have:=Bx (List.map λ v=>match v with|V.int i=>i.toNat|_=>0) h;simpa [BO,Function.comp_def] using this
def GQ:y' ["reader","begin","lengths"] ["reader"] (am eI):=Gw Z8
inductive Oa (C cT:FR) (vs:List V) (H:Hp) (Q:VK) (E:XK):Prop
 |mk (r:_) (d:_) (b:_) (L:_) (b':_) (h0:vs=[.ref r]) (h1:RB C H r d b) (h2:Jf [] 0 b (some (L,b'))) (h3:((L.length=272/\∀l H',H l=none->H' l=↥(L.map vN)->RB C H' r d b'->GZ r H H'->Q (.ref l) H')\/(272<L.length/\∀H',GZ r H H'->E (.ref cT) none H'))):Oa C cT vs H Q E
def wy (F:'h' "take_table" eI ["reader"] f fd)(D:NM K mg C G cN cB cT cL cC):'a' (Lp P w) 33 f fd ["reader"] (Oa C cT):=by
 obtain⟨_,_,It⟩:=D.items;obtain⟨_,_,Pl⟩:=D.place;obtain⟨_,_,Go⟩:=D.go;obtain⟨_,_,W⟩:=D.Z.Y.whole;have X:=D.Z.Y.X;have T:=D.Z.T;have GP:=jj (P:=P) (w:=w) (base:=base) Pl.F T;have GG:=sJ (P:=P) (w:=w) (base:=base) Go.F W T X;obtain⟨tm,hm⟩:=X.many;refine F.F.okE GQ ?_
 intro 'a';obtain⟨r,d,b,L,b',rfl,hR,hI,k⟩:=h;have Gz:Ge 1 _:=hr.mono Z9;have IW:Ge 2 _:=hr.mono Z9;refine⟨_,ad (aq (i:=1) GQ.nd (cx (pv 0) T.cl Pl.m GP Gz Pl.b .nil az))
  (ad (kP (ag (aq (i:=2) GQ.nd (ap (kc It D.Z) hr Z7 It.m It.F.kp It.b .nil jU (aa (pv 0) ac)))))
  (ad (aM (aA dk (ay ax Z7 X.len Ay (aa (pv 2) ac)) (aJ (v:=.int 272) Z7 hm ⟨tm,rfl⟩) (aC _)) (ad (aE (aN (pv 0) T.cl Go.m GG IW Go.b .nil az (aa (pv 1) ac))) (ag (cj bu (hr.hd Z9) Z7 D.mT D.xT aX))) aF)
  (ag (aB (pv 2))))),?_⟩
 obtain⟨R,t,NJ,rfl⟩:=id hR;obtain⟨dx,hp⟩:=NJ.ob;have no:∀{m:Str} t,¬m="taken"->¬m="held"->(fR d t).lookup m=none:=λ t h1 h2=>dL _ _ h1 h2
 refine⟨_,rfl,r,dx,_,rfl,hp,no _ Z8 Z8,r,d,R,_,rfl,NJ,?_⟩;refine⟨_,rfl,r,d,_,_,rfl,hR,hI,λ L1 b1 l H2 eo nl Hy Iq kp=>?_,λ _ _ z=>nomatch z⟩;cases eo;refine⟨_,rfl,l,_,rfl,.inl (Gf.of Hy),_,_,rfl,rfl,_,rfl,bc (λ h=>?_) (λ h=>?_)⟩
 ·rcases k with⟨k0,_⟩|⟨_,k⟩
  ·have:=Am h;rw [Aa,k0] at this;exact absurd this (by decide)
  ·obtain⟨R',t',MR,_⟩:=Iq;obtain⟨MT,Hw⟩:=MR.ob;have WA:d≠r:=aT NJ.ls hp 'f';have eR:R'=R:=i4 (HO.lst.inj (AJ (MR.ls.symm.trans (kp _ _ NJ.ls WA))));exact⟨_,rfl,r,MT,_,rfl,Hw,no _ Z8 Z8,_,rfl,r,d,R',t',t,rfl,MR,by rw [eR];exact NJ.le,λ H3 Ic G4=>k H3 (kp.tr G4)⟩
 ·rcases k with⟨_,k⟩|⟨k0,_⟩
  ·exact⟨_,rfl,k l H2 nl Hy Iq kp⟩
  ·exact absurd (Ae (by rw [Aa];lia)) h
inductive N9 (C cN:FR) (vs:List V) (H:Hp) (Gj:VK) (E:XK):Prop
 |mk (r:_) (d:_) (b:_) (h0:vs=[.ref r]) (h1:RB C H r d b) (h2:Jf [] 0 b none) (h3:∀H',GZ r H H'->E (.ref cN) none H'):N9 C cN vs H Gj E
def vF (F:'h' "take_table" eI ["reader"] f fd)(D:NM K mg C G cN cB cT cL cC):'a' (Jo P w) 33 f fd ["reader"] (N9 C cN):=by
 obtain⟨_,_,It⟩:=D.items;obtain⟨_,_,Pl⟩:=D.place;obtain⟨_,_,Go⟩:=D.go;obtain⟨_,_,W⟩:=D.Z.Y.whole;have X:=D.Z.Y.X;have T:=D.Z.T;have GP:=jj (P:=P) (w:=w) (base:=base) Pl.F T;have GG:=sJ (P:=P) (w:=w) (base:=base) Go.F W T X;have GI:=kc (P:=P) (w:=w) (base:=base) It D.Z;refine F.F.okE GQ ?_
 intro 'a';obtain⟨r,d,b,rfl,hR,hI,k⟩:=h;have Gz:Ge 1 _:=hr.mono Z9;refine⟨_,ad (aq (i:=1) GQ.nd (cx (pv 0) T.cl Pl.m GP Gz Pl.b .nil az))
  (ad (gq rfl [] rfl Z7 D.Z.mN D.Z.xN ig (λ pn σ0 E'=>ag (aq (i:=2) GQ.nd (eZ GI hr Z7 It.m It.F.kp It.b .nil (eh rfl) (aa (pv 0) ac))))
   (λ e G o us h1 h2 h3=>ad (aE (aN (pv 0) T.cl Go.m GG (hr.hand Z9 Z9) Go.b .nil az (aa (pv 1) ac))) (ag (fq rfl h1 h2 h3 Z7 D.Z.mN D.Z.xN aX))))
  bP),?_⟩
 obtain⟨R,t,NJ,rfl⟩:=id hR;obtain⟨dx,hp⟩:=NJ.ob;have no:∀{m:Str} t,¬m="taken"->¬m="held"->(fR d t).lookup m=none:=λ t h1 h2=>dL _ _ h1 h2
 refine⟨_,rfl,r,dx,_,rfl,hp,no _ Z8 Z8,r,d,R,_,rfl,NJ,?_⟩;refine⟨rfl,_,rfl,r,d,_,_,rfl,hR,hI,λ _ _ _ _ z=>(nomatch z),λ b' H2 _ Iq kp=>?_⟩;refine⟨rfl,λ e vs he=>?_⟩;have s2:=ak (o:=.frz (exO (.ref cN) vs) (.own e)) he;obtain⟨R',t',MR,_⟩:=Iq.same s2;obtain⟨MT,Hw⟩:=MR.ob;have WA:d≠r:=aT NJ.ls hp 'f';have eR:R'=R:=i4 (HO.lst.inj (AJ (MR.ls.symm.trans (s2 _ _ (kp _ _ NJ.ls WA)))));exact⟨_,rfl,r,MT,_,rfl,Hw,no _ Z8 Z8,_,rfl,r,d,R',t',t,rfl,MR,by rw [eR];exact NJ.le,λ H3 Ic G4=>k H3 ((kp.s s2).tr G4)⟩
def iZ (cL:FR):Sp:=λ vs H _ E=>∃a L,vs=[.ref a]/\H a=↥(L.map vN)/\L.length=272/\(∀l∈L,l≤6)/\RO L/\∀H',C' H H'->E (.ref cL) none H'
def nJ (F:'h' "need_lengths" d5 Jae f fd)(D:NM K mg C G cN cB cT cL cC):'a' (Lp P w) 32 f fd Jae (iZ cL):=by
 obtain⟨T,⟨_,_,W⟩,⟨_,_,AW⟩,⟨_,_,Th⟩,⟨_,_,Ro⟩⟩:=D.M.Y;obtain⟨tm,hm⟩:=T.mlen;refine F.F.okE K21.C.Kb ?_
 intro 'b';obtain⟨a,L,rfl,hB,hl,hb,hN,k⟩:=h;refine⟨_,ad (aM (cv (bX (ap (S.JF Th AW W T) hr Z7 Th.m Th.F.kp Th.b .nil az (aa (pv 0) (aa (aJ (v:=.int 12) Z7 hm ⟨tm,rfl⟩) ac))))) (ag (cj bu (hr.hd Z9) Z7 D.mL D.xL aX)) aF)
  (ag (aM (aA dk (ap (K21.C.MB Ro T) hr Z7 Ro.m Ro.F.kp Ro.b .nil az (aa (pv 0) ac)) (ao dP ae (aJ (v:=.int 12) Z7 hm ⟨tm,rfl⟩)) (aC _)) (ag (cj bu (hr.hd Z9) Z7 D.mL D.xL aX)) aF)),?_⟩
 have QB:∀l∈L,l≤12:=λ l hl=>Ai (hb l hl) (by decide)
 rcases hN with h0|⟨h0,h1⟩
 ·exact⟨_,rfl,a,L,12,false,rfl,hB,QB,by lia,by lia,⟨λ z=>(nomatch z),λ z9=>by obtain⟨b,hb,h⟩:=z9;exact absurd h (by rw [h0 b hb];decide)⟩,_,rfl,eQ (k _ (C'.refl H))⟩
 ·refine⟨_,rfl,a,L,12,true,rfl,hB,QB,by lia,by lia,⟨λ _=>h0,λ _=>rfl⟩,_,rfl,cV ?_⟩;refine⟨_,rfl,a,L,rfl,hB,QB,by lia,λ H' s1=>?_⟩;refine⟨_,_,rfl,rfl,⟨Z9,Z9,Z9⟩,_,_,rfl,rfl,_,rfl,bc (λ _=>k _ s1) (λ h=>absurd (Ae ?_) h)⟩;have e:(1:Int)*2^(12:Int).toNat=4096:=Z9;rw [e];lia
def l7 (F:'h' "codes_of" fb Jae f fd)(D:NM K mg C G cN cB cT cL cC):'a' (Lp P w) 33 f fd Jae (iZ cL):=by
 obtain⟨_,_,N⟩:=D.M.need;refine F.F.okE K21.C.Gy ?_
 intro 'a';obtain⟨a,L,rfl,h⟩:=h;exact⟨_,ad (aE (ap (nJ N D) hr Z7 N.m N.F.kp N.b .nil bu (aa (pv 0) ac))) bP,_,rfl,a,L,rfl,h⟩
inductive K6 (G cL:FR) (vs:List V) (H:Hp) (Gj:VK) (E:XK):Prop
 |mk (p:_) (dx:_) (a:_) (L:_) (h0:vs=[.ref p,.ref a]) (h1:H p=some (.ins G dx [])) (h2:H a=↥(L.map vN)) (h3:L.length=272) (h4:(∀l∈L,l≤6)) (h5:RO L) (h6:∀H',GZ p H H'->E (.ref cL) none H'):K6 G cL vs H Gj E
def qZ (F:Hb K "__init__" "CodeReader.__init__" kR f fd)(D:NM K mg C G cN cB cT cL cC):'a' (Lp P w) 34 f fd ["self","lengths"] (K6 G cL):=by
 obtain⟨_,_,O⟩:=D.M.cof;have T:=D.M.R;refine F.okE K21.C.HN ?_
 intro 'a';obtain⟨p,dx,a,L,rfl,hp,ha,hl,h6,hN,k⟩:=h;refine⟨_,ad (cF (pv 0) gN rfl) (ad (cF (pv 0) gN rfl)
  (ag (bp CA rfl (iz Z7 D.M.Y.X.enum (aa (ap (l7 O D) hr Z7 O.m O.F.kp O.b .nil bu (aa (pv 1) ac)) ac)) (dR rfl (bh (aG (i:=2) K21.C.HN.nd) (bh (aG (i:=3) K21.C.HN.nd) df))) bP))),?_⟩
 intro d nd;have Iv:p≠d:=ai hp nd;refine⟨_,rfl,p,G,dx,[],rfl,(by rw [aj Iv];exact hp),T.cl,T.nT,(by show 0<1000;decide),?_⟩;have b1:GZ p H (upd (upd H d (.dT [])) p (.ins G dx (putF "things" (.ref d) []))):=λ c o e n=>by rw [aj n,aj (ai e nd)];exact e
 have Kw:(upd (upd H d (.dT [])) p (.ins G dx (putF "things" (.ref d) []))) p=some (.ins G dx (putF "things" (.ref d) [])):=af;generalize upd (upd H d (.dT [])) p (.ins G dx (putF "things" (.ref d) []))=H1 at*;intro e ne;have Pw:p≠e:=ai Kw ne;refine⟨_,rfl,p,G,dx,_,rfl,(by rw [aj Pw];exact Kw),T.cl,T.nB,(by show 1<1000;decide),?_⟩;have b2:GZ p H (upd (upd H1 e (.dT [])) p (.ins G dx (putF "beginnings" (.ref e) (putF "things" (.ref d) [])))):=λ c o e' n=>by rw [aj n,aj (ai (b1 _ _ e' n) ne)];exact b1 _ _ e' n
 have Ss:a≠p:=aT ha hp 'f';exact⟨_,rfl,a,L,rfl,b2 _ _ ha Ss,hl,h6,hN,λ H' s=>k _ (b2.s s)⟩
inductive J' (C G cN cB:FR) (vs:List V) (H:Hp) (Q:VK) (E:XK):Prop
 |mk (r:_) (d:_) (b:_) (h0:vs=[.ref r]) (h1:RB C H r d b) (h2:((Jf [] 0 b none/\∀H',GZ r H H'->E (.ref cN) none H')\/∃L b',Jf [] 0 b (some (L,b'))/\(((272<L.length\/(L.length=272/\(∀l∈L,l≤6)/\RO L))/\∀H',GZ r H H'->E (.ref cB) none H')\/(L.length=272/\C9.Good L/\∀p dp ep H',H p=none->H dp=none->H ep=none->RB C H' r d b'->K21.C.Hk G H' p dp ep L->GZ r H H'->Q (.ref p) H')))):J' C G cN cB vs H Q E
def tP (k:GZ r H H')(n:H' a=none)(hr:∃o,H' r='g'):H a=none:=by
 cases e:H a with
 |none=>rfl
 |some o=>
  by_cases z:a=r
  ·obtain⟨o',h⟩:=hr;rw [z,h] at n;cases n
  ·rw [k _ _ e z] at n;cases n
def oF (F:'h' "codes_in" iQ ["reader"] f fd)(D:NM K mg C G cN cB cT cL cC):'a' (Jo P w) 36 f fd ["reader"] (J' C G cN cB):=by
 obtain⟨_,_,Ta⟩:=D.table;obtain⟨_,_,FI,bI,MI⟩:=D.init;have GN:=vF (P:=P) (w:=w) (base:=base) Ta D;have GT:=wy (P:=P) (w:=w) (base:=base) Ta D;have GE:=qZ (P:=P) (w:=w) (base:=base) FI D;refine F.F.okE qP ?_
 intro 'a';obtain⟨r,d,b,rfl,hR,h⟩:=h;have JP:Ge 33 _:=hr.mono Z9;rcases h with⟨hI,k⟩|⟨L,b',hI,⟨h,k⟩|⟨hl,hG,k⟩⟩
 ·refine⟨_,ag (mH rfl D.Z.xN (iF Z7 D.mT D.xT D.Z.xN D.nt.ne D.nt.mro (iF Z7 D.mL D.xL D.Z.xN D.nl.ne D.nl.mro ig))
   (λ pn σ0 E'=>ag (aB (iU MI GE hr Z7 D.mG bI .nil (eh rfl) (aa (eZ GN JP Z7 Ta.m Ta.F.kp Ta.b .nil (eh rfl) (aa (pv 0) ac)) ac))))),?_⟩
  exact⟨rfl,rfl,_,rfl,r,d,b,rfl,hR,hI,λ H' kp=>⟨rfl,k H' kp⟩⟩
 ·rcases h with h|⟨hl,h6,hN⟩
  ·refine⟨_,ag (gq rfl [] rfl Z7 D.mT D.xT ig
    (λ pn σ0 E'=>ag (aB (iU MI GE hr Z7 D.mG bI .nil (eh rfl) (aa (eZ GT JP Z7 Ta.m Ta.F.kp Ta.b .nil (eh rfl) (aa (pv 0) ac)) ac))))
    (λ e G o us h1 h2 h3=>ag (fq rfl h1 h2 h3 Z7 D.Y.mB D.Y.xB aX))),?_⟩
   exact⟨rfl,rfl,_,rfl,r,d,b,L,b',rfl,hR,hI,.inr ⟨h,λ H' kp=>⟨rfl,λ e vs he=>k _ (kp.s (ak he))⟩⟩⟩
  ·refine⟨_,ag (gq rfl [_] rfl Z7 D.mL D.xL (iF Z7 D.mT D.xT D.xL D.lt.ne D.lt.mro ig)
    (λ pn σ0 E'=>ag (aB (iU MI GE hr Z7 D.mG bI .nil (eh rfl) (aa (eZ GT JP Z7 Ta.m Ta.F.kp Ta.b .nil (eh rfl) (aa (pv 0) ac)) ac))))
    (λ e G o us h1 h2 h3=>ag (fq rfl h1 h2 h3 Z7 D.Y.mB D.Y.xB aX))),?_⟩
   refine⟨rfl,rfl,_,rfl,r,d,b,L,b',rfl,hR,hI,.inl ⟨hl,λ l H1 nl TV Ru kp x dx nx WL _=>?_⟩⟩;have s1:=dq (C:=G) nx WL;refine⟨x,dx,l,L,rfl,af,s1 _ _ TV,hl,h6,hN,λ H2 Q9=>⟨rfl,λ e vs he=>k _ λ c o e' n=>ak he _ _ (Q9 _ _ (s1 _ _ (kp _ _ e' n)) (ai (kp _ _ e' n) nx))⟩⟩
 ·refine⟨_,ag (kP (ag (aB (pW MI (K21.C.Ow FI D.M) hr Z7 D.mG bI .nil az (aa (ap GT JP Z7 Ta.m Ta.F.kp Ta.b .nil jU (aa (pv 0) ac)) ac))))),?_⟩;refine⟨_,rfl,r,d,b,L,b',rfl,hR,hI,.inl ⟨hl,λ l H1 nl TV Ru kp x dx nx WL _=>?_⟩⟩;have s1:=dq (C:=G) nx WL;obtain⟨dx1,t1,Gz⟩:=Ru.ob;refine⟨x,dx,l,L,rfl,af,s1 _ _ TV,hG,λ dp ep H2 OR Q6 hC Q9=>⟨rfl,?_⟩⟩;have kk:GZ r H H2:=λ c o e' n=>Q9 _ _ (s1 _ _ (kp _ _ e' n)) (ai (kp _ _ e' n) nx)
  have nn:∀{a},H1 a=none->H a=none:=λ n=>tP kp n ⟨_,Gz⟩
  exact k x dp ep H2 (nn nx) (nn (none_of s1 OR)) (nn (none_of s1 Q6)) ((Ru.same s1).keep λ c o e hc=>Q9 _ _ e (by
   rintro rfl;rcases hc with z|z
   ·rw [z,Gz] at nx;cases nx
   ·obtain⟨_,VT⟩:=Ru.ls;rw [z,VT] at nx;cases nx)) hC kk
def zX (C:FR)(H:Hp)(r d:FR)(b:List Bool)(Q:VK)(E:XK)(cN cB:FR):C10.Res->Prop
 | .thing q s=>∀H',RB C H' r d (b.drop s)->GZ r H H'->Q (vN q) H'
 | .bad=>∀H',GZ r H H'->E (.ref cB) none H'
 | .none=>∀H',GZ r H H'->E (.ref cN) none H'
def qO (C G cN cB:FR):Sp:=λ vs H Q E=>∃(p dp ep r d:FR) (b:List Bool) (L:List Nat) (res:C10.Res),vs=[.ref r,.ref p]/\K21.C.Hk G H p dp ep L/\C9.Good L/\RB C H r d b/\C10.Due L b res/\zX C H r d b Q E cN cB res
def oi {P:FU}(F:'h' "thing_in" jC ["reader","codes"] f fd)(D:NM K mg C G cN cB cT cL cC):'a' (Jo P w) 33 f fd ["reader","codes"] (qO C G cN cB):=by
 obtain⟨_,_,Th⟩:=D.thing;have Z:=D.Z;have GT:=K21.C.Ov (P:=P) (w:=w) (base:=base) Th.F D.M.R ⟨Z.Y.X,Z.Y.whole,Z.size,Z.ones,Z.bits,Z.take,Z.left,D.place,D.go,Z.T⟩ ⟨Z.mN,Z.xN,D.mC,D.xC⟩;refine F.F.okE si ?_
 intro 'a';obtain⟨p,dp,ep,r,d,b,L,res,rfl,hC,hG,⟨R,t,hR,rfl⟩,hD,k⟩:=h;obtain⟨dx,hp⟩:=hC.ob;cases res with
 |thing q s=>
  refine⟨_,ag (kP (ag (aB (aN (pv 1) D.M.R.cl Th.m GT hr Th.b .nil jU (aa (pv 0) ac))))),?_⟩;exact⟨_,rfl,p,dx,_,rfl,hp,K21.C.Mb _ _ Z8 Z8,_,rfl,p,dp,ep,r,d,L,R,t,_,rfl,hC,hG,hR,hD,λ H' MR kp=>k H' ⟨R,t+s,MR,by rw [Cn]⟩ kp⟩
 |none=>
  refine⟨_,ag (mH rfl Z.xN (iF Z7 D.mC D.xC Z.xN D.nc.ne D.nc.mro ig) (λ pn σ0 E'=>ag (aB (eW (pv 1) D.M.R.cl Th.m GT hr Th.b .nil (eh rfl) (aa (pv 0) ac))))),?_⟩;exact⟨rfl,_,rfl,p,dx,_,rfl,hp,K21.C.Mb _ _ Z8 Z8,_,rfl,p,dp,ep,r,d,L,R,t,_,rfl,hC,hG,hR,hD,λ H' MR kp=>⟨rfl,k H' kp⟩⟩
 |bad=>
  refine⟨_,ag (gq rfl [] rfl Z7 D.mC D.xC ig (λ pn σ0 E'=>ag (aB (eW (pv 1) D.M.R.cl Th.m GT hr Th.b .nil (eh rfl) (aa (pv 0) ac))))
   (λ e G o us h1 h2 h3=>ag (fq rfl h1 h2 h3 Z7 D.Y.mB D.Y.xB aX))),?_⟩
  exact⟨rfl,_,rfl,p,dx,_,rfl,hp,K21.C.Mb _ _ Z8 Z8,_,rfl,p,dp,ep,r,d,L,R,t,_,rfl,hC,hG,hR,hD,λ H' MR kp=>⟨rfl,λ e vs he=>k _ (GZ.s kp (ak he))⟩⟩
inductive K0 (C cN cB:FR) (vs:List V) (H:Hp) (Gj:VK) (E:XK):Prop
 |mk (o:_) (r:_) (d:_) (x:_) (W:_) (b:_) (n:_) (z:_) (h0:vs=[.ref o,.ref r,vN n,x]) (h1:RB C H r d b) (h2:Hd H x W) (h3:n≤64) (h4:W.length≤192) (h5:RN (W.length+n) W.length b z) (h6:∀H',GZ r H H'->E (.ref (if z then cB else cN)) none H'):K0 C cN cB vs H Gj E
def _root_.K21.C.Hk.but2 (h:K21.C.Hk G H p d e L)(h':RB C H r g b)(s:GZ r H H'):K21.C.Hk G H' p d e L:=by
 obtain⟨R,t,h',_⟩:=h';exact h.but h' s
def qC (F:Hb K "read" "ShareWay.read" kI f fd)(D:NM K mg C G cN cB cT cL cC):'a' (Jo P w) 37 f fd Jac (K0 C cN cB):=by
 have Z:=D.Z;have Y:=D.Y;have X:=Z.Y.X;obtain⟨_,_,Tk,NP⟩:=Z.tkB;have GT:=(NP P w base).up;have TR:=Z.T;obtain⟨_,_,La⟩:=Y.lay;obtain⟨_,_,Ao⟩:=Y.ahead;obtain⟨_,_,Ci⟩:=D.codesin;obtain⟨_,_,Ti⟩:=D.thingin;have GA:=iR (P:=P) (w:=w) (base:=base) Ao X;have GL:=(p7 (P:=P) (w:=w) (base:=base) La Y).up;have GC:=oF (P:=P) (w:=w) (base:=base) Ci D;have GI:=oi (P:=P) (w:=w) (base:=base) Ti D;obtain⟨tl,hle⟩:=X.least;obtain⟨tf,hfi⟩:=X.first;refine F.okE Ha ?_
 intro 'a';obtain⟨o,r,d,x,W,b,n,z,rfl,hR,hx,G6,hW,hk,k⟩:=h;have JP:Ge 33 _:=hr.mono Z9;have Pe:Ge 32 _:=hr.mono Z9;have IZ:Ge 31 _:=hr.mono Z9;have Gz:Ge 1 _:=hr.mono Z9;refine⟨_,ad (aq (i:=4) Ha.nd (ap GA Gz Z7 Ao.m Ao.F.kp Ao.b .nil az (aa (pv 3) ac)))
  (ad (aq (i:=5) Ha.nd (ay ax Z7 X.len Ay (aa (pv 4) ac)))
  (ad (aq (i:=6) Ha.nd (ao aI (pv 5) (pv 2)))
  (ad (aq (i:=7) Ha.nd (ap GC hr Z7 Ci.m Ci.F.kp Ci.b .nil bu (aa (pv 1) ac)))
  (ad (cA CA (aA eO (ay ax Z7 X.len Ay (aa (pv 4) ac)) (pv 6) (aC _))
   (ad (aq (i:=8) Ha.nd (ap GI JP Z7 Ti.m Ti.F.kp Ti.b .nil bu (aa (pv 1) (aa (pv 7) ac))))
   (ag (aM (aA eO (pv 8) (aJ (v:=.int 256) Z7 hfi ⟨tf,rfl⟩) (aC _))
    (ag (aE (d8 Bc Bp By bO (pv 4) (aa (pv 8) ac))))
    (ad (aq (i:=9) Ha.nd (aN (pv 1) TR.cl Tk.m GT IZ Tk.b .nil bu (aa ae ac)))
    (ag (aE (ap GL Pe Z7 La.m La.F.kp La.b .nil bu (aa (pv 4) (aa (pv 9) (aa (ao aI (ao bd (pv 8) (aJ (v:=.int 256) Z7 hfi ⟨tf,rfl⟩)) (aJ (v:=.int 3) Z7 hle ⟨tl,rfl⟩)) (aa (pv 6) ac))))))))))))
  bP)))),?_⟩
 obtain⟨V3,t0,NA⟩:=hR.ob;obtain⟨_,Nd⟩:=hR.ls;have no:∀t,(fR d t).lookup ("take":Str)=none:=λ t=>dL _ _ Z8 Z8
 refine aw λ R1 g1=>?_
 refine⟨_,rfl,x,W,rfl,hx,λ l nl=>g1 _ _ ?_⟩;clear g1;have Jk:l≠r:=(ai NA nl).symm;have JL:l≠d:=(ai Nd nl).symm;have s0:=ak (o:=.lst (W.map vN)) nl;have Rz:(upd H l (.lst (W.map vN))) l=↥(W.map vN):=af;have hR0:=hR.same s0;have Sw:GZ r H (upd H l (.lst (W.map vN))):=.of s0;generalize upd H l (.lst (W.map vN))=H0 at*;refine aw λ R1 g1=>?_
 refine⟨_,rfl,l,_,rfl,.inl (Gf.of Rz),g1 _ _ ?_⟩;clear g1
 try dsimp only
 rw [Aa];refine aw λ R1 g1=>?_
 refine⟨_,rfl,_,rfl,_,_,rfl,rfl,g1 _ _ ?_⟩;clear g1;have e0:(W.length:Int)+(n:Int)=⇑(W.length+n):=rfl
 try dsimp only
 rw [e0];generalize he:W.length+n=e at*;refine aw λ R1 g1=>?_
 refine⟨_,rfl,r,d,b,rfl,hR0,?_⟩;cases hk with
 |tno hI=>exact .inl ⟨hI,λ H' kp=>k _ (Sw.tr kp)⟩
 |tbad hI hl=>exact .inr ⟨_,_,hI,.inl ⟨.inl hl,λ H' kp=>k _ (Sw.tr kp)⟩⟩
 |lbad hI hl h6 hN=>exact .inr ⟨_,_,hI,.inl ⟨.inr ⟨hl,h6,hN⟩,λ H' kp=>k _ (Sw.tr kp)⟩⟩
 | @ok L b1 z hI hl hG hk=>
 refine .inr ⟨L,b1,hI,.inr ⟨hl,hG,λ p dp ep H1 np OR Q6 Ru XG Vy=>g1 _ _ ?_⟩⟩;clear g1;have TV:=Vy _ _ Rz Jk;have Nu:l≠p:=ai Rz np;have Yw:l≠dp:=ai Rz OR;have Yv:l≠ep:=ai Rz Q6;have Vy:=Sw.tr Vy;clear Sw hR0 Rz s0 hI;refine⟨λ m σ H2=>∃v8 v9 xs b,m=e-xs.length/\Lk L e xs.length b z/\σ=[↑o,↑r,some (vN n),some x,↑l,some (vN W.length),some (vN e),↑p,v8,v9]/\H2 l=↥xs/\RB C H2 r d b/\K21.C.Hk G H2 p dp ep L/\GZ r H H2,
  ⟨_,none,none,W.map vN,b1,rfl,by rw [Aa];exact hk,rfl,TV,Ru,XG,Vy⟩,?_⟩
 rintro m σ H2 ⟨v8,v9,xs,b,rfl,hk,rfl,Hy,Iq,OG,kp⟩;have F9:=hk.lt;refine⟨_,rfl,l,_,rfl,.inl (Gf.of Hy),_,rfl,_,_,rfl,rfl,_,rfl,bc (λ h=>?_) (λ h=>absurd (Ae (by omega)) h)⟩;clear h;refine⟨λ σ' H'=>∃m',m'<e-xs.length/\∃v8 v9 xs b,m'=e-xs.length/\Lk L e xs.length b z/\σ'=[↑o,↑r,some (vN n),some x,↑l,some (vN W.length),some (vN e),↑p,v8,v9]/\H' l=↥xs/\RB C H' r d b/\K21.C.Hk G H' p dp ep L/\GZ r H H',λ σ' H' z=>z,?_⟩;refine aw λ R2 g2=>?_
 refine⟨_,rfl,_,rfl,p,dp,ep,r,d,b,L,?_⟩;cases hk with
 |no _ hD=>exact⟨.none,rfl,OG,hG,Iq,hD,λ H' Ra=>k _ (kp.tr Ra)⟩
 |bad _ hD=>exact⟨.bad,rfl,OG,hG,Iq,hD,λ H' Ra=>k _ (kp.tr Ra)⟩
 | @sg _ q s _ _ _ hD hq hk=>
  refine⟨.thing q s,rfl,OG,hG,Iq,hD,λ H3 Ic G4=>g2 _ _ ?_⟩;clear g2;have Ir:=G4 _ _ Hy Jk;refine⟨_,rfl,_,_,rfl,rfl,_,rfl,bc (λ _=>?_) (λ h=>absurd (Ae (by omega)) h)⟩;refine⟨_,rfl,.inl ⟨rfl,_,Gf.of Ir⟩,_,rfl,l,_,_,rfl,rfl,Ir,bA (by omega),_,?_,_,_,_,_,rfl,?_,rfl,af,Ic.upd Jk JL,?_,(kp.tr G4).up nl⟩
  ·rw [Ac];show _-(_+1)<_;omega
  ·rw [Ac];exact hk
  ·refine(OG.but2 Iq G4).keep λ c o' e' hc=>?_
   rw [aj (by rcases hc with rfl|rfl|rfl;exact Nu.symm;exact Yw.symm;exact Yv.symm)];exact e'
 | @c8 _ q s _ _ hD hq h8=>
  refine⟨.thing q s,rfl,OG,hG,Iq,hD,λ H3 Ic G4=>g2 _ _ ?_⟩;clear g2;obtain⟨JJ,t3,HS⟩:=Ic.ob;refine⟨_,rfl,_,_,rfl,rfl,_,rfl,bc (λ h=>absurd (Am h) (by omega)) (λ _=>?_)⟩;exact⟨_,rfl,r,JJ,_,rfl,HS,no _,r,d,_,8,rfl,Ic,Z9,λ h=>absurd h (Nat.not_le.2 h8),λ _=>k _ (kp.tr G4)⟩
 | @cp _ q s _ _ hD hq h8 JQ=>
  refine⟨.thing q s,rfl,OG,hG,Iq,hD,λ H3 Ic G4=>g2 _ _ ?_⟩;clear g2;obtain⟨JJ,t3,HS⟩:=Ic.ob;refine⟨_,rfl,_,_,rfl,rfl,_,rfl,bc (λ h=>absurd (Am h) (by omega)) (λ _=>?_)⟩;refine⟨_,rfl,r,JJ,_,rfl,HS,no _,r,d,_,8,rfl,Ic,Z9,λ h H4 JO IM=>?_,λ h=>absurd h8 (Nat.not_le.2 h)⟩;have e1:(q:Int)-256+3=⇑(q-256+3):=by omega
  refine⟨_,rfl,_,rfl,_,rfl,_,_,rfl,rfl,_,_,rfl,rfl,_,rfl,?_⟩
  try dsimp only
  rw [e1];exact⟨l,xs,_,_,e,rfl,IM _ _ (G4 _ _ Hy Jk) Jk,JQ,k _ ((kp.tr G4).tr IM)⟩
end K21.Ck
namespace K21.Ck
open PySem L2 QQ W17 W16 BP
seal PE PA PS PSs PT PW PG PI
abbrev jV:F5:=top 96
def T6 (H:Hp)(a C:FR):Prop:=∃vx,H a=some (.frz (exO (.ref C) vx) (.own a))
structure Exc1 (K:Frag)(mg:Str->Option FS)(cP c:FR):Prop where
 x:ExC K c
 n:c≠cP
 s:mroIn K c (.ref cP)=some true
def WdI (i:Nat)(z:Str):Prop:=(i=0/\z=Str.ofString "row")\/(i=2/\z=Str.ofString "none")\/(i=8/\z=Str.ofString "body")
inductive LD (cs:List FR) (vs:List V) (H:Hp) (Q:VK) (Gj:XK):Prop
 |mk (a C:FR) (i:Nat) (z:Str) (h0:vs=[.ref a]) (h1:T6 H a C) (h2:cs[i]?=some C) (h3:WdI i z) (h4:∀t H',C' H H'->H' t=some (.tup [.str z])->Q (.ref t) H'):LD cs vs H Q Gj
noncomputable def names:List Str:=["BadRow","BadBits","NoBits","BadLengths","BadShares","BadCode","BadTable","BadPieces","BadBody","BadHead","BadCheck","BadMark","BadTail","Cut","Behind","Over","NoRange","BadLetters"]
structure RV (K:Frag)(mg:Str->Option FS)(cP:FR)(cs:List FR):Prop where
 tuple:mg "tuple"=none
 verr:mg "ValueError"=none
 mP:mg "PressError"=↑cP
 xP:ExC K cP
 len:∃c0 c1 c2 c3 c4 c5 c6 c7 c8 c9 X6 X5 X4 X3 X2 X1 X0 c17:FR,cs=[c0,c1,c2,c3,c4,c5,c6,c7,c8,c9,X6,X5,X4,X3,X2,X1,X0,c17]
 m:∀(i:Nat) (x:Str) (c:FR),names[i]?=some x->cs[i]?=some c->mg x=↑c
 k:∀(i:Nat) (z:Str) (c:FR),WdI i z->cs[i]?=some c->Exc1 K mg cP c/\ExI K c/\kitOne K (.ref c) (.type "ValueError")=some true/\∀(j:Nat) (d:FR),cs[j]?=some d->kitOne K (.ref c) (.ref d)=some (decide (j=i))
abbrev Tw (H:Hp):List FR->List (Str×Bool)->Prop:=Paired λ p x=>H p=some (.tup [.str x.1,.bl x.2])
def Tw.same (s:C' H H')(h:Tw H ps xs):Tw H' ps xs:=by
 induction h with
 |nil=>exact .nil
 |cons h _ ih=>exact .cons (s _ _ h) ih
def Tw.append (h:Tw H ps xs)(s:Tw H qs ys):Tw H (ps++qs) (xs++ys):=by
 induction h with
 |nil=>exact s
 |cons r _ ih=>exact .cons r ih
def Tw.get {i:Nat}(h:Tw H ps xs)(e:ps[i]?=some p):∃x,xs[i]?=some x/\H p=some (.tup [.str x.1,.bl x.2]):=by
 induction h generalizing i with
 |nil=>cases e
 |cons r _ ih=>cases i with
  |zero=>cases e;exact⟨_,rfl,r⟩
  |succ i=>exact ih e
section
variable (K:Frag)
def zO:List V->Hp->VK->Prop:=λ xs H Q=>∃a C vs c b,xs=[.ref a,zk c]/\(∃n,c=.ref n\/∃t,c=.type t)/\H a=some (.frz (exO (.ref C) vs) (.own a))/\ExI K C/\kitOne K (.ref C) c=some b/\Q (.bl b) H
def w4 (z:Str)(c:FR):TE:=iq (aP (tC (.str z)) (aP (Qe (zO K) (aP (Gs 0) (aP (tC (.ref c)) bF))) bF))
def kN:List (Str×FR)->TA
 | []=>bF
 |x::r=>aP (w4 K x.1 x.2) (kN r)
variable {K}
def bD {X:Cx}{z x:Str}{j k:Nat}{p1 p2 p3 p4 p5 p6:Pos}(hi:X.mg "isinstance"=none)(hm:X.mg x=↑c)(hN:autoParam (X.N[0]?=some ("_law_error":Str)) Z0)(hv:autoParam (V5 X.env.scope "_law_error") ZT)
  (Xm:autoParam (Gl X "isinstance") Z0) (hg2:autoParam (Gl X x) Z0) (hd:'e')
  (Rh:autoParam (starEach [.Name "_law_error" p3,.Name x p4] X.env=(false,eval (.Name "_law_error" p3) X.env)::starEach [.Name x p4] X.env) Z0) (Io:autoParam (starEach [.Name x p4] X.env=(false,eval (.Name x p4) X.env)::starEach [] X.env) Z0)
  (Qi:autoParam (starEach [.Constant (.str z) j p1,.Call (.Name "isinstance" p2) [.Name "_law_error" p3,.Name x p4] [] p5] X.env=(false,eval (.Constant (.str z) j p1) X.env)::starEach [.Call (.Name "isinstance" p2) [.Name "_law_error" p3,.Name x p4] [] p5] X.env) Z0)
  (hs4:autoParam (starEach [.Call (.Name "isinstance" p2) [.Name "_law_error" p3,.Name x p4] [] p5] X.env=(false,eval (.Call (.Name "isinstance" p2) [.Name "_law_error" p3,.Name x p4] [] p5) X.env)::starEach [] X.env) Z0)
  (HZ:autoParam ((backTo p5 (starEach [.Name x p4] X.env)).any (·.1)=false) Z0):
  PE X (.Tuple [.Constant (.str z) j p1,.Call (.Name "isinstance" p2) [.Name "_law_error" p3,.Name x p4] [] p5] k p6) (w4 X.K z c):=
 aO (aa aX (aa (ay jM Xm hi BB (aa (tW hN hv) (aa (aJ hg2 hm rfl hd) ac Io) Rh) Z9 Z9 Rh HZ) ac hs4) Qi)
def nA (ci:ExI K C)(h0:σ[0]?=some ↑a)(l):∀bs H Q,Paired (λ x b=>kitOne K (.ref C) (.ref x.2)=some b) l bs->T6 H a C->
  (∀H' ps,C' H H'->Tw H' ps ((l.map (·.1)).zip bs)->Q (ps.map V.ref) H')->kN K l σ H Q:=by
 induction l with
 |nil=>intro bs H Q hp _ k;cases hp;exact k H [] (C'.refl H) .nil
 |cons x l ih=>
  intro bs H Q hp hE k;cases hp with
  |cons r rr=>
  rename_i b _
  obtain⟨vx,hE⟩:=hE;refine⟨_,h0,a,C,vx,.ref x.2,b,rfl,⟨x.2,.inl rfl⟩,hE,ci,r,(by show 2≤sizeLine;decide),λ p hp=>?_⟩;have s1:C' H (upd H p (.tup [.str x.1,.bl b])):=λ c o e=>by rw [aj (ai e hp)];exact e
  refine ih _ _ _ rr ⟨vx,s1 _ _ hE⟩ λ H' ps s2 tw=>?_
  exact k H' (p::ps) (s1.trans s2) (.cons (s2 _ _ af) tw)
end
def G1:y' ["_law_error","_law_some","_law_found"] ["_law_error"] (am jV):=Gw Z8
structure IP (H0 H:Hp)(a C l:FR)(xs:List (Str×Bool)):Prop where
 s:C' H0 H
 e:T6 H a C
 l:∃ps:List FR,H l=↥(ps.map V.ref)/\Tw H ps xs
def IP.first {a C l:FR}(e:T6 H0 a C)(s:C' H0 H)(tw:Tw H ps xs)(hl:H l=none):IP H0 (upd H l (.lst (ps.map V.ref))) a C l xs:=by
 have s1:C' H (upd H l (.lst (ps.map V.ref))):=λ c o q=>by rw [aj (ai q hl)];exact q
 obtain⟨vx,e⟩:=e;exact⟨s.trans s1,⟨vx,s1 _ _ (s _ _ e)⟩,ps,af,tw.same s1⟩
def IP.more {a C l:FR}(S:IP H0 H a C l xs)(s:C' H H1)(tw:Tw H1 ps ys)(hb:H1 b=none):
  ∃qs:List FR,upd H1 b (.lst (ps.map V.ref)) l=↥(qs.map V.ref)/\qs.length=xs.length/\∀p,upd H1 b (.lst (ps.map V.ref)) p=none->IP H0 (upd (upd H1 b (.lst (ps.map V.ref))) p (.lst (qs.map V.ref++ps.map V.ref))) a C p (xs++ys):=by
 obtain⟨s0,⟨vx,e⟩,qs,hl,tq⟩:=S;have s1:C' H1 (upd H1 b (.lst (ps.map V.ref))):=λ c o q=>by rw [aj (ai q hb)];exact q
 refine⟨qs,s1 _ _ (s _ _ hl),DN tq,λ p hp=>?_⟩;have s2:C' (upd H1 b (.lst (ps.map V.ref))) (upd (upd H1 b (.lst (ps.map V.ref))) p (.lst (qs.map V.ref++ps.map V.ref))):=λ c o q=>by rw [aj (ai q hp)];exact q
 have s3:=(s.trans s1).trans s2;exact⟨s0.trans s3,⟨vx,s3 _ _ e⟩,qs++ps,by rw [af,Aw],(tq.same s3).append (tw.same (s1.trans s2))⟩
def tX:∀x σ H A B,(∀σ' H',A σ' H'->B σ' H')->Ly K n (HF (bw i) (HF (bw j) Lz)) x σ H A->Ly K n (HF (bw i) (HF (bw j) Lz)) x σ H B:=by
 rintro x σ H A B m ⟨a,xs,e1,e2,e3,v,r,e4,v2,r2,e5,e6,z⟩;exact⟨a,xs,e1,e2,e3,v,r,e4,v2,r2,e5,e6,m _ _ z⟩
def ndW:(["_law_word_here","_law_fits"]:List Str).Nodup:=Z8
def lp (h:n≤40):n≤sizeLine:=Ai h Z9
def uW (ci:ExI K C)(h0:σ[0]?=some ↑a)(l)(bs)(pr:Paired (λ(x:Str×FR) b=>kitOne K (.ref C) (.ref x.2)=some b) l bs)(hE:T6 H a C)(hn:l.length≤3)
  (k:∀b H',IP H H' a C b ((l.map (·.1)).zip bs)->D.nx (σ.set 1 ↑b) H'):nX (gh (kN K l)) (bw 1) D σ H:=by
 refine nA ci h0 l bs H _ pr hE λ H1 ps s1 tw=>⟨?_,λ b hb=>k b _ (.first hE s1 tw hb)⟩
 have e:=DN tw;rw [Aa,e,E8,Aa];exact lp Z5
def dn (ci:ExI K C)(S:IP H0 H a C b xs)(h0:σ[0]?=some ↑a)(h1:σ[1]?=some ↑b)(hx:xs.length≤20)(l)(bs)(pr:Paired (λ(x:Str×FR) b=>kitOne K (.ref C) (.ref x.2)=some b) l bs)(hn:l.length≤3)
  (k:∀b' H',IP H0 H' a C b' (xs++(l.map (·.1)).zip bs)->D.nx (σ.set 1 ↑b') H'):nX (Im MX (Gs 1) (gh (kN K l))) (bw 1) D σ H:=by
 refine⟨_,h1,nA ci h0 l bs H _ pr S.e λ H1 ps s1 tw=>?_⟩;have e:=DN tw;rw [E8,Aa] at e;refine⟨by rw [Aa];exact lp Z5,λ b1 Ib=>?_⟩;obtain⟨qs,hl,hq,kk⟩:=S.more s1 tw Ib;exact⟨b,b1,_,_,rfl,rfl,hl,af,by rw [Aa,Aa];exact lp Z5,λ p hp=>k p _ (kk p hp)⟩
def qW (xs:List (Str×Bool))(i)(x)(h:xs[i]?=some x):((xs.take (i+1)).filter (·.2)).map (λ x=>V.str x.1)=((xs.take i).filter (·.2)).map (λ x=>V.str x.1)++(if x.2=true then [V.str x.1] else []):=by
 rw [Bl,h];simp only [Option.toList_some,AQ,Aw];by_cases hb:x.2=true
 ·simp [hb]
 ·simp [hb]
def pN {cP:FR}{cs:List FR}(F:'h' "_law_word" jV ["_law_error"] f fd)(T:K21.Txt K mg)(Z:RV K mg cP cs):'a' Gn 5 f fd ["_law_error"] (LD cs):=by
 obtain⟨c0,c1,c2,c3,c4,c5,c6,c7,c8,c9,X6,X5,X4,X3,X2,X1,X0,c17,rfl⟩:=Z.len;refine F.F.ok G1 ?_
 intro 'a';obtain⟨a,C,i0,z,rfl,hE,hC,hzz,k⟩:=h;refine⟨_,(ad (aq (i:=1) G1.nd (aH (aa (bD T.isi (Z.m 0 _ _ rfl rfl)) (aa (bD T.isi (Z.m 1 _ _ rfl rfl)) ac))))
  (ad (aq (i:=1) G1.nd (ao bz (pv 1) (aH (aa (bD T.isi (Z.m 2 _ _ rfl rfl)) (aa (bD T.isi (Z.m 3 _ _ rfl rfl)) ac)))))
  (ad (aq (i:=1) G1.nd (ao bz (pv 1) (aH (aa (bD T.isi (Z.m 4 _ _ rfl rfl)) ac))))
  (ad (aq (i:=1) G1.nd (ao bz (pv 1) (aH (aa (bD T.isi (Z.m 5 _ _ rfl rfl)) (aa (bD T.isi (Z.m 6 _ _ rfl rfl)) ac)))))
  (ad (aq (i:=1) G1.nd (ao bz (pv 1) (aH (aa (bD T.isi (Z.m 7 _ _ rfl rfl)) (aa (bD T.isi (Z.m 8 _ _ rfl rfl)) ac)))))
  (ad (aq (i:=1) G1.nd (ao bz (pv 1) (aH (aa (bD T.isi (Z.m 9 _ _ rfl rfl)) (aa (bD T.isi (Z.m 10 _ _ rfl rfl)) ac)))))
  (ad (aq (i:=1) G1.nd (ao bz (pv 1) (aH (aa (bD T.isi (Z.m 11 _ _ rfl rfl)) (aa (bD T.isi (Z.m 12 _ _ rfl rfl)) ac)))))
  (ad (aq (i:=1) G1.nd (ao bz (pv 1) (aH (aa (bD T.isi (Z.m 13 _ _ rfl rfl)) (aa (bD T.isi (Z.m 14 _ _ rfl rfl)) ac)))))
  (ad (aq (i:=1) G1.nd (ao bz (pv 1) (aH (aa (bD T.isi (Z.m 15 _ _ rfl rfl)) (aa (bD T.isi (Z.m 16 _ _ rfl rfl)) ac)))))
  (ad (aq (i:=1) G1.nd (ao bz (pv 1) (aH (aa (bD T.isi (Z.m 17 _ _ rfl rfl)) ac))))
  (ad (sX (i:=2) (N:=["_law_word_here","_law_fits"]) (g:=Ly K 2 (HF (bw 0) (HF (bw 1) Lz))) (tt:=tB (Gs 1)) (te:=Gs 0) G1.nd rfl (Or.inl rfl) rfl rfl Z8 Z8 Z8 (bi (pv 1))
    (λ fp s H=>dR rfl (bh (aG (i:=0) ndW) (bh (aG (i:=1) ndW) df))) (λ fp s H=>bX (pv 1)) (λ fp s H=>pv 0) Z7)
  (ag (aB (fi (bX (ay jM Z7 T.isi BB (aa (pv 0) (aa (eB (v:=.ty "ValueError") Z7 Z.verr PyProof.Rows.Boot.«ValueError» rfl) ac))))
    (cK dS Z7 Z.tuple El (aa (pv 2) ac)) (aO (aa aX ac)))))))))))))))),?_⟩
 obtain⟨_,ci,hv,kk⟩:=Z.k i0 z C hzz hC;refine aw λ R g=>uW ci rfl [("row",c0),("bits",c1)] _ (.cons (kk 0 _ rfl) (.cons (kk 1 _ rfl) .nil)) hE Z6 λ b0 H0 S0=>g _ _ ?_
 clear g;refine aw λ R g=>dn ci S0 rfl rfl Z6 [("none",c2),("lengths",c3)] _ (.cons (kk 2 _ rfl) (.cons (kk 3 _ rfl) .nil)) Z6 λ b1 H1 S1=>g _ _ ?_
 clear g;refine aw λ R g=>dn ci S1 rfl rfl Z6 [("shares",c4)] _ (.cons (kk 4 _ rfl) .nil) Z6 λ b2 H2 S2=>g _ _ ?_
 clear g;refine aw λ R g=>dn ci S2 rfl rfl Z6 [("code",c5),("table",c6)] _ (.cons (kk 5 _ rfl) (.cons (kk 6 _ rfl) .nil)) Z6 λ b3 H3 S3=>g _ _ ?_
 clear g;refine aw λ R g=>dn ci S3 rfl rfl Z6 [("pieces",c7),("body",c8)] _ (.cons (kk 7 _ rfl) (.cons (kk 8 _ rfl) .nil)) Z6 λ b4 H4 S4=>g _ _ ?_
 clear g;refine aw λ R g=>dn ci S4 rfl rfl Z6 [("head",c9),("check",X6)] _ (.cons (kk 9 _ rfl) (.cons (kk 10 _ rfl) .nil)) Z6 λ b5 H5 S5=>g _ _ ?_
 clear g;refine aw λ R g=>dn ci S5 rfl rfl Z6 [("mark",X5),("tail",X4)] _ (.cons (kk 11 _ rfl) (.cons (kk 12 _ rfl) .nil)) Z6 λ b6 H6 S6=>g _ _ ?_
 clear g;refine aw λ R g=>dn ci S6 rfl rfl Z6 [("cut",X3),("behind",X2)] _ (.cons (kk 13 _ rfl) (.cons (kk 14 _ rfl) .nil)) Z6 λ b7 H7 S7=>g _ _ ?_
 clear g;refine aw λ R g=>dn ci S7 rfl rfl Z6 [("over",X1),("range",X0)] _ (.cons (kk 15 _ rfl) (.cons (kk 16 _ rfl) .nil)) Z6 λ b8 H8 S8=>g _ _ ?_
 clear g;refine aw λ R g=>dn ci S8 rfl rfl Z6 [("letters",c17)] _ (.cons (kk 17 _ rfl) .nil) Z6 λ b9 H9 S9=>g _ _ ?_
 clear g;obtain⟨s8,⟨vx,e8⟩,ps,hl8,Wj⟩:=S9;generalize WV:(_++List.zip _ _:List (Str×Bool))=xs at Wj;have YY:((xs.filter (·.2)).map λ x=>V.str x.1)=[V.str z]:=by
  rw [<-WV];rcases hzz with⟨rfl,rfl⟩|⟨rfl,rfl⟩|⟨rfl,rfl⟩<;>rfl
 have hlen:xs.length=18:=by rw [<-WV];rfl
 clear WV;have ML:ps.length=xs.length:=DN Wj;refine aw λ _ g=>⟨_,rfl,b9,rfl,⟨_,Gf.of hl8⟩,λ l2 G5=>jc (K:=K) (a:=b9) (xs:=ps.map V.ref) (λ i ys H'=>ys=((xs.take i).filter (·.2)).map (λ x=>V.str x.1)/\H' l2=↥ys/\C' H9 H')
  ⟨Z6,af,λ c o e=>by rw [aj (ai e G5)];exact e⟩ (λ i ys H' _ p=>Gf.of (p.2.2 _ _ hl8)) ?_ ?_ tX ?_ ?_⟩
 ·rintro i x ys σ H' hx ⟨e1,e2,s9⟩ hσ;obtain⟨p,hp,rfl⟩:∃p,ps[i]?=some p/\x=V.ref p:=by
   rw [AU] at hx;cases e:ps[i]? with
   |none=>rw [e] at hx;cases hx
   |some q=>rw [e] at hx;exact⟨q,rfl,(AJ hx).symm⟩
  obtain⟨y,hy,MY⟩:=Wj.get hp;obtain⟨u,v,rfl⟩:∃u v,σ=[u,v]:=by
   match σ,hσ with
   | [u,v],_=>exact⟨u,v,rfl⟩
  refine⟨p,_,rfl,GF.of (s9 _ _ MY),rfl,_,_,rfl,_,_,rfl,rfl,_,rfl,_,rfl,?_⟩;have fs:=qW xs i y hy;cases hb:y.2 with
  |true=>
   try dsimp only
   rw [AK rfl];rw [hb,AK rfl,<-e1] at fs;refine⟨_,rfl,e2,?_,rfl,fs.symm,af,λ c o e=>?_⟩
   ·have:=(Af.mp hy).1;rw [e1,Aa];have l1:=DE (λ x=>x.2) (xs.take i);rw [Aq] at l1;have h18:i<18:=Av this hlen;exact Be (Ai l1 (Db _ _)) (D9 h18 Z9)
   ·have Hx:c≠l2:=ai e G5;rw [aj Hx];exact s9 _ _ e
  |false=>
   try dsimp only
   rw [AH Ax];rw [hb,AH Ax,Bv,<-e1] at fs;exact⟨rfl,fs.symm,e2,s9⟩
 ·rintro ys H' ⟨e1,e2,s9⟩;refine g _ _ ?_;clear g;rw [Aa,ML,AT,YY] at e1;subst e1;refine⟨_,rfl,a,C,vx,.type "ValueError",true,rfl,⟨0,.inr ⟨_,rfl⟩⟩,s9 _ _ e8,ci,hv,_,rfl,eQ ?_⟩;refine⟨_,rfl,l2,[.str z],rfl,.inl ⟨Gf.of e2,λ t ht=>?_⟩⟩;exact k t _ ((s8.trans s9).trans λ c o e=>by rw [aj (ai e ht)];exact e) af
 ·rintro σ H A B m ⟨x,e,c,e2,z⟩;exact⟨x,e,c,e2,m _ _ z⟩
 ·rintro σ H A B m ⟨x,e,z⟩;exact⟨x,e,m _ _ z⟩
end K21.Ck
namespace K21.Ck
open PySem L2 QQ W17 W16 BP K21.M
seal PE PA PS PSs PT PW PG PI
abbrev iG:F5:=top 92
abbrev kX:F5:=top 94
abbrev lE:F5:=top 95
theorem me (n):∀k j,j<k->(dig n k).take (j+1)=(dig n k).take j++[decide (n/2^(k-1-j)%2=1)]
 |0,j,h=>by lia
 |k+1,0,_=>rfl
 |k+1,j+1,h=>by
  show decide (n/2^k%2=1)::(dig n k).take (j+1)=decide (n/2^k%2=1)::((dig n k).take j++[decide (n/2^(k+1-1-(j+1))%2=1)]);rw [me n k j (by lia),show k+1-1-(j+1)=k-1-j by lia]
def bG (h:n≤2000):n≤sizeLine:=Ai h (by decide)
def wE:(Str.ofString "":Str)=txt []:=by decide+kernel
def yH:(Str.ofString "01":Str)=txt [false,true]:=by decide+kernel
def wk (n:Nat):O5 (txt [false,true]).cps.toList ((n:Int)%2)=some (sgn (decide (n%2=1))):=by
 have e:(n:Int)%2=⇑(n%2):=by lia
 rw [e];have h2:n%2<2:=Nat.mod_lt _ (by decide);refine aD ?_
 match n%2,h2 with
 |0,_=>rfl
 |1,_=>rfl
def zr:(Str.ofString "1":Str)=txt [true]:=by decide+kernel
def xQ (b):decide (V.str (txt [b])=V.str (Str.ofString "1"))=b:=by
 rw [zr];cases b with
 |true=>exact Ae rfl
 |false=>exact Bt λ e=>absurd (Pq.mp (V.str.inj e)) (by decide)
def tD (k:Nat)(hk:k≤7):MulOk (txt [false]) (k:Int):=by
 match k,hk with
 |0,_=>exact⟨by decide,λ h=>absurd (by decide) h,λ h=>absurd (by decide) h⟩
 |1,_=>exact⟨by decide,λ _ h=>absurd h (by decide),λ _ h=>absurd h (by decide)⟩
 |2,_=>exact⟨by decide,λ _ _=>by decide,λ _ _=>by decide⟩
 |3,_=>exact⟨by decide,λ _ _=>by decide,λ _ _=>by decide⟩
 |4,_=>exact⟨by decide,λ _ _=>by decide,λ _ _=>by decide⟩
 |5,_=>exact⟨by decide,λ _ _=>by decide,λ _ _=>by decide⟩
 |6,_=>exact⟨by decide,λ _ _=>by decide,λ _ _=>by decide⟩
 |7,_=>exact⟨by decide,λ _ _=>by decide,λ _ _=>by decide⟩
def xY (m)(h:m≤1000):Builtin.Range.small 0 ⇑(8*m) 8=true/\Builtin.Range.rangeSize 0 ⇑(8*m) 8=(m:Int):=by
 have e:Builtin.Range.rangeSize 0 ⇑(8*m) 8=(m:Int):=by
  unfold Builtin.Range.rangeSize;rw [AK (by decide)]
  split<;>lia
 refine⟨?_,e⟩;have f:∀i,0≤i->i<100000->Builtin.Range.rangeFitsLong i=true:=λ i h0 h1=>by
  unfold Builtin.Range.rangeFitsLong;rw [Ae (by lia),Ae (by lia)];rfl
 unfold Builtin.Range.small;rw [e]
 try dsimp only
 rw [f 0 (by decide) (by decide),f ⇑(8*m) (by lia) (by lia),f 8 (by decide) (by decide),f (m:Int) (by lia) (by lia),AK (by decide),f (⇑(8*m)+(8-1)) (by lia) (by lia)];simp
def uA:(Str.ofString "0":Str)=txt [false]:=by decide+kernel
def iw (k:Nat)(hk:k≤7):Txt.mul (txt [false]) (k:Int)=txt (List.replicate k false):=by
 match k,hk with
 |0,_=>decide+kernel
 |1,_=>decide+kernel
 |2,_=>decide+kernel
 |3,_=>decide+kernel
 |4,_=>decide+kernel
 |5,_=>decide+kernel
 |6,_=>decide+kernel
 |7,_=>decide+kernel
inductive LK (K:Frag) (vs:List V) (H:Hp) (Q:VK) (Gj:XK):Prop
 |mk (a:FR) (ns:List Int) (k:Nat) (h0:vs=[.ref a,vN k]) (h1:Gf K H a (ns.map V.int)) (h2:Q (.int (ns.getD k 0)) H):LK K vs H Q Gj
def x3:y' ["_law_script","_law_k"] ["_law_script","_law_k"] (am iG):=Gw Z8
def pd {P:FU}{w:FV}(F:'h' "_law_cell_at" iG ["_law_script","_law_k"] f fd)(X:K21.Txt K mg):'a' Gn 1 f fd ["_law_script","_law_k"] (LK K):=by
 refine F.F.ok x3 ?_
 intro 'a';obtain⟨a,ns,k,rfl,hS,q⟩:=h;refine⟨_,ad (aM (aA eO (pv 1) (ay ax Z7 X.len Ay (aa (pv 0) ac)) (aC _)) (ag (aB (aU aW (pv 0) (pv 1) (λ _ _=>rfl)))) aF)
  (ag (aB ae)),?_⟩
 refine⟨_,rfl,_,rfl,a,_,rfl,.inl hS,_,_,rfl,rfl,_,rfl,?_⟩;refine bc (λ h1=>?_) (λ h1=>?_)
 ·have h2:k<ns.length:=by have:=Am h1;rw [Aa] at this;lia
  refine⟨_,rfl,_,rfl,a,_,_,V.int (ns.getD k 0),rfl,rfl,hS,aD ?_,q⟩;rw [AU,Ad h2,AO,Ad h2];rfl
 ·have KD:decide ((k:Int)<((ns.map V.int).length:Int))≠true:=h1;have h2:ns.length≤k:=by
   rw [Aa] at KD;by_cases h:(k:Int)<(ns.length:Int)
   ·exact absurd (Ae h) KD
   ·lia
  try dsimp only
  rw [AO,A4 h2] at q;exact q
inductive ID (vs:List V) (H:Hp) (Q:VK) (Gj:XK):Prop
 |mk (l:_) (ts:_) (ps:_) (h0:vs=[.ref l]) (h1:H l=↥(ts.map V.ref)) (h2:Ie H ts ps) (h3:(∀q∈ps,q.2≤24)) (h4:tots ps≤1000) (h5:Q (.str (txt (bitsP ps))) H):ID vs H Q Gj
def Hr:y' ["_law_parts","_law_found","_law_number","_law_size","_law_k"] ["_law_parts"] (am kX):=Gw Z8
def rj (F:'h' "_law_digits" kX ["_law_parts"] f fd)(X:K21.Txt K mg):'a' Gn 1 f fd ["_law_parts"] ID:=by
 refine F.F.ok Hr ?_
 intro 'a';obtain⟨l,ts,ps,rfl,hl,Ja,XQ,htot,k⟩:=h;refine⟨_,ad (aq (i:=1) Hr.nd aX)
  (ad (bp AV rfl (bi (pv 0)) (dR rfl (bh (aG (i:=2) Hr.nd) (bh (aG (i:=3) Hr.nd) df)))
   (ag (bp AV rfl (cZ rfl X.range (aa (pv 3) ac)) (aG (i:=4) Hr.nd)
    (ag (aq (i:=1) Hr.nd (ao fQ (pv 1) (aU x9 aX (ao aQ (ao bo (pv 2) (ao dP ae (ao bd (ao bd (pv 3) ae) (pv 4)))) ae) (λ _ _=>rfl))))))))
  (ag (aB (pv 1)))),?_⟩
 have Nz:=Ja.len;refine aw λ R1 g1=>g1 _ _ ?_
 clear g1;refine aw λ R1 g1=>?_
 refine⟨_,rfl,l,rfl,⟨_,Gf.of hl⟩,bH (λ i σ H2=>∃v2 v3 v4,σ=[↑l,some (.str (txt (bitsP (ps.take i)))),v2,v3,v4]/\H2=H)
  ⟨none,none,none,?_,rfl⟩ (λ i σ H2 _ z9=>by obtain⟨_,_,_,_,e⟩:=z9;exact by rw [e];exact Gf.of hl) ?_ ?_⟩
 ·show [some (V.ref l),some (V.str (Str.ofString "")),none,none,none]=_;rw [wE];rfl
 ·clear g1;rintro i y σ H2 hi ⟨v2,v3,v4,rfl,rfl⟩;obtain⟨t,ht,rfl⟩:=gi hi;obtain⟨q,hq,Kv⟩:=Ja.at ht;have hs:=XQ q (AX hq);have htk:tots (ps.take i)+q.2≤1000:=by
   have e:tots ps=tots (ps.take (i+1))+tots (ps.drop (i+1)):=by rw [<-aR,Bn]
   rw [eN hq,aR] at e;have:tots [q]=q.2:=by simp [tots]
   lia
  refine⟨t,_,rfl,GF.of Kv,rfl,_,_,rfl,_,_,rfl,rfl,?_⟩;refine⟨_,rfl,(q.2:Int),rfl,by lia,by lia,du (λ j σ H3=>∃v4,σ=[↑l,some (.str (txt (bitsP (ps.take i)++(dig q.1 q.2).take j))),some (vN q.1),some (vN q.2),v4]/\H3=H2)
   ⟨v4,by rw [DV,Bv];rfl,rfl⟩ ?_ ?_⟩
  ·rintro j σ H3 hj ⟨v4,rfl,rfl⟩;rw [AM] at hj;have e1:(q.2:Int)-1-((0:Int)+(j:Int))=⇑(q.2-1-j):=by lia
   have Qj:2^(q.2-1-j)≤2^24:=Cv Z9 (by lia);have Ij:=JC (q.2-1-j);have e2:(1:Int)*2^((q.2-1-j:Nat):Int).toNat=⇑(2^(q.2-1-j)):=by rw [FQ,AM];simp
   have e3:(q.1:Int)/⇑(2^(q.2-1-j))=⇑(q.1/2^(q.2-1-j)):=rfl;refine⟨_,rfl,_,rfl,_,rfl,_,_,rfl,rfl,_,rfl,_,_,rfl,rfl,?_⟩
   try dsimp only
   rw [e1];refine⟨_,_,rfl,rfl,⟨by lia,by lia,by decide⟩,?_⟩
   try dsimp only
   rw [e2];refine⟨_,_,rfl,rfl,⟨by lia,by show⇑(2^(q.2-1-j))<1073741824;lia⟩,?_⟩
   try dsimp only
   rw [e3];refine⟨_,_,rfl,rfl,(by show(0:Int)<2;decide),_,_,sgn (decide (q.1/2^(q.2-1-j)%2=1)),rfl,rfl,bG Z8,?_,_,_,rfl,rfl,?_,?_⟩
   ·rw [yH];exact wk (q.1/2^(q.2-1-j))
   ·show(txt _).length+1≤sizeLine;rw [aS,Ac,aV,Aq,Gk];exact bG (by lia)
   ·have e4:txt (bitsP (ps.take i)++(dig q.1 q.2).take j)++(⟨#[sgn (decide (q.1/2^(q.2-1-j)%2=1))]⟩:Str)=txt (bitsP (ps.take i)++(dig q.1 q.2).take (j+1)):=by
     rw [me _ _ _ hj,<-An];exact fU _ [decide (q.1/2^(q.2-1-j)%2=1)]
    try dsimp only
    rw [e4];exact⟨_,rfl,rfl⟩
  ·rintro σ H3 ⟨v4,rfl,rfl⟩;rw [AM,A3 (l:=dig q.1 q.2) (by rw [Gk];exact Ak _)];have e5:bitsP (ps.take (i+1))=bitsP (ps.take i)++dig q.1 q.2:=by
    rw [eN hq,cm,aZ];show _++(_++[])=_;rw [Bv]
   rw [e5];exact⟨_,_,_,rfl,rfl⟩
 ·rintro σ H2 ⟨v2,v3,v4,rfl,rfl⟩;rw [Aa,Nz,AT];exact g1 _ _ ⟨_,rfl,k⟩
inductive Mm (vs:List V) (H:Hp) (Q:VK) (Gj:XK):Prop
 |mk (bs:_) (h0:vs=[.str (txt bs)]) (h1:bs.length≤1500) (h2:∀l R H',H l=none->Qc (num bs) bs.length R->H' l=↥(R.map vN)->C' H H'->Q (.ref l) H'):Mm vs H Q Gj
def HD:y' ["_law_digits_here","_law_found","_law_filled","_law_k","_law_number","_law_digit"] ["_law_digits_here"] (am lE):=Gw Z8
def vc (F:'h' "_law_row_of" lE ["_law_digits_here"] f fd)(X:K21.Txt K mg):'a' Gn 1 f fd ["_law_digits_here"] Mm:=by
 refine F.F.ok HD ?_
 intro 'a';obtain⟨bs,rfl,hz,k⟩:=h;refine⟨_,ad (aq (i:=1) HD.nd (aH ac))
  (ad (aq (i:=2) HD.nd (ao fQ (pv 0) (ao jr aX (ao aQ (ao bd ae (ao aQ (ay cq Z7 X.len Ay (aa (pv 0) ac)) ae)) ae))))
  (ad (bp AV rfl (kn rfl X.range (aa ae (aa (ay cq Z7 X.len Ay (aa (pv 2) ac)) (aa ae ac)))) (aG (i:=3) HD.nd)
   (ad (aq (i:=4) HD.nd ae)
   (ad (bp AV rfl (yw (cf nK (pv 2) (bM (pv 3)) (bM (ao aI (pv 3) ae)))) (aG (i:=5) HD.nd)
    (ag (aq (i:=4) HD.nd (ao aI (ao eV ae (pv 4)) (cK rG Z7 X.int EI (aa (gG bE (pv 5) aX (aC _)) ac))))))
   (ag (aE (d8 Bc Bp By bO (pv 1) (aa (pv 4) ac)))))))
  (ag (aB (pv 1))))),?_⟩
 obtain⟨pad,M8,W5,Pg⟩:∃pad,pad≤7/\bs.length+pad=8*((bs.length+7)/8)/\((8:Int)-(bs.length:Int)%8)%8=(pad:Int):=⟨7-(bs.length+7)%8,by lia,by lia,by lia⟩;generalize hm:(bs.length+7)/8=m at*;refine aw λ R2 g2=>⟨A1 _,λ l hl=>g2 _ _ ?_⟩
 clear g2;refine aw λ R1 g1=>?_
 refine⟨_,rfl,_,rfl,txt bs,rfl,bG (by rw [aS];lia),_,_,rfl,rfl,(by show(0:Int)<8;decide),_,_,rfl,rfl,_,_,rfl,rfl,(by show(0:Int)<8;decide),?_⟩
 try dsimp only
 rw [aS,Pg,uA];refine⟨_,_,rfl,rfl,tD pad M8,_,_,rfl,rfl,?_,?_⟩
 ·rw [iw pad M8,aS,aS,Al];exact bG (by lia)
 try dsimp only
 rw [iw pad M8,fU];refine g1 _ _ ?_;clear g1;have PD:(bs++List.replicate pad false).length=8*m:=by rw [Ac,Al];exact W5
 have Tn:num (bs++List.replicate pad false)=num bs*2^pad:=by rw [dC,rn,Al,DB]
 generalize bs++List.replicate pad false=fs at*;refine aw λ R3 g3=>?_
 have Zv:=xY m (by lia);refine⟨_,rfl,txt fs,rfl,bG (by rw [aS];lia),0,_,8,m,rfl,by decide,?_,?_,Ex Z9,jx
  (λ i σ H2=>∃B v3 v4 v5,σ=[some (.str (txt bs)),↑l,some (.str (txt fs)),v3,v4,v5]/\B.length=i/\(∀b∈B,b<256)/\val B=num (fs.take (8*i))/\H2 l=↥(B.map vN)/\C' H H2)
  ⟨[],none,none,none,rfl,rfl,(λ _ h=>nomatch h),by rw [Nat.mul_zero,DV];rfl,af,ak hl⟩ ?_ ?_⟩
 ·rw [aS,PD];exact Zv.1
 ·rw [aS,PD];exact Zv.2
 ·clear g3;rintro i σ H2 hi ⟨B,v3,v4,v5,rfl,O2,TN,XH,G5,sm⟩;have ei:(0:Int)+(i:Int)*8=⇑(8*i):=by lia
  rw [ei];refine aw λ R4 g4=>g4 _ _ ?_
  clear g4;refine aw λ R5 g5=>?_
  have e8:⇑(8*i)+8=⇑(8*i+8):=by lia
  refine⟨_,rfl,_,rfl,_,rfl,_,rfl,_,_,rfl,rfl,_,rfl,txt fs,rfl,bG (by rw [aS];lia),?_⟩
  try dsimp only
  rw [e8,jR (by lia) (by lia),show 8*i+8-8*i=8 by lia];have HZ:((fs.drop (8*i)).take 8).length=8:=by rw [Aq,Au];lia
  have hpt:fs.take (8*(i+1))=fs.take (8*i)++(fs.drop (8*i)).take 8:=by rw [show 8*(i+1)=8*i+8 by lia,List.take_add]
  generalize (fs.drop (8*i)).take 8=ps at*;refine⟨_,rfl,vp (D:=⟨_,_,λ _ _=>False,λ _ _=>False⟩) (λ j σ H3=>∃v5,σ=[some (.str (txt bs)),↑l,some (.str (txt fs)),some (vN (8*i)),some (vN (num (ps.take j))),v5]/\H3=H2)
   ⟨v5,rfl,rfl⟩ ?_ ?_⟩
  ·rintro j ch σ H3 hj ⟨u5,rfl,rfl⟩;obtain⟨b,hb,ech⟩:=vz hj;rw [ech];refine⟨_,rfl,_,_,rfl,rfl,.inl ⟨by decide,by decide⟩,_,rfl,rfl,.inr ⟨_,rfl,?_⟩⟩;rw [xQ b];refine⟨_,_,rfl,rfl,some (V.str (txt [b])),?_,rfl⟩;have e1:(2:Int)*⇑(num (ps.take j))+(if b=true then 1 else 0)=⇑(num (ps.take (j+1))):=by
    rw [Bl,hb];show _=⇑(num (ps.take j++[b]));rw [K9];cases b<;>simp<;>lia
   try dsimp only
   rw [e1];rfl
  ·rintro σ H3 ⟨u5,rfl,rfl⟩;refine g5 _ _ ?_;clear g5;rw [sO,AT];have F9:=HB ps;rw [HZ] at F9;refine⟨_,rfl,.inl ⟨rfl,_,Gf.of G5⟩,_,rfl,l,_,_,rfl,rfl,G5,?_,B++[num ps],_,_,_,rfl,by rw [Ac,O2];rfl,λ x hx=>?_,?_,?_,λ c o e=>?_⟩
   ·rw [Aa];exact Ap (show B.length<2000 by lia) (bG (Ak _))
   ·rcases AR.mp hx with z|z
    ·exact TN x z
    ·rw [As.mp z];exact F9
   ·rw [Jw,XH,hpt,dC,HZ]
   ·rw [af,Aw];rfl
   ·rw [aj (ai e hl)];exact sm _ _ e
 ·rintro σ H2 ⟨B,v3,v4,v5,rfl,O2,TN,XH,G5,sm⟩;refine g3 _ _ ?_;refine⟨_,rfl,k l B H2 hl ⟨by rw [O2,hm],TN,?_⟩ G5 sm⟩;rw [XH,O2,<-PD,AT,Tn,PD];congr 2;lia
end K21.Ck
namespace K21.M
open BP C9 C10 W17
def Yh (u c ah:Nat)(b:List Bool)(z:Bool):Prop:=if u=1 then Kt c 0 b z else if u=2 then JW (ah+c) ah b z else RN (ah+c) ah b z
structure BodyOk (u c ah:Nat)(ps:List (Nat×Nat)):Prop where
 s24:∀q∈ps,q.2≤24
 le:tots ps≤1000
 pos:1≤tots ps
 bad:Yh u c ah (bitsP ps) true
 cut:∀m,m<tots ps->Yh u c ah ((bitsP ps).take m) false
def alt (a:Nat)(S:'c'):List (Nat×Nat):=S.flatMap λ s=>[(0,a),(s,8)]
def gw (a s)(S:'c'):alt a (s::S)=(0,a)::(s,8)::alt a S:=rfl
theorem pw (a):∀S (k:Nat),k<2*S.length->(alt a S)[k]?=some (if k%2=0 then(0,a) else(S.getD (k/2) 0,8))
 |s::S,0,_=>rfl
 |s::S,1,_=>rfl
 |s::S,k+2,h=>by
  rw [Ar] at h;rw [gw];show(alt a S)[k]?=_;rw [pw a S k (by lia),show(k+2)%2=k%2 by lia,show(k+2)/2=k/2+1 by lia];rfl
def iH (a)(S:'c'):(alt a S).length=2*S.length:=by
 induction S with
 |nil=>rfl
 |cons s S ih=>rw [gw,Ar,Ar,ih,Ar];lia
def lP (a)(S:'c'):tots (alt a S)=(a+8)*S.length:=by
 induction S with
 |nil=>rfl
 |cons s S ih=>rw [gw,bU,bU,ih,Ar,C6];show a+(8+_)=_;lia
def mM (a s)(S)(r):bitsP (alt a (s::S))++r=dig 0 a++(dig s 8++(bitsP (alt a S)++r)):=by rw [gw,aZ,aZ,An,An]
def sH {a:Nat}(ha:a≤24)(S):∀q∈alt a S,q.2≤24:=λ q hq=>by
 obtain⟨s,_,h⟩:=List.mem_flatMap.mp hq;rcases AB.mp h with rfl|h
 ·exact ha
 ·rw [As.mp h];exact AZ rfl
def dl (n s)(r):(dig n s++r).length=s+r.length:=by rw [Ac,Gk]
theorem ve:∀S {n},n+S.length<e->Kt e (n+S.length) r z->Kt e n (bitsP (alt 6 S)++r) z
 | [],_,_,h=>h
 |s::S,n,hn,h=>by
  rw [Ar] at hn h;rw [mM];have e0:num ((dig 0 6++(dig s 8++(bitsP (alt 6 S)++r))).take 6)=0:=cS (by decide) _;refine .go (by lia) (by rw [dl,dl];lia) (by rw [e0];lia) ?_;rw [e0,show(14:Nat)=6+8 from rfl,<-Cn,cG,cG];exact ve S (by lia) (by rw [show n+(0+1)+S.length=n+(S.length+1) by lia];exact h)
theorem sG:∀S {n},n+S.length<e->JW e (n+S.length) r z->JW e n (bitsP (alt 1 S)++r) z
 | [],_,_,h=>h
 |s::S,n,hn,h=>by
  rw [Ar] at hn h;rw [mM];refine .sg (by lia) (by rw [dl,dl];lia) (cS (by decide) _) ?_;rw [show(9:Nat)=1+8 from rfl,<-Cn,cG,cG];exact sG S (by lia) (by rw [show n+1+S.length=n+(S.length+1) by lia];exact h)
def sL {room x y ah:Nat}(hl:S.length≤8)(r1:1≤room)(hx:room≤x)(Py:x<64):BodyOk 1 (S.length+room) ah (alt 6 S++[(x,6),(y,8)]):=by
 have ht:tots (alt 6 S++[(x,6),(y,8)])=14*S.length+14:=by rw [aR,lP];rfl
 have hb:Kt (S.length+room) 0 (bitsP (alt 6 S++[(x,6),(y,8)])) true:=by
  rw [cm];refine ve S (by lia) ?_;have e1:bitsP [(x,6),(y,8)]=dig x 6++(dig y 8++[]):=by rw [aZ,aZ];rfl
  rw [e1];exact .bad (by lia) (by rw [dl,dl];rfl) (by rw [cS Py];lia)
 refine⟨λ q hq=>?_,by lia,by lia,hb,λ m hm=>?_⟩
 ·rcases AR.mp hq with h|h
  ·exact sH (by decide) S q h
  ·simp at h;rcases h with rfl|rfl<;>exact AZ rfl
 ·exact hb.cut rfl (by rw [aV];exact hm)
def rV {room bk sz ah:Nat}(hl:S.length≤8)(r1:1≤room)(hb:bk<256)(Rh:3≤sz)(Io:sz≤18)(JQ:room<sz\/bk=0\/ah+S.length<bk):BodyOk 2 (S.length+room) ah (alt 1 S++[(1,1),(bk,8),(sz-3,4)]):=by
 have ht:tots (alt 1 S++[(1,1),(bk,8),(sz-3,4)])=9*S.length+13:=by rw [aR,lP];rfl
 have hb:JW (ah+(S.length+room)) ah (bitsP (alt 1 S++[(1,1),(bk,8),(sz-3,4)])) true:=by
  rw [cm];refine sG S (by lia) ?_;have e1:bitsP [(1,1),(bk,8),(sz-3,4)]=dig 1 1++(dig bk 8++(dig (sz-3) 4++[])):=by rw [aZ,aZ,aZ];rfl
  rw [e1];refine .bad (by lia) (by rw [dl,dl,dl];rfl) (cS (by decide) _) ?_;have hz:sz-3<2^4:=by show sz-3<16;lia
  rw [cG,cS hb,show(9:Nat)=1+8 from rfl,<-Cn,cG,cG,cS hz];lia
 refine⟨λ q hq=>?_,by lia,by lia,hb,λ m hm=>?_⟩
 ·rcases AR.mp hq with h|h
  ·exact sH (by decide) S q h
  ·simp at h;rcases h with rfl|rfl|rfl<;>exact AZ rfl
 ·exact hb.cut rfl (by rw [aV];exact hm)
def dF (T):tots (tab T)=3*T.length:=by
 induction T with
 |nil=>rfl
 |cons x T ih=>show tots ((x,3)::tab T)=_;rw [bU,ih,Ar];show 3+_=_;lia
def nU (T):∀q∈tab T,q.2≤24:=λ q hq=>by
 obtain⟨s,_,rfl⟩:=BH.mp hq;exact AZ rfl
def mn (hT:∀l∈T,l<7)(hl:T.length=272)(hN:RO T):BodyOk 3 c ah (tab T):=by
 have ht:=dF T;refine⟨nU T,by lia,by lia,.lbad (r:=[]) ?_ hl (λ l hl=>B4 (hT l hl)) hN,λ m hm=>.tno ?_⟩
 ·have:=lx hT (L:=[]) (ah:=0) (o:=some (T,[])) (by rw [hl];decide) (.done (A5 (by rw [Bj,hl])))
  rwa [Bv] at this
 ·have:=nP hT (L:=[]) (ah:=0) (m:=m) (r:=[]) (by rw [hl];decide) (by lia)
  rwa [Bv] at this
def qR (hc:c<7)(hn:n≤271)(Jl:212≤n):BodyOk 3 k ah (tab (List.replicate n c)++[(7,3),(63,6)]):=by
 have hT:∀l∈List.replicate n c,l<7:=λ l hl=>by rw [BY hl];exact hc
 have ht:tots (tab (List.replicate n c)++[(7,3),(63,6)])=3*n+9:=by rw [aR,dF,Al];rfl
 have eb:bitsP (tab (List.replicate n c)++[(7,3),(63,6)])=bitsP (tab (List.replicate n c))++(dig 7 3++(dig 63 6++[])):=by rw [cm,aZ,aZ];rfl
 have hl:([]:'c').length+(List.replicate n c).length≤272:=by rw [Al];show 0+n≤272;lia
 have h7:num ((dig 7 3++(dig 63 6++[])).take 3)=7:=cS (by decide) _;refine⟨λ q hq=>?_,by lia,by lia,?_,λ m hm=>?_⟩
 ·rcases AR.mp hq with h|h
  ·exact nU _ q h
  ·simp at h;rcases h with rfl|rfl<;>exact AZ rfl
 ·rw [eb];have h6:num (((dig 7 3++(dig 63 6++[])).drop 3).take 6)=63:=by rw [cG];exact cS (by decide) _
  refine .tbad (lx hT hl (.rep (by rw [Bj,Al];lia) (by rw [dl,dl];decide) h7 (.done ?_))) ?_
  ·rw [Bj,Ac,Al,Al,h6];lia
  ·rw [Bj,Ac,Al,Al,h6];lia
 ·refine .tno ?_;rw [eb];rcases A2 m (3*n) with h|h
  ·exact nP hT hl (by rw [Al];exact h)
  ·have e1:(bitsP (tab (List.replicate n c))++(dig 7 3++(dig 63 6++[]))).take m=bitsP (tab (List.replicate n c))++(dig 7 3++(dig 63 6++[])).take (m-3*n):=by
    rw [Dt,A3 (by rw [aV,dF,Al];exact h),aV,dF,Al]
   rw [e1];have Xd:((dig 7 3++(dig 63 6++[])).take (m-3*n)).length=m-3*n:=by rw [Aq,dl,dl];show min _ 9=_;lia
   refine lx hT hl ?_;have NC:([]++List.replicate n c).length<272:=by rw [Bj,Al];lia
   rcases A2 (m-3*n) 3 with h3|h3
   ·exact .e3 NC (by rw [Xd];exact h3)
   ·exact .e6 NC (by rw [Xd];exact h3) (by rw [tt h3];exact h7) (by rw [Xd];lia)
structure IG (L:'c')(n:Nat):Prop where
 len:L.length=272
 z:∀l∈L,l=0\/l=6
 c:L.count 6≤n
def IG.zero:IG (List.replicate 272 0) 0:=⟨by rw [Al],λ l h=>.inl (BY h),by rw [List.count_replicate];decide⟩
theorem IG.set (h:IG L n):IG (L.set i 6) (n+1):=by
 refine⟨by rw [Ek];exact h.len,λ l hl=>?_,?_⟩
 ·rcases List.mem_or_eq_of_mem_set hl with q|q
  ·exact h.z l q
  ·exact .inr q
 ·have:=h.c;rcases A2 i L.length with q|q
  ·rw [List.count_set q];simp;lia
  ·rw [List.set_eq_of_length_le q];lia
def wa (h:∀l∈L,l=0\/l=6):krf 12 L=64*L.count 6:=by
 induction L with
 |nil=>rfl
 |cons l L ih=>
  have e:=gv 12 [l] L;rw [Cm] at e;rw [e,ih λ x hx=>h x (Az _ hx),DC];rcases h l AE with rfl|rfl
  ·show 0+_=_;simp
  ·show 64+_=_;simp;lia
def IG.good {n q:Nat}(h:IG L n)(hn:n≤10)(hq:L[q]?=some 6):Good L:=by
 refine⟨by rw [h.len];decide,by rw [h.len];decide,λ l hl=>?_,⟨6,AX hq,by decide⟩,?_⟩
 ·rcases h.z l hl with rfl|rfl<;>decide
 ·rw [wa h.z];have:=h.c;lia
def IG.lt7 (h:IG L n):∀l∈L,l<7:=λ l hl=>by rcases h.z l hl with rfl|rfl<;>decide
def cd6 (L:'c')(q:Nat):Nat:=(L.take q).count 6
def IG.cd {L:'c'}(h:IG L n)(q):cdAt L q 6=cd6 L q:=by
 have c0:∀j,j≠0->j≠6->L.count j=0:=λ j h0 h6=>Fm.mpr λ hj=>by rcases h.z j hj with q|q<;>contradiction
 have e:ed L 5=0:=by simp [ed,c0]
 show 2*ed L 5+_=_;rw [e];exact DA _
def IG.cd_lt {L:'c'}(h:IG L n)(hn:n≤10)(q):cd6 L q≤10:=by
 have:=(DK q L).count_le 6;exact Ai this (Ai h.c hn)
def IG.beg {L:'c'}(h:IG L n)(hn:n≤10)(hq:L[q]?=some 6)(r)(hj:j<6):Nk L ((dig (cd6 L q) 6++r).take j):=by
 have hc:cd6 L q<2^6:=Be (h.cd_lt hn q) (by decide);have hl:(dig (cd6 L q) 6).length=6:=Gk _ _;rw [ET (by rw [hl];lia)];refine⟨q,6,hq,by rw [Aq,hl];lia,?_⟩;rw [h.cd,lW _ (by rw [hl];lia),Aq,hl,gA,CI hc,Bu (B9 hj)]
def IG.due {L:'c'}(h:IG L n)(hn:n≤10)(hq:L[q]?=some 6)(r):Due L (dig (cd6 L q) 6++r) (.thing q 6):=by
 have hc:cd6 L q<2^6:=Be (h.cd_lt hn q) (by decide);have e:(dig (cd6 L q) 6++r).take 6=dig (cd6 L q) 6:=List.take_left' (Gk _ _);refine⟨by rw [dl];lia,?_,λ j hj=>h.beg hn hq r hj⟩;rw [e];unfold dQ;rw [Gk,gA,CI hc,h.cd];exact⟨hq,by decide,rfl⟩
theorem IG.none {L:'c'}(h:IG L n)(hn:n≤10)(hq:L[q]?=some 6)(r)(hm:m<6):Due L ((dig (cd6 L q) 6++r).take m) .none:=λ j hj=>by
 have hj6:j≤m:=Ai hj (by rw [Aq];lia);rw [tt hj6];exact h.beg hn hq r (by lia)
def cods (L:'c')(S:'c'):List (Nat×Nat):=S.map λ q=>(cd6 L q,6)
def gU (L S:'c'):tots (cods L S)=6*S.length:=by
 induction S with
 |nil=>rfl
 |cons q S ih=>show tots ((cd6 L q,6)::cods L S)=_;rw [bU,ih,Ar];show 6+_=_;lia
def ko (L:'c')(q)(S)(r):bitsP (cods L (q::S))++r=dig (cd6 L q) 6++(bitsP (cods L S)++r):=by
 show bitsP ((cd6 L q,6)::cods L S)++r=_;rw [aZ,An]
theorem va (h:IG L k)(hk:k≤10):∀S {n},(∀q∈S,q<256/\L[q]?=some 6)->n+S.length<e->Lk L e (n+S.length) r z->Lk L e n (bitsP (cods L S)++r) z
 | [],_,_,_,h=>h
 |q::S,n,hS,hn,hr=>by
  rw [Ar] at hn hr;rw [ko];obtain⟨h1,h2⟩:=hS q AE;refine .sg (by lia) (h.due hk h2 _) h1 ?_;rw [cG];exact va h hk S (λ x hx=>hS x (Az _ hx)) (by lia) (by rw [show n+1+S.length=n+(S.length+1) by lia];exact hr)
theorem vg {L:'c'}(h:IG L k)(hk:k≤10):∀S {n m},(∀q∈S,q<256/\L[q]?=some 6)->n+S.length<e->m<6*S.length->Lk L e n ((bitsP (cods L S)++r).take m) false
 | [],_,_,_,_,h=>absurd h (Dc _)
 |q::S,n,m,hS,hn,hm=>by
  rw [Ar] at hn hm;rw [ko];obtain⟨h1,h2⟩:=hS q AE;rcases A2 m 6 with c|c
  ·exact .no (by lia) (h.none hk h2 _ c)
  ·have e1:(dig (cd6 L q) 6++(bitsP (cods L S)++r)).take m=dig (cd6 L q) 6++(bitsP (cods L S)++r).take (m-6):=by
    rw [Dt,A3 (by rw [Gk];exact c),Gk]
   rw [e1];refine .sg (by lia) (h.due hk h2 _) h1 ?_;rw [cG];exact vg h hk S (λ x hx=>hS x (Az _ hx)) (by lia) (by lia)
def lS {L S:'c'}{q0:Nat}(h:IG L k)(hk:k≤10)(h0:L[q0]?=some 6)(hl:S.length≤8)(r1:1≤room)(hS:∀q∈S,q<256/\L[q]?=some 6)(hq:tots qs≤24)(hq1:∀q∈qs,q.2≤24)
  (hb:Lk L (ah+(S.length+room)) (ah+S.length) (bitsP qs) true) (hc:∀m,m<tots qs->Lk L (ah+(S.length+room)) (ah+S.length) ((bitsP qs).take m) false):BodyOk 3 (S.length+room) ah (tab L++cods L S++qs):=by
 have hT:=h.lt7;have hlen:=h.len;have G:=h.good hk h0;have ht:tots (tab L++cods L S++qs)=816+6*S.length+tots qs:=by rw [aR,aR,dF,gU,hlen]
 have eb:bitsP (tab L++cods L S++qs)=bitsP (tab L)++(bitsP (cods L S)++bitsP qs):=by rw [cm,cm,An]
 have VN:([]:'c').length+L.length≤272:=by rw [hlen];decide
 have it:∀r,Jf [] 0 (bitsP (tab L)++r) (some (L,r)):=λ r=>lx hT VN (.done (A5 (by rw [Bj,hlen])))
 refine⟨λ q hq=>?_,by lia,by lia,?_,λ m hm=>?_⟩
 ·rcases AR.mp hq with h|h
  ·rcases AR.mp h with h|h
   ·exact nU _ q h
   ·obtain⟨s,_,rfl⟩:=BH.mp h;show 6≤24;decide
  ·exact hq1 q h
 ·rw [eb];exact .ok (it _) hlen G (va h hk S hS (by lia) hb)
 ·rw [eb];rcases A2 m 816 with c|c
  ·exact .tno (nP hT VN (by rw [hlen];exact c))
  ·have e1:(bitsP (tab L)++(bitsP (cods L S)++bitsP qs)).take m=bitsP (tab L)++(bitsP (cods L S)++bitsP qs).take (m-816):=by
    rw [Dt,A3 (by rw [aV,dF,hlen];exact c),aV,dF,hlen]
   rw [e1];refine .ok (it _) hlen G ?_;rcases A2 (m-816) (6*S.length) with c2|c2
   ·exact vg h hk S hS (by lia) c2
   ·have e2:(bitsP (cods L S)++bitsP qs).take (m-816)=bitsP (cods L S)++(bitsP qs).take (m-816-6*S.length):=by
     rw [Dt,A3 (by rw [aV,gU];exact c2),aV,gU]
    rw [e2];exact va h hk S hS (by lia) (hc _ (by lia))
def so {L S:'c'}{k room ah q0:Nat}(h:IG L k)(hk:k≤10)(h0:L[q0]?=some 6)(hl:S.length≤8)(r1:1≤room)(hS:∀q∈S,q<256/\L[q]?=some 6):BodyOk 3 (S.length+room) ah (tab L++cods L S++[(1,1)]):=by
 have G:=h.good hk h0;have e1:bitsP [(1,1)]=[true]:=rfl;refine lS h hk h0 hl r1 hS (by decide) (λ q hq=>by rw [As.mp hq];decide) ?_ λ m hm=>?_
 ·rw [e1];refine .bad (by lia) ⟨1,Ak _,λ j hj=>?_,?_,?_⟩
  ·obtain rfl:j=0:=by lia
   exact pj G
  ·rintro⟨q,s,hq,hs,hc⟩;have h6:s=6:=by
    rcases h.z s (AX hq) with rfl|rfl
    ·exact absurd hs (Dc _)
    ·rfl
   subst h6;rw [h.cd] at hc;have h1:=h.cd_lt hk q;have h2:cd6 L q/2^(6-([true].take 1).length)=0:=EQ (Be h1 (by decide));rw [h2] at hc;exact absurd hc (by decide)
  ·rintro q ⟨hq,_⟩;rcases h.z _ (AX hq) with z|z<;>exact absurd z (by decide)
 ·obtain rfl:m=0:=by
   have:m<1:=hm;lia
  refine .no (by lia) λ j hj=>?_
  obtain rfl:j=0:=Nat.le_zero.mp hj;exact pj G
def qY {L S:'c'}{k room ah bk sz:Nat}(h:IG L k)(hk:k≤10)(h0:L[253+sz]?=some 6)(hl:S.length≤8)(r1:1≤room)(hS:∀q∈S,q<256/\L[q]?=some 6)(hb:bk<256)(Rh:3≤sz)(JQ:room<sz\/bk=0\/ah+S.length<bk):
  BodyOk 3 (S.length+room) ah (tab L++cods L S++[(cd6 L (253+sz),6),(bk,8)]):=by
 have e1:bitsP [(cd6 L (253+sz),6),(bk,8)]=dig (cd6 L (253+sz)) 6++(dig bk 8++[]):=by rw [aZ,aZ];rfl
 refine lS h hk h0 hl r1 hS (AZ rfl) (λ q hq=>by simp at hq;rcases hq with rfl|rfl<;>exact AZ rfl) ?_ λ m hm=>?_
 ·rw [e1];refine .cp (by lia) (h.due hk h0 _) (by lia) (by rw [cG,dl];lia) ?_;rw [cG,cS hb];lia
 ·rw [e1];have hm:m<14:=hm;rcases A2 m 6 with c|c
  ·exact .no (by lia) (h.none hk h0 _ c)
  ·have e2:(dig (cd6 L (253+sz)) 6++(dig bk 8++[])).take m=dig (cd6 L (253+sz)) 6++(dig bk 8++[]).take (m-6):=by
    rw [Dt,A3 (by rw [Gk];exact c),Gk]
   rw [e2];exact .c8 (by lia) (h.due hk h0 _) (by lia) (by rw [cG,Aq];lia)
end K21.M
namespace K21.Ck
open PySem L2 QQ W17 W16 BP K21.M
def Ev (te:TE)(σ:St)(H:Hp)(Φ:V->Hp->Prop):Prop:=∀H1,C' H H1->∀Q,(∀v H',C' H1 H'->Φ v H'->Q v H')->te σ H1 Q
def LsV (A:'c'):V->Hp->Prop:=λ v H=>∃l,v=.ref l/\H l=↥(A.map vN)
abbrev Ls (te:TE)(σ:St)(H:Hp)(A:'c'):Prop:=Ev te σ H (LsV A)
abbrev Vl (te:TE)(σ:St)(H:Hp)(v:V):Prop:=Ev te σ H λ x _=>x=v
def Ta (ta:TA)(σ:St)(H:Hp)(vs:List V):Prop:=∀H1,C' H H1->∀Q,(∀H',C' H1 H'->Q vs H')->ta σ H1 Q
def Po (t:TO)(σ:St)(H:Hp)(o:Option Int):Prop:=∀H1,C' H H1->∀Q,(∀H',C' H1 H'->Q o H')->t σ H1 Q
def Ts (t:TT)(σ:St)(H:Hp)(b:Bool):Prop:=∀H1,C' H H1->∀Q,(∀H',C' H1 H'->Q b H')->t σ H1 Q
def Ev.go (h:Ev te σ H Φ)(k:∀v H',C' H H'->Φ v H'->Q v H'):te σ H Q:=h H (C'.refl H) Q k
def Ls.go {σ:St}{H:Hp}(h:Ls te σ H A)(k:∀l H',C' H H'->H' l=↥(A.map vN)->Q (.ref l) H'):te σ H Q:=h H (C'.refl H) Q λ v H' s z9=>by obtain⟨l,e,hl⟩:=z9;exact by subst e;exact k l H' s hl
def Vl.go (h:Vl te σ H v)(k:∀H',C' H H'->Q v H'):te σ H Q:=h H (C'.refl H) Q λ x H' s e=>by subst e;exact k H' s
def Ts.go (h:Ts t σ H b)(k:∀H',C' H H'->Q b H'):t σ H Q:=h H (C'.refl H) Q k
def Ls.var {σ:St}{H:Hp}(h:σ[i]?=some ↑a)(ha:H a=↥(A.map vN)):Ls (Gs i) σ H A:=λ H1 s Q k=>⟨_,h,k _ H1 (C'.refl H1) ⟨a,rfl,s _ _ ha⟩⟩
def Vl.var (h:σ[i]?=some (some v)):Vl (Gs i) σ H v:=λ H1 s Q k=>⟨_,h,k _ H1 (C'.refl H1) rfl⟩
def Vl.c:Vl (tC v) σ H v:=λ H1 s Q k=>k _ H1 (C'.refl H1) rfl
def Vl.op0 (ha:Vl a σ H (.int i))(hb:Vl b σ H (.int j))(e:g i j=v):Vl (Im (LV g) a b) σ H v:=λ H1 s Q k=>by
 subst e;exact ha H1 s _ λ x H2 s2 e2=>hb H2 (s.trans s2) _ λ y H3 s3 e3=>⟨i,j,e2,e3,k _ H3 (s2.trans s3) rfl⟩
def Vl.op (ha:Vl a σ H (.int i))(hb:Vl b σ H (.int j))(hc:C i j)(e:g i j=v):Vl (Im (rI C g) a b) σ H v:=λ H1 s Q k=>by
 subst e;exact ha H1 s _ λ x H2 s2 e2=>hb H2 (s.trans s2) _ λ y H3 s3 e3=>⟨i,j,e2,e3,hc,k _ H3 (s2.trans s3) rfl⟩
def Vl.len {K:Frag}{H:Hp}(h:Ls t σ H A)(e:v=vN A.length):Vl (Qe (λ xs H Q=>∃p ys,xs=[.ref p]/\(Gf K H p ys\/GF K H p ys)/\Q (.int ys.length) H) (aP t bF)) σ H v:=λ H1 s Q k=>by
 subst e;refine h H1 s _ λ x H2 s2 ⟨l,e2,hl⟩=>⟨l,_,by rw [e2],.inl (Gf.of hl),?_⟩
 rw [Aa];exact k _ H2 s2 rfl
def Ls.cat {σ:St}{H:Hp}(ha:Ls a σ H A)(hb:Ls b σ H B)(hl:A.length+B.length≤2000):Ls (Im MX a b) σ H (A++B):=λ H1 s Q k=>by
 refine ha H1 s _ λ x H2 s2 ⟨l,e2,h2⟩=>hb H2 (s.trans s2) _ λ y H3 s3 ⟨m,e3,h3⟩=>⟨l,m,_,_,e2,e3,s3 _ _ h2,h3,by rw [Aa,Aa];exact bG hl,λ p hp=>k _ _ ((s2.trans s3).trans (ak hp)) ⟨p,rfl,?_⟩⟩
 rw [af,Aw]
def Ta.nil:Ta bF σ H []:=λ H1 _ Q k=>k H1 (C'.refl H1)
def Ta.cons (h:Vl t σ H v)(g:Ta ta σ H vs):Ta (aP t ta) σ H (v::vs):=λ H1 s Q k=>by
 refine h H1 s _ λ x H2 s2 e=>?_
 subst e;exact g H2 (s.trans s2) _ λ H3 s3=>k H3 (s2.trans s3)
def Ls.lst {σ:St}{H:Hp}(h:Ta ta σ H (A.map vN))(hl:A.length≤2000):Ls (gh ta) σ H A:=λ H1 s Q k=>by
 exact h H1 s _ λ H2 s2=>⟨by rw [Aa];exact bG hl,λ p hp=>k _ _ (s2.trans (ak hp)) ⟨p,rfl,af⟩⟩
def Po.no:Po gK σ H none:=λ H1 _ Q k=>k H1 (C'.refl H1)
def Po.at (h:Vl t σ H (.int i)):Po (iY t) σ H (some i):=λ H1 s Q k=>h H1 s _ λ x H2 s2 e=>⟨i,e,k H2 s2⟩
def Ls.sl {K:Frag}{H:Hp}(h:Ls t σ H A)(hl:Po lo σ H o)(hh:Po hi σ H p)(e:cutV (A.map vN) o p=B.map vN):Ls (Q0 (MW K) t lo hi) σ H B:=λ H1 s Q k=>by
 refine h H1 s _ λ x H2 s2 ⟨l,e2,h2⟩=>hl H2 (s.trans s2) _ λ H3 s3=>hh H3 ((s.trans s2).trans s3) _ λ H4 s4=>⟨l,_,e2,Gf.of (s4 _ _ (s3 _ _ h2)),λ q hq=>?_⟩
 rw [e];exact k _ _ ((s2.trans s3).trans (s4.trans (ak hq))) ⟨q,rfl,af⟩
def Ls.upto {K:Frag}{H:Hp}(h:Ls t σ H A)(hh:Vl hi σ H (vN n)):Ls (Q0 (MW K) t gK (iY hi)) σ H (A.take n):=h.sl .no (.at hh) (by rw [nj,Eh])
def Ls.fro {K:Frag}{H:Hp}(h:Ls t σ H A)(hh:Vl lo σ H (vN n)):Ls (Q0 (MW K) t (iY lo) gK) σ H (A.drop n):=h.sl (.at hh) .no (by rw [uF,E3])
def Ts.eq (ha:Vl a σ H x)(hb:Vl b σ H y)(hs:yi x y=true)(e:c=decide (x=y)):Ts (fE (Im Sj a b)) σ H c:=λ H1 s Q k=>by
 subst e;exact ha H1 s _ λ v H2 s2 e2=>hb H2 (s.trans s2) _ λ u H3 s3 e3=>by
  subst e2 e3;exact⟨hs,_,rfl,k H3 (s2.trans s3)⟩
def uM (h:Ts t σ H false)(k:∀H',C' H H'->v D σ H'):yC t u v D σ H:=h.go λ H' s=>by
 show(if false=true then _ else _);rw [AH Ax];exact k H' s
abbrev LG (te:TE)(σ:St)(H:Hp)(vs:List V):Prop:=Ev te σ H λ v H'=>∃l,v=.ref l/\H' l=↥vs
def LG.lst (h:Ta ta σ H vs)(hl:vs.length≤2000):LG (gh ta) σ H vs:=λ H1 s Q k=>h H1 s _ λ H2 s2=>⟨bG hl,λ p hp=>k _ _ (s2.trans (ak hp)) ⟨p,rfl,af⟩⟩
def LG.cat (ha:LG a σ H A)(hb:LG b σ H B)(hl:A.length+B.length≤2000):LG (Im MX a b) σ H (A++B):=λ H1 s Q k=>
 ha H1 s _ λ x H2 s2 z9=>by obtain⟨l,e2,h2⟩:=z9;exact hb H2 (s.trans s2) _ λ y H3 s3 ⟨m,e3,h3⟩=>⟨l,m,_,_,e2,e3,s3 _ _ h2,h3,bG hl,λ p hp=>k _ _ ((s2.trans s3).trans (ak hp)) ⟨p,rfl,af⟩⟩
def x8 {σ:St}{te:TE}(h:Ls te σ H A)(k:∀l H',C' H H'->H' l=↥(A.map vN)->D.nx (σ.set i ↑l) H'):nX te (bw i) D σ H:=h.go k
def eJ (h:Vl te σ H v)(k:∀H',C' H H'->D.nx (σ.set i (some v)) H'):nX te (bw i) D σ H:=h.go k
def gc (h:Ev te σ H Φ)(k:∀v H',C' H H'->Φ v H'->D.nx (σ.set i (some v)) H'):nX te (bw i) D σ H:=h.go k
def fj (h:Ev te σ H Φ)(k:∀v H',C' H H'->Φ v H'->D.rt v H'):yc te D σ H:=h.go k
def QE (ps:List (Nat×Nat)):V->Hp->Prop:=λ v H=>∃l ts,v=.ref l/\H l=↥(ts.map V.ref)/\Ie H ts ps
abbrev Pl (te:TE)(σ:St)(H:Hp)(ps:List (Nat×Nat)):Prop:=Ev te σ H (QE ps)
def RM (ta:TA)(σ:St)(H:Hp)(ps:List (Nat×Nat)):Prop:=∀H1,C' H H1->∀Q,(∀ts H',C' H1 H'->Ie H' ts ps->Q (ts.map V.ref) H')->ta σ H1 Q
theorem RM.nil:RM bF σ H []:=λ H1 _ Q k=>k [] H1 (C'.refl H1) .nil
theorem RM.cons (h1:Vl t1 σ H (vN x))(h2:Vl t2 σ H (vN y))(g:RM ta σ H ps):RM (aP (iq (aP t1 (aP t2 bF))) ta) σ H ((x,y)::ps):=λ H1 s Q k=>
 h1 H1 s _ λ v1 H2 s2 e1=>h2 H2 (s.trans s2) _ λ v2 H3 s3 e2=>by
  subst e1 e2;refine⟨(by show 2≤sizeLine;decide),λ p hp=>?_⟩;have s4:=ak (o:=.tup [vN x,vN y]) hp;exact g _ (((s.trans s2).trans s3).trans s4) _ λ ts H' s5 hP=>k (p::ts) H' (((s2.trans s3).trans s4).trans s5) (.cons (s5 _ _ af) hP)
def Pl.lst (h:RM ta σ H ps)(hl:ps.length≤2000):Pl (gh ta) σ H ps:=λ H1 s Q k=>h H1 s _ λ ts H2 s2 hP=>⟨bG (by rw [Aa,hP.len];exact hl),λ p hp=>k _ _ (s2.trans (ak hp)) ⟨p,ts,rfl,af,hP.mono (ak hp)⟩⟩
def Pl.cat (ha:Pl a σ H ps)(hb:Pl b σ H qs)(hl:ps.length+qs.length≤2000):Pl (Im MX a b) σ H (ps++qs):=λ H1 s Q k=>
 ha H1 s _ λ x H2 s2 z9=>by obtain⟨l,ts,e2,h2,hP⟩:=z9;exact hb H2 (s.trans s2) _ λ y H3 s3 ⟨m,us,e3,h3,hQ⟩=>⟨l,m,_,_,e2,e3,s3 _ _ h2,h3,bG (by rw [Aa,Aa,hP.len,hQ.len];exact hl),λ p hp=>k _ _ ((s2.trans s3).trans (ak hp)) ⟨p,ts++us,rfl,by rw [af,Aw],(hP.mono (s3.trans (ak hp))).app (hQ.mono (ak hp))⟩⟩
def Pl.var (h:σ[i]?=some (some v))(hv:QE ps v H):Pl (Gs i) σ H ps:=λ H1 s Q k=>⟨_,h,k _ H1 (C'.refl H1) (by
 obtain⟨l,ts,e,hl,hP⟩:=hv;exact⟨l,ts,e,s _ _ hl,hP.mono s⟩)⟩
end K21.Ck
namespace K21.Ck
open PySem L2 QQ W17 W16 BP K21.M
seal PE PA PS PSs PT PW PG PI
abbrev gF:F5:=top 99
abbrev jb:F5:=top 100
abbrev jB:F5:=top 101
def aY (c)(h:0<d):∃x:Nat,c%d=(x:Int)/\(x:Int)<d:=by
 have h1:=Int.emod_nonneg c (Int.ne_of_gt h);have h2:=Int.emod_lt_of_pos c h;exact⟨(c%d).toNat,by lia,by lia⟩
def rbx (c:Int)(rm:Nat):Nat:=rm+(c%(64-(rm:Int))).toNat
def rby (c:Int):Nat:=(c/64%256).toNat
def xu (c:Int)(h:rm≤9):rm≤rbx c rm/\rbx c rm<64:=by
 obtain⟨x,ex,hx⟩:=aY c (show(0:Int)<64-(rm:Int) by lia);unfold rbx;rw [ex];lia
inductive IK (vs:List V) (H:Hp) (Q:VK) (Gj:XK):Prop
 |mk (c:Int) (rm:Nat) (h0:vs=[.int c,vN rm]) (h1:rm≤9) (h2:∀v H',C' H H'->QE [(rbx c rm,6),(rby c,8)] v H'->Q v H'):IK vs H Q Gj
abbrev t8:List Str:=["_law_cell","_law_room"]
def qM:y' t8 ["_law_cell","_law_room"] (am gF):=Gw Z8
def oE {P:FU}(F:'h' "_law_run_body" gF ["_law_cell","_law_room"] f fd):'a' Gn 1 f fd ["_law_cell","_law_room"] IK:=by
 refine F.F.ok qM ?_
 intro 'a';obtain⟨c,rm,rfl,h9,k⟩:=h;refine⟨_,ag (aB (aH (aa (aO (aa (ao aI (pv 1) (ao aQ (pv 0) (ao bd ae (pv 1)))) (aa ae ac))) (aa (aO (aa (ao aQ (ao bo (pv 0) ae) ae) (aa ae ac))) ac)))),?_⟩;obtain⟨x,ex,hx⟩:=aY c (show(0:Int)<64-(rm:Int) by lia);obtain⟨y,ey,_⟩:=aY (c/64) (show(0:Int)<256 by decide);have e1:rbx c rm=rm+x:=by unfold rbx;rw [ex];rfl
 have e2:rby c=y:=by unfold rby;rw [ey];rfl
 rw [e1,e2] at k;exact fj (Pl.lst (.cons (.op0 (.var rfl) (.op (.var rfl) (.op0 .c (.var rfl) rfl) (by show(0:Int)<64-(rm:Int);lia) rfl) (by rw [ex];rfl)) .c (.cons (.op (.op (.var rfl) .c ⟨Z9,Z9⟩ rfl) .c (by show(0:Int)<256;decide) (by rw [ey])) .c .nil)) (AZ rfl)) k
def PtV (rm th:Nat)(v:V)(H:Hp):Prop:=∃t bk sz:Nat,v=.ref t/\H t=some (.tup [vN bk,vN sz])/\bk<256/\3≤sz/\sz≤18/\(rm<sz\/bk=0\/th<bk)
inductive Mq (vs:List V) (H:Hp) (Q:VK) (Gj:XK):Prop
 |mk (c:_) (th:_) (rm:_) (h0:vs=[.int c,vN th,vN rm]) (h1:th≤200) (h2:1≤rm) (h3:rm≤9) (h4:∀v H',C' H H'->PtV rm th v H'->Q v H'):Mq vs H Q Gj
abbrev yk:List Str:=["_law_cell","_law_there","_law_room"]
def wR:y' yk Jaj (am jb):=Gw Z8
def vP:∃v,(v=0\/v=a)/\O5 [V.int 0,vN a] (c%2)=some (vN v):=by
 rcases(show c%2=0\/c%2=1 by lia) with e|e<;>rw [e]
 ·exact⟨0,.inl rfl,aD rfl⟩
 ·exact⟨a,.inr rfl,aD rfl⟩
def mi (F:'h' "_law_copy_parts" jb Jaj f fd)(X:K21.Txt K mg):'a' Gn 31 f fd Jaj Mq:=by
 refine F.F.ok wR ?_
 intro 'a';obtain⟨c,th,rm,rfl,hth,h1,h9,k⟩:=h;have hn:=hr.hd Z9;refine⟨_,ad (aM (PW.pt (lf (aA bE (ao aQ (pv 0) ae) ae (aC _)) (iE (aA eO (pv 2) ae (aC _))))) (ag (aB (aO (aa (ao aI ae (ao aQ (ao bo (pv 0) ae) (ay (fD hn) Z7 X.max C4 (aa ae (aa (pv 1) ac))))) (aa (ao aI (ay (fD hn) Z7 X.max C4 (aa ae (aa (ao aI (pv 2) ae) ac))) (ao aQ (ao bo (pv 0) ae) (ao bd ae (ay (fD hn) Z7 X.max C4 (aa ae (aa (ao aI (pv 2) ae) ac)))))) ac))))) aF)
   (ad (aM (PW.pt (lf (aA bE (ao aQ (pv 0) ae) ae (aC _)) (iE (aA eO (pv 1) ae (aC _))))) (ag (aB (aO (aa (ao aI (ao aI (pv 1) ae) (aU aW (aH (aa ae (aa (ao aQ (ao bo (pv 0) ae) (ao bd ae (pv 1))) ac))) (ao aQ (ao bo (pv 0) ae) ae) (λ _ _=>rfl))) (aa (ao aI ae (ao aQ (ao bo (pv 0) ae) ae)) ac))))) aF)
   (ag (aB (aO (aa ae (aa (ao aI ae (ao aQ (ao bo (pv 0) ae) ae)) ac)))))),?_⟩
 obtain⟨z,ez,hz⟩:=aY (c/3) (show(0:Int)<16 by decide);have fin:∀v H1 t bk sz,C' H H1->v=.ref t->H1 t=some (.tup [vN bk,vN sz])->bk<256->3≤sz->sz≤18->(rm<sz\/bk=0\/th<bk)->Q v H1:=λ v H1 t bk sz s e h1 h2 h3 h4 h5=>k v H1 s ⟨t,bk,sz,e,h1,h2,h3,h4,h5⟩
 refine aw λ R1 g1=>⟨_,rfl,_,_,rfl,rfl,(by show(0:Int)<3;decide),rfl,_,rfl,bc (λ h=>?_) (λ h=>g1 _ _ ?_)⟩
 ·clear g1;refine⟨_,rfl,_,_,rfl,rfl,_,rfl,bc (λ _=>?_) (λ h=>absurd (Ae (show(rm:Int)<18 by lia)) h)⟩;obtain⟨m1,em1,OA⟩:∃m,(if(th:Int)>1 then(th:Int) else 1)=(m:Int)/\1≤m/\m≤200:=⟨if th>1 then th else 1,by split<;>split<;>lia,by split<;>lia⟩;obtain⟨m2,em2,PB⟩:∃m:Nat,(if(rm:Int)+1>3 then(rm:Int)+1 else 3)=(m:Int)/\3≤m/\rm+1≤m/\m≤10:=⟨if rm+1>3 then rm+1 else 3,by split<;>split<;>lia,by split<;>lia⟩;obtain⟨b,eb,hb⟩:=aY (c/3) (show(0:Int)<(m1:Int) by lia);obtain⟨d,ed,hd⟩:=aY (c/3) (show(0:Int)<19-(m2:Int) by lia);refine⟨_,rfl,_,_,rfl,rfl,⟨Z9,Z9⟩,_,rfl,_,_,rfl,?_⟩
  try dsimp only
  rw [em1];refine⟨_,_,rfl,rfl,(by show(0:Int)<(m1:Int);lia),_,_,rfl,rfl,_,rfl,_,_,rfl,rfl,_,_,rfl,_,rfl,_,_,rfl,rfl,⟨Z9,Z9⟩,_,rfl,_,_,rfl,rfl,_,_,rfl,?_⟩
  try dsimp only
  rw [em2];refine⟨_,_,rfl,rfl,_,_,rfl,rfl,(by show(0:Int)<19-(m2:Int);lia),_,_,rfl,rfl,(by show 2≤sizeLine;decide),λ t nt=>?_⟩
  try dsimp only
  rw [eb,ed];exact fin _ _ t (1+b) (m2+d) (ak nt) rfl (by rw [af];rfl) (by lia) (by lia) (by lia) (.inl (by lia))
 ·clear g1;refine aw λ R1 g1=>⟨_,rfl,_,_,rfl,rfl,(by show(0:Int)<3;decide),rfl,_,rfl,bc (λ h=>?_) (λ h=>g1 _ _ ?_)⟩
  ·clear g1;refine⟨_,rfl,_,_,rfl,rfl,_,rfl,bc (λ _=>?_) (λ h=>absurd (Ae (show(th:Int)<255 by lia)) h)⟩;obtain⟨b,eb,hb⟩:=aY (c/6) (show(0:Int)<255-(th:Int) by lia);obtain⟨y,hy,ey⟩:=vP;refine⟨_,rfl,_,_,rfl,rfl,_,rfl,_,_,rfl,rfl,⟨Z9,Z9⟩,_,rfl,_,_,rfl,rfl,_,_,rfl,rfl,(by show(0:Int)<255-(th:Int);lia),(by show 2≤sizeLine;decide),λ l nl=>?_⟩
   try dsimp only at nl
   try dsimp only
   rw [eb];refine⟨_,rfl,_,_,rfl,rfl,⟨Z9,Z9⟩,_,_,rfl,rfl,(by show(0:Int)<2;decide),l,_,_,_,rfl,rfl,Gf.of af,ey,_,_,rfl,rfl,_,rfl,_,_,rfl,rfl,⟨Z9,Z9⟩,_,_,rfl,rfl,(by show(0:Int)<16;decide),_,_,rfl,rfl,(by show 2≤sizeLine;decide),λ t nt=>?_⟩
   try dsimp only
   rw [ez];exact fin _ _ t (th+1+y) (3+z) ((ak nl).trans (ak nt)) rfl (by rw [af];rfl) (by lia) (by lia) (by lia) (.inr (.inr (by lia)))
  ·refine⟨_,rfl,_,_,rfl,rfl,⟨Z9,Z9⟩,_,_,rfl,rfl,(by show(0:Int)<16;decide),_,_,rfl,rfl,(by show 2≤sizeLine;decide),λ t nt=>?_⟩
   try dsimp only
   rw [ez];exact fin _ _ t 0 (3+z) (ak nt) rfl (by rw [af];rfl) (by lia) (by lia) (by lia) (.inr (.inl rfl))
end K21.Ck
namespace L2
open PySem PySem.Spec PyProof.Rows QQ
def tj {K:Frag}{g:TG}{te:TE}{R:Hp->Prop}(Pv:Nat->List V->St->Hp->Prop)(h0:Pv 0 [] σ0 (upd H1 l (.lst [])))(hl:∀i ys σ H,i≤xs.length->Pv i ys σ H->Gf K H a xs)
  (hs:∀i x ys σ H,xs[i]?=some x->Pv i ys σ H->g x σ H λ σ3 H3=>te σ3 H3 λ y H4=>H4 l=↥ys/\ys.length<sizeLine/\Pv (i+1) (ys++[y]) σ3 (upd H4 l (.lst (ys++[y]))))
  (hd:∀ys σ H,Pv xs.length ys σ H->R H) (mg:∀x σ H (A B:St->Hp->Prop),(∀σ' H',A σ' H'->B σ' H')->g x σ H A->g x σ H B) (mt:∀σ H (A B:VK),(∀v H',A v H'->B v H')->te σ H A->te σ H B):
  ∃W:Nat->Nat->List V->St->Hp->Prop,(∃m,W 0 m [] σ0 (upd H1 l (.lst [])))/\∀i m ys σ' H',W i m ys σ' H'->
   ((L7 K a).stop i H'/\R H')\/((L7 K a).go i H'/\∀x H2,(L7 K a).yld i H' x H2->g x σ' H2 λ σ3 H3=>te σ3 H3 λ y H4=>
    H4 l=↥ys/\ys.length<sizeLine/\∃m',m'<m/\W (i+1) m' (ys++[y]) σ3 (upd H4 l (.lst (ys++[y])))):=by
 refine⟨λ i m ys σ H=>m=xs.length-i/\i≤xs.length/\Pv i ys σ H,⟨xs.length,Z6,A1 _,h0⟩,?_⟩;rintro i m ys σ H ⟨rfl,hi,p⟩;have q:=hl i ys σ H hi p;by_cases F9:i<xs.length
 ·refine .inr ⟨⟨xs,xs[i],q,by simp [F9]⟩,λ x H' y=>?_⟩;obtain⟨e,y⟩:=y;subst e;exact mg _ _ _ _ _ (λ σ3 H3 z=>mt _ _ _ _ (λ y H4 z9=>by obtain⟨z1,z2,z4⟩:=z9;exact⟨z1,z2,xs.length-(i+1),Bs _ _ F9,rfl,F9,z4⟩) z) (hs i x ys σ _ (y xs q) p)
 ·have e:i=xs.length:=A8 hi (Nat.not_lt.1 F9);subst e;exact .inl ⟨⟨xs,q,Ak _⟩,hd ys σ H p⟩
end L2
namespace L2
open PySem
def rf {apos Hj:Pos}(hK:X.K=K)(ho:PE X o to)(he:PE X e te)
  (Ho:autoParam (attributeBase o "index" X.env (eval o X.env)=eval o X.env) Z0) (hs:autoParam (starEach [e] X.env=(false,eval e X.env)::starEach [] X.env) Z0)
  (QS:autoParam (((backTo Hj (starEach [e] X.env)).all (λ x=> !x.1)&&(backToKw Hj (keywordEach [] X.env)).all (λ x=>x.1.isSome)
   &&decide ([e].length+([]:List Keyword).length+(if([]:List Keyword).isEmpty then 0 else 1)<30))=true) Z0) (N1:autoParam ((apos.endLine==Hj.line)=true) Z0):
  PE X (.Call (.Attribute o "index" apos) [e] [] Hj) (Wm K "list" (Km K) to (aP te bF)):=by subst hK;exact d8 Bc PySem.F.slot_list_index PySem.F.type_list_index uE ho (aa he ac hs) Ho QS N1 hs
end L2
namespace K21.M
open BP C9 C10 W17
def ord (L:'c')(i:Nat):'c':=(List.range i).filter λ q=>decide (L.getD q 0=6)
def gH (L:'c')(i):ord L (i+1)=ord L i++(if L.getD i 0=6 then [i] else []):=by
 unfold ord;rw [E7,AQ];by_cases h:L.getD i 0=6
 ·rw [AK h,DY,AK (Ae h)];rfl
 ·rw [AH h,DY,AH (by simpa using h)];rfl
theorem pc (L:'c'):∀q,q≤L.length->(ord L q).length=cd6 L q
 |0,_=>by show 0=_;unfold cd6;rw [DV];rfl
 |q+1,h=>by
  have hq:L[q]?=some L[q]:=Ad (by lia);rw [gH,Ac,pc L q (by lia)];unfold cd6;rw [Bl,hq,AO,hq,CP];show _+(if L[q]=6 then [q] else []).length=_+List.count 6 [L[q]];by_cases c:L[q]=6
  ·rw [AK c,c];rfl
  ·rw [AH c,show List.count 6 [L[q]]=0 from Fm.mpr λ z=>c (As.mp z).symm];rfl
def yG {L:'c'}(hl:L.length=272)(hq:L[q]?=some 6):(ord L 272)[cd6 L q]?=some q/\∀i<cd6 L q,(ord L 272)[i]?≠some q:=by
 have F9:q<272:=by rw [<-hl];exact(Af.mp hq).1
 have hd:L.getD q 0=6:=by rw [AO,hq];rfl
 have e:∀n,q<n->∃r,ord L n=ord L q++q::r:=λ n h=>by
  induction n with
  |zero=>lia
  |succ n ih=>
   rcases A2 q n with z|z
   ·obtain⟨r,e⟩:=ih z;exact⟨r++_,by rw [gH,e,An];rfl⟩
   ·obtain rfl:q=n:=by lia
    exact⟨[],by rw [gH,AK hd]⟩
 obtain⟨r,e⟩:=e 272 F9;have hlen:=pc L q (by lia);rw [e];refine⟨by rw [AY (by lia),hlen,DF];rfl,λ i hi hc=>?_⟩;rw [Bg (by lia)] at hc;have:=(Cb.mp (AX hc)).1;exact absurd (C7.mp this) (BK _)
end K21.M
namespace K21.Ck
open PySem L2 QQ W17 W16 BP K21.M
seal PE PA PS PSs PT PW PG PI
abbrev iX:F5:=top 103
inductive Kp (vs:List V) (H:Hp) (Q:VK) (Gj:XK):Prop
 |mk (a:_) (L:_) (h0:vs=[.ref a]) (h1:H a=↥(L.map vN)) (h2:L.length≤300) (h3:∀v H',C' H H'->QE (tab L) v H'->Q v H'):Kp vs H Q Gj
def wJ:y' ["_law_lengths"] ["_law_lengths"] (am jB):=Gw Z8
def zK:(["_law_length"]:List Str).Nodup:=Z8
def zE {L:'c'}(h:L[i]?=some l):tab (L.take (i+1))=tab (L.take i)++[(l,3)]:=by rw [eN h];unfold tab;rw [Aw];rfl
def sR (F:'h' "_law_table" jB ["_law_lengths"] f fd):'a' Gn 1 f fd ["_law_lengths"] Kp:=by
 refine F.F.ok wJ ?_
 intro 'a';obtain⟨a,L,rfl,ha,hL,k⟩:=h;refine⟨_,ag (aB (iB rfl rfl Z8 Z8 Z8 (bi (pv 0)) (λ fp s H=>aG (i:=0) zK) (λ fp s H=>aO (aa (pv 0) (aa ae ac))))),?_⟩;refine⟨_,rfl,a,rfl,⟨_,Gf.of ha⟩,λ l nl=>?_⟩;refine iK (λ i ys H2=>∃ts,ys=ts.map V.ref/\Ie H2 ts (tab (L.take i))/\H2 l=↥ys/\C' H H2)
  ⟨[],rfl,.nil,af,ak nl⟩ (λ i ys H2 _ z9=>by obtain⟨_,_,_,_,sm⟩:=z9;exact Gf.of (sm _ _ ha)) ?_ ?_ (λ x σ H A B h z=>h _ _ z) ?_
 ·rintro i y ys σ H2 hi ⟨ts,rfl,hP,Hy,sm⟩ hσ;obtain⟨x,hx,rfl⟩:=ck hi;obtain⟨u0,rfl⟩:∃u0,σ=[u0]:=match σ,hσ with| [u0],_=>⟨u0,rfl⟩
  refine⟨_,rfl,(by show 2≤sizeLine;decide),λ t nt=>?_⟩;have st:=ak (o:=.tup [vN x,.int 3]) nt;have HI:i<L.length:=(Af.mp hx).1;have hlen:ts.length=i:=by rw [hP.len];unfold tab;rw [Aa,Aq];lia
  have Qx:Ie (upd H2 t (.tup [vN x,.int 3])) (ts++[t]) (tab (L.take (i+1))):=by
   rw [zE hx];exact(hP.mono st).app (.cons af .nil)
  have Ir:=st _ _ Hy;have s3:=sm.trans st;generalize upd H2 t (.tup [vN x,.int 3])=H3 at*;refine⟨Ir,bA (by rw [Aa,hlen];lia),rfl,ts++[t],by rw [Aw];rfl,Qx.keep λ c xs e=>?_,af,λ c o e=>?_⟩
  ·rw [aj (aT e Ir 'f')];exact e
  ·rw [aj (ai e nl)];exact s3 _ _ e
 ·rintro ys H2 ⟨ts,rfl,hP,Hy,sm⟩;rw [Aa,AT] at hP;exact k _ H2 sm ⟨l,ts,rfl,Hy,hP⟩
 ·rintro σ H A B h ⟨v,e1,e2,z⟩;exact⟨v,e1,e2,λ p hp=>h _ _ (z p hp)⟩
inductive Jz (vs:List V) (H:Hp) (Q:VK) (Gj:XK):Prop
 |mk (a:_) (b:_) (S:_) (L:_) (h0:vs=[.ref a,.ref b]) (h1:H a=↥(S.map vN)) (h2:H b=↥(L.map vN)) (h3:S.length≤100) (h4:L.length=272) (h5:(∀q∈S,L[q]?=some 6)) (h6:∀v H',C' H H'->QE (cods L S) v H'->Q v H'):Jz vs H Q Gj
abbrev vU:List Str:=["_law_things","_law_lengths","_law_order"]
def K7:y' vU ["_law_things","_law_lengths"] (am iX):=Gw Z8
def zy:(["_law_thing","_law_lengths"]:List Str).Nodup:=Z8
def zF:(["_law_thing","_law_order"]:List Str).Nodup:=Z8
abbrev xi (K:Frag):TT:=fE (Im Sj (Im (KH K) (Gs 1) (Gs 0)) (tC (.int 6)))
abbrev zj (K:Frag):TE:=iq (aP (Wm K "list" (Km K) (Gs 1) (aP (Gs 0) bF)) (aP (tC (.int 6)) bF))
def qU {P:FU}{w:FV}{K:Frag}{mg:Str->Option FS}{base:FY}{f:FR}{fd:FW}(F:'h' "_law_codes" iX ["_law_things","_law_lengths"] f fd)(X:K21.Txt K mg):'a' Gn 1 f fd ["_law_things","_law_lengths"] Jz:=by
 refine F.F.ok K7 ?_
 intro 'a';obtain⟨a,b,S,L,rfl,ha,hb,hS,hL,h6,k⟩:=h;refine⟨_,ad (aq (i:=2) K7.nd (qS (N:=["_law_thing","_law_lengths"]) (js:=[none,some 1]) (cl:=[("_law_lengths",st.heap.objs.size+1)]) (g:=bw 0) (tt:=xi K) (te:=Gs 0) rfl
   ⟨rfl,Z8,Z8,Z7,λ x c h=>(by obtain⟨rfl,rfl⟩:=dG h;rfl),λ x hx=>?c1,rfl,λ i x j h1 h2=>?c2⟩
   (cZ Z7 X.range (aa ae ac)) (λ fp s H=>aG (i:=0) zy) (λ fp s H=>aA bE (aU (je (K:=K) rfl) (pv 1) (pv 0) (λ _ _=>rfl)) ae (aC _)) (λ fp s H=>pv 0)))
  (ag (aB (mf (N:=["_law_thing","_law_order"]) (js:=[none,some 2]) (cl:=[("_law_order",st.heap.objs.size+1+1)]) (g:=bw 0) (te:=zj K) rfl
   ⟨rfl,Z8,Z8,Z7,λ x c h=>(by obtain⟨rfl,rfl⟩:=dG h;rfl),λ x hx=>?d1,rfl,λ i x j h1 h2=>?d2⟩
   (bi (pv 0)) (λ fp s H=>aG (i:=0) zF) (λ fp s H=>aO (aa (rf (K:=K) rfl (pv 1) (pv 0)) (aa ae ac)))))),?_⟩
 case c1=>
  rcases hx with hx|hx
  ·have m':(x,NameKind.cell)∈([(".0",.local),("_law_thing",.local),("_law_lengths",.cell)]:List (Str×NameKind)):=Bb hx;have e:x="_law_lengths":=by simpa using m'
   subst e;exact⟨_,rfl⟩
  ·have m':(x,NameKind.free)∈([(".0",.local),("_law_thing",.local),("_law_lengths",.cell)]:List (Str×NameKind)):=Bb hx;simp at m'
 case c2=>obtain⟨rfl,rfl⟩:=ju h1 h2;exact⟨rfl,rfl,rfl,λ c h=>h⟩
 case d1=>
  rcases hx with hx|hx
  ·have m':(x,NameKind.cell)∈([(".0",.local),("_law_thing",.local),("_law_order",.cell)]:List (Str×NameKind)):=Bb hx;have e:x="_law_order":=by simpa using m'
   subst e;exact⟨_,rfl⟩
  ·have m':(x,NameKind.free)∈([(".0",.local),("_law_thing",.local),("_law_order",.cell)]:List (Str×NameKind)):=Bb hx;simp at m'
 case d2=>obtain⟨rfl,rfl⟩:=ju h1 h2;exact⟨rfl,rfl,rfl,λ c h=>h⟩
 refine aw λ R1 g1=>⟨272,rfl,by decide,by decide,λ l nl=>?_⟩
 refine oY (g:=bw 0) (tt:=xi K) (te:=Gs 0) (lo:=0) (l:=l) (k:=272) (λ i ys σ H2=>∃v0:Option V,σ=[v0,↑b]/\ys=(ord L i).map vN/\ys.length≤i/\H2 l=↥ys/\C' H H2)
  ⟨none,rfl,rfl,Ak _,af,ak nl⟩ ?_ ?_ (λ x σ H A B h z=>h _ _ z) ?_ (λ σ H A B h z9=>by obtain⟨v,e,z⟩:=z9;exact⟨v,e,h _ _ z⟩)
 ·clear g1;rintro i ys σ H2 hi ⟨v0,rfl,rfl,hyl,Hy,sm⟩;have hiL:L[i]?=some L[i]:=Ad (by lia);have e0:L.getD i 0=L[i]:=by rw [AO,hiL];rfl
  have en:(0:Int)+⇑i=⇑i:=by lia
  have os:=gH L i;rw [e0] at os
  try dsimp only
  rw [en];refine⟨_,rfl,_,rfl,b,_,_,_,rfl,rfl,Gf.of (sm _ _ hb),aD (di (by lia)),rfl,_,rfl,bc (λ h=>?_) (λ h=>?_)⟩
  ·have h:L[i]=6:=Gr.mp (Am h);rw [AK h] at os;refine⟨_,rfl,Hy,bA (by lia),_,rfl,by rw [os,Aw];rfl,by rw [Ac];show _+1≤_;lia,af,λ c o e=>by rw [aj (ai e nl)];exact sm _ _ e⟩
  ·have h:L[i]≠6:=λ z=>h (Ae (Gr.mpr z))
   rw [AH h,Bv] at os;exact⟨_,rfl,by rw [os],by lia,Hy,sm⟩
 ·rintro ys σ H2 ⟨v0,rfl,rfl,_,Hy,sm⟩;refine g1 _ _ ?_;clear g1;refine⟨_,rfl,a,rfl,⟨_,Gf.of (sm _ _ ha)⟩,λ l3 Vw=>?_⟩;refine tj (g:=bw 0) (te:=zj K) (K:=K) (a:=a) (l:=l3) (xs:=S.map vN) (λ i ys σ H3=>∃(v0:Option V) (ts:List FR),σ=[v0,↑l]/\ys=ts.map V.ref/\Ie H3 ts (cods L (S.take i))/\H3 l3=↥ys/\C' H2 H3)
   ⟨none,[],rfl,rfl,.nil,af,ak Vw⟩ (λ i ys σ H3 _ z9=>by obtain⟨_,_,_,_,_,_,s3⟩:=z9;exact Gf.of (s3 _ _ (sm _ _ ha))) ?_ ?_ (λ x σ H A B h z=>h _ _ z) ?_
  ·rintro i y ys σ H3 hi ⟨v0,ts,rfl,rfl,hP,Ir,s3⟩;obtain⟨q,hq,rfl⟩:=ck hi;obtain⟨o1,o2⟩:=yG hL (h6 q (AX hq));have HI:i<S.length:=(Af.mp hq).1;refine⟨_,rfl,.inl ⟨rfl,_,Gf.of (s3 _ _ Hy)⟩,_,rfl,l,(ord L 272).map (λ b=>⇑b),⇑q,cd6 L q,rfl,rfl,by rw [<-xn];exact s3 _ _ Hy,by rw [AU,o1];rfl,λ j hj z=>?_,(by show 2≤sizeLine;decide),λ t nt=>?_⟩
   ·rw [AU] at z;cases e:(ord L 272)[j]? with
    |none=>rw [e] at z;cases z
    |some q'=>
     rw [e] at z;have:q'=q:=Int.ofNat_inj.mp (AJ z);exact o2 j hj (by rw [e,this])
   have st:=ak (o:=.tup [vN (cd6 L q),.int 6]) nt;have hlen:ts.length=i:=by rw [hP.len];unfold cods;rw [Aa,Aq];lia
   have Qx:Ie (upd H3 t (.tup [vN (cd6 L q),.int 6])) (ts++[t]) (cods L (S.take (i+1))):=by
    rw [eN hq];unfold cods;rw [Aw];exact(hP.mono st).app (.cons af .nil)
   have KC:=st _ _ Ir;have s4:=s3.trans st;generalize upd H3 t (.tup [vN (cd6 L q),.int 6])=H4 at*;refine⟨KC,bA (by rw [Aa,hlen];lia),_,ts++[t],rfl,by rw [Aw];rfl,Qx.keep λ c xs e=>?_,af,λ c o e=>?_⟩
   ·rw [aj (aT e KC 'f')];exact e
   ·rw [aj (ai e Vw)];exact s4 _ _ e
  ·rintro ys σ H3 ⟨v0,ts,rfl,rfl,hP,Ir,s3⟩;rw [Aa,AT] at hP;exact k _ H3 (sm.trans s3) ⟨l3,ts,rfl,Ir,hP⟩
  ·rintro σ H A B h ⟨v,e1,e2,v2,e3,l',ns,k',j',f1,f2,f3,f4,f5,f6,z⟩;exact⟨v,e1,e2,v2,e3,l',ns,k',j',f1,f2,f3,f4,f5,f6,λ p hp=>h _ _ (z p hp)⟩
 ·rintro σ H A B h ⟨v,e1,v2,e2,p,xs,i',v3,f1,f2,f3,f4,f5,c,f6,z⟩;exact⟨v,e1,v2,e2,p,xs,i',v3,f1,f2,f3,f4,f5,c,f6,h _ _ z⟩
end K21.Ck
namespace K21.M
open BP C9 C10 W17
def kT {L:'c'}{i x:Nat}(h:L[x]?=some 6):(L.set i 6)[x]?=some 6:=by
 rw [Fw]
 split
 ·rename_i e
  have:=(Af.mp h).1;rw [AK (by lia)]
 ·exact h
def jf {L:'c'}(h:i<L.length):(L.set i 6)[i]?=some 6:=by rw [Fw,AK rfl,AK h]
def wr (n):krf 12 (List.replicate n 1)=2048*n:=by
 induction n with
 |zero=>rfl
 |succ n ih=>
  have e:=gv 12 [1] (List.replicate n 1);rw [Cm] at e;rw [Bh,e,ih];show 2048+_=_;lia
def yB (h:3≤n)(h2:n≤11):RO (List.replicate n 1++List.replicate (272-n) 0):=by
 refine .inr ⟨⟨1,Bm _ (List.mem_replicate.mpr ⟨by lia,rfl⟩),by decide⟩,?_⟩;rw [gv,wr];lia
end K21.M
namespace K21.Ck
open PySem L2 QQ W17 W16 BP K21.M
seal PE PA PS PSs PT PW PG PI
abbrev et:F5:=top 102
abbrev uL:F5:=top 104
def Ls.rep (h:Vl t σ H (vN x))(hn:Vl tn σ H (vN n))(hl:n≤2000):Ls (Im O8 (gh (aP t bF)) tn) σ H (List.replicate n x):=λ H1 s Q k=>
 h H1 s _ λ v H2 s2 e=>by
  subst e;refine⟨(by show 1≤sizeLine;decide),λ p hp=>?_⟩;have s3:=ak (o:=.lst [vN x]) hp;refine hn _ ((s.trans s2).trans s3) _ λ u H3 s4 e=>?_
  subst e;refine⟨p,_,_,rfl,rfl,s4 _ _ af,by lia,by lia,dO (by show 1*_≤2000;lia),λ q hq=>?_⟩;rw [AM,K21.C.IB];exact k _ _ (((s2.trans s3).trans s4).trans (ak hq)) ⟨q,rfl,by rw [af,Em]⟩
def Pl.table (h:Ls t σ H L)(hl:L.length≤300):Pl (dJ Kp [] E (aP t bF)) σ H (tab L):=λ H1 s Q k=>
 h H1 s _ λ v H2 s2 z9=>by obtain⟨l,e,hL⟩:=z9;exact by subst e;exact⟨l,L,rfl,hL,hl,λ v H3 s3 p=>k v H3 (s2.trans s3) p⟩
def Pl.codes (h:Ls t σ H S)(g:Ls u σ H L)(hS:S.length≤100)(hl:L.length=272)(h6:∀q∈S,L[q]?=some 6):Pl (dJ Jz [] E (aP t (aP u bF))) σ H (cods L S):=λ H1 s Q k=>
 h H1 s _ λ v H2 s2 z9=>by obtain⟨a,e,hA⟩:=z9;exact g H2 (s.trans s2) _ λ v' H3 s3 ⟨b,e',hB⟩=>by subst e e';exact⟨a,b,S,L,rfl,s3 _ _ hA,hB,hS,hl,h6,λ v H4 s4 p=>k v H4 ((s2.trans s3).trans s4) p⟩
def jN (h:Ts t σ H b)(k1:b=true->∀H',C' H H'->u D σ H')(k2:b=false->∀H',C' H H'->v D σ H'):yC t u v D σ H:=h.go λ H' s=>by
 show(if b=true then _ else _);cases b with
 |true=>exact k1 rfl H' s
 |false=>exact k2 rfl H' s
inductive IS (vs:List V) (H:Hp) (Q:VK) (Gj:XK):Prop
 |mk (c:Int) (a:FR) (S:'c') (rm ah:Nat) (h0:vs=[.int c,.ref a,vN rm,vN ah]) (h1:H a=↥(S.map vN)) (h2:(∀s∈S,s<256)) (h3:S.length≤8) (h4:1≤rm) (h5:rm≤9) (h6:ah≤192) (h7:∀v ps H',C' H H'->QE ps v H'->BodyOk 3 (S.length+rm) ah ps->Q v H'):IS vs H Q Gj
abbrev nSB:List Str:=["_law_cell","_law_signs","_law_room","_law_ahead","_law_way","_law_many","_law_lengths","_law_sign","_law_back","_law_size"]
def Lr:y' nSB Jai (am et):=Gw Z8
def kL {P:FU}(F:'h' "_law_share_body" et Jai f fd)(Ta:'h' "_law_table" jB ["_law_lengths"] fT PV)(Co:'h' "_law_codes" iX ["_law_things","_law_lengths"] fC fdC)(Pa:'h' "_law_copy_parts" jb Jaj fP XT)(X:K21.Txt K mg):'a' Gn 32 f fd Jai IS:=by
 have GT:=sR (P:=P) (w:=w) (base:=base) Ta;have GC:=qU (P:=P) (w:=w) (base:=base) Co X;have GP:=mi (P:=P) (w:=w) (base:=base) Pa X;refine F.F.ok Lr ?_
 intro 'a';obtain⟨c,a,S,rm,ah,rfl,ha,hS,hl,h1,h9,hah,k⟩:=h;have Gz:Ge 1 _:=hr.mono Z9;refine⟨_,ad (aq (i:=4) Lr.nd (ao aQ (pv 0) ae))
   (ad (aM (aA bE (pv 4) ae (aC _)) (ag (aB (ao bz (ap GT Gz Z7 Ta.m Ta.F.kp Ta.b .nil az (aa (ao cU (aH (aa (ao aQ (ao bo (pv 0) ae) ae) ac)) (ao bd ae (ao aQ (ao bo (pv 0) ae) ae))) ac)) (aH (aa (aO (aa ae (aa ae ac))) (aa (aO (aa ae (aa ae ac))) ac)))))) aF)
   (ad (aM (aA bE (pv 4) ae (aC _)) (ag (aB (ap GT Gz Z7 Ta.m Ta.F.kp Ta.b .nil az (aa (ao cU (aH (aa ae ac)) ae) ac)))) aF)
   (ad (aM (aA bE (pv 4) ae (aC _)) (ad (aq (i:=5) Lr.nd (ao aI ae (ao aQ (ao bo (pv 0) ae) ae)))
   (ag (aB (ap GT Gz Z7 Ta.m Ta.F.kp Ta.b .nil az (aa (ao bz (ao cU (aH (aa ae ac)) (pv 5)) (ao cU (aH (aa ae ac)) (ao bd ae (pv 5)))) ac))))) aF)
   (ad (aq (i:=6) Lr.nd (ao cU (aH (aa ae ac)) ae))
   (ad (bp AV rfl (bi (pv 1)) (aG (i:=7) Lr.nd) (ag (fh ae (gP (pv 6) (pv 7) eg))))
   (ad (fh ae (gP (pv 6) (ao aQ (ao bo (pv 0) ae) ae) eg))
   (ad (aM (aA bE (pv 4) ae (aC _)) (ag (aB (ao bz (ao bz (ap GT Gz Z7 Ta.m Ta.F.kp Ta.b .nil az (aa (pv 6) ac)) (ap GC Gz Z7 Co.m Co.F.kp Co.b .nil az (aa (pv 1) (aa (pv 6) ac)))) (aH (aa (aO (aa ae (aa ae ac))) ac))))) aF)
   (ad (fh (ap GP hr Z7 Pa.m Pa.F.kp Pa.b .nil az (aa (ao bo (pv 0) ae) (aa (ao aI (pv 3) (ay ax Z7 X.len Ay (aa (pv 1) ac))) (aa (pv 2) ac)))) (dR rfl (bh (aG (i:=8) Lr.nd) (bh (aG (i:=9) Lr.nd) df))))
   (ad (fh ae (gP (pv 6) (ao aI ae (pv 9)) eg))
   (ag (aB (ao bz (ao bz (ap GT Gz Z7 Ta.m Ta.F.kp Ta.b .nil az (aa (pv 6) ac)) (ap GC Gz Z7 Co.m Co.F.kp Co.b .nil az (aa (ao bz (pv 1) (aH (aa (ao aI ae (pv 9)) ac))) (aa (pv 6) ac)))) (aH (aa (aO (aa (pv 8) (aa ae ac))) ac)))))))))))))),?_⟩
 obtain⟨wv,ew,hw⟩:=aY c (show(0:Int)<5 by decide);refine aw λ R g=>eJ (.op (.var rfl) .c (by show(0:Int)<5;decide) (by rw [ew])) λ H1 s1=>g _ _ ?_
 clear g;refine aw λ R g=>jN (.eq (.var rfl) .c rfl rfl) (λ hc H2 s2=>?_) (λ h0 H2 s2=>g _ _ ?_)
 ·obtain⟨x,ex,hx⟩:=aY (c/35) (show(0:Int)<60 by decide);obtain⟨y,ey,hy⟩:=aY (c/5) (show(0:Int)<7 by decide);refine fj (Pl.cat (ps:=tab (List.replicate (271-x) y)) (qs:=[(7,3),(63,6)]) (.table (.rep (.op (.op (.var rfl) .c ⟨Z9,Z9⟩ rfl) .c (by show(0:Int)<7;decide) (by rw [ey])) (.op0 .c (.op (.op (.var rfl) .c ⟨Z9,Z9⟩ rfl) .c (by show(0:Int)<60;decide) (by rw [ex])) (Bx V.int (by lia))) (by lia)) (by rw [Al];lia)) (.lst (.cons .c .c (.cons .c .c .nil)) (AZ rfl)) ?_) λ v H' s p=>k v _ H' ((s1.trans s2).trans s) p (qR (by lia) (by lia) (by lia))
  unfold tab;rw [Aa,Al];show _+2≤_;lia
 clear g;have LU:=s1.trans s2;clear s1 s2;refine aw λ R g=>jN (.eq (.var rfl) .c rfl rfl) (λ hc H1 s1=>?_) (λ KD H1 s1=>g _ _ ?_)
 ·exact fj (Pl.table (L:=List.replicate 272 0) (.rep .c .c (by decide)) (by rw [Al];decide)) λ v H' s p=>k v _ H' ((LU.trans s1).trans s) p (mn (λ l hl=>by rw [BY hl];decide) (by rw [Al]) (.inl λ l hl=>BY hl))
 clear g;have LU:=LU.trans s1;clear s1;refine aw λ R g=>jN (.eq (.var rfl) .c rfl rfl) (λ hc H2 s2=>?_) (λ JU H2 s2=>g _ _ ?_)
 ·obtain⟨y,ey,hy⟩:=aY (c/5) (show(0:Int)<9 by decide);refine aw λ R g=>eJ (v:=vN (3+y)) (.op0 .c (.op (.op (.var rfl) .c ⟨Z9,Z9⟩ rfl) .c (by show(0:Int)<9;decide) (by rw [ey])) rfl) λ H3 s3=>g _ _ ?_
  clear g;have hc:=yB (n:=3+y) (by lia) (by lia);refine fj (Pl.table (L:=List.replicate (3+y) 1++List.replicate (272-(3+y)) 0) (.cat (.rep .c (.var rfl) (by lia)) (.rep .c (.op0 .c (.var rfl) (Bx V.int (by lia))) (by lia)) (by rw [Al,Al];lia)) (by rw [Ac,Al,Al];lia)) λ v H' s p=>k v _ H' (((LU.trans s2).trans s3).trans s) p (mn (λ l hl=>?_) ?_ hc)
  ·rcases AR.mp hl with h|h<;>rw [BY h]<;>decide
  ·rw [Ac,Al,Al];lia
 clear g;have LU:=LU.trans s2;clear s2;refine aw λ R g=>⟨(by show 1≤sizeLine;decide),λ p hp=>⟨p,_,_,rfl,rfl,af,Z9,Z9,dO Z9,λ l nl=>g _ _ ?_⟩⟩
 clear g;have s4:=ak (o:=.lst [.int 0]) hp;have s5:=ak (o:=.lst ((List.replicate (272:Int).toNat [V.int 0]).flatten)) nl;have Q5:H l=none:=none_of (LU.trans s4) nl;have IL:=(LU.trans s4).trans s5;have Ir:(upd (upd H2 p (.lst [.int 0])) l (.lst ((List.replicate (272:Int).toNat [V.int 0]).flatten))) l=↥((List.replicate 272 0).map vN):=by
  rw [af,K21.C.IB,Em];rfl
 generalize upd (upd H2 p (.lst [.int 0])) l (.lst ((List.replicate (272:Int).toNat [V.int 0]).flatten))=H3 at*;clear s4 s5 hp;have WN:a≠l:=ai ha Q5;refine aw λ R g=>⟨_,rfl,a,rfl,⟨_,Gf.of (IL _ _ ha)⟩,bH (D:=⟨_,_,λ _ _=>False,λ _ _=>False⟩) (K:=K) (a:=a) (xs:=S.map vN) (λ i σ H7=>∃v L,σ=[some (.int c),↑a,some (vN rm),some (vN ah),some (vN wv),none,↑l,v,none,none]/\H7 l=↥(L.map vN)/\IG L i/\(∀q∈S.take i,L[q]?=some 6)/\∀c o,c≠l->H3 c='g'->H7 c='g')
  ⟨none,_,rfl,Ir,IG.zero,(λ q h=>by rw [DV] at h;cases h),λ _ _ _ e=>e⟩ (λ i σ H7 _ z9=>by obtain⟨_,_,_,_,_,_,kp⟩:=z9;exact Gf.of (kp _ _ WN (IL _ _ ha))) ?_ ?_⟩
 ·clear g;rintro i y σ H7 hi ⟨v,L,rfl,h7,hx,hm,kp⟩;obtain⟨q,SE,rfl⟩:=ck hi;have hq:=hS q (AX SE);have hlen:=hx.len;refine⟨_,rfl,_,rfl,l,_,_,q,rfl,rfl,h7,K21.S.ixN_nat (by rw [Aa,hlen];lia),_,L.set q 6,rfl,by rw [af,List.map_set];rfl,hx.set,λ x VB=>?_,λ c o n e=>by rw [aj n];exact kp _ _ n e⟩;rw [eN SE] at VB;rcases AR.mp VB with h|h
  ·exact kT (hm x h)
  ·rw [As.mp h];exact jf (by rw [hlen];lia)
 rintro σ H7 ⟨v,L,rfl,h7,hx,hm,kp⟩;rw [Aa] at hx hm;rw [AT] at hm;refine g _ _ ?_;clear g;obtain⟨y,ey,hy⟩:=aY (c/5) (show(0:Int)<256 by decide);have hlen:=hx.len;refine aw λ R g=>⟨_,rfl,_,rfl,_,_,rfl,rfl,⟨Z9,Z9⟩,_,_,rfl,rfl,(by show(0:Int)<256;decide),l,_,_,y,rfl,rfl,h7,by rw [ey];exact K21.S.ixN_nat (by rw [Aa,hlen];lia),g _ _ ?_⟩
 clear g;have h8:(upd H7 l (.lst ((L.map vN).set y (.int 6)))) l=↥((L.set y 6).map vN):=by rw [af,List.map_set];rfl
 have Nx:∀c o,c≠l->H3 c='g'->(upd H7 l (.lst ((L.map vN).set y (.int 6)))) c='g':=λ c o n e=>by rw [aj n];exact kp _ _ n e
 generalize upd H7 l (.lst ((L.map vN).set y (.int 6)))=H8 at*;have Py:IG (L.set y 6) (S.length+1):=hx.set;have PB:∀q∈S,q<256/\(L.set y 6)[q]?=some 6:=λ q h=>⟨hS q h,kT (hm q h)⟩
 have hy2:(L.set y 6)[y]?=some 6:=jf (by rw [hlen];lia);have ha8:=Nx _ _ WN (IL _ _ ha);have Pr:C' H H8:=λ c o e=>Nx _ _ (ai e Q5) (IL _ _ e)
 clear hx hm h7 kp;generalize L.set y 6=L2 at*;have hlen:=Py.len;refine aw λ R g=>jN (.eq (.var rfl) .c rfl rfl) (λ hc H9 s9=>?_) (λ O4 H9 s9=>g _ _ ?_)
 ·refine fj (Pl.cat (ps:=tab L2++cods L2 S) (qs:=[(1,1)]) (.cat (.table (.var rfl (s9 _ _ h8)) (by lia)) (.codes (.var rfl (s9 _ _ ha8)) (.var rfl (s9 _ _ h8)) (by lia) hlen λ q h=>(PB q h).2) ?_) (.lst (.cons .c .c .nil) (AZ rfl)) ?_) λ v H' s p=>k v _ H' ((Pr.trans s9).trans s) p (so Py (by lia) hy2 hl h1 PB)
  ·unfold tab cods;rw [Aa,Aa];lia
  ·unfold tab cods;rw [Ac,Aa,Aa];show _+1≤_;lia
 clear g;have h9l:=s9 _ _ h8;have ha9:=s9 _ _ ha8;have el:(ah:Int)+⇑((S.map vN).length)=⇑(ah+S.length):=by rw [Aa];rfl
 refine aw λ R g=>⟨_,rfl,_,_,rfl,rfl,⟨Z9,Z9⟩,_,rfl,_,rfl,a,_,rfl,.inl (Gf.of ha9),_,_,rfl,rfl,_,rfl,c/5,ah+S.length,rm,Bx (λ z=>[V.int (c/5),V.int z,vN rm]) el,by lia,h1,h9,λ v10 Wb Vp z9=>?_⟩
 obtain⟨t,bk,sz,PZ,ht,hb,Qi,UA,JQ⟩:=z9;subst PZ;refine⟨t,_,rfl,GF.of ht,rfl,_,_,rfl,_,_,rfl,rfl,g _ _ ?_⟩;clear g;have e253:(253:Int)+(sz:Int)=⇑(253+sz):=rfl;refine aw λ R g=>⟨_,rfl,_,rfl,_,_,rfl,rfl,l,_,_,253+sz,rfl,rfl,Vp _ _ h9l,K21.S.ixN_nat (j:=253+sz) (show 253+sz<(L2.map vN).length by rw [Aa,hlen];lia),g _ _ ?_⟩
 clear g;have OH:(upd Wb l (.lst ((L2.map vN).set (253+sz) (.int 6)))) l=↥((L2.set (253+sz) 6).map vN):=by rw [af,List.map_set];rfl
 have Y2:(upd Wb l (.lst ((L2.map vN).set (253+sz) (.int 6)))) a=↥(S.map vN):=by rw [aj WN];exact Vp _ _ ha9
 have s11:C' H (upd Wb l (.lst ((L2.map vN).set (253+sz) (.int 6)))):=λ c o e=>by rw [aj (ai e Q5)];exact Vp _ _ (s9 _ _ (Pr _ _ e))
 generalize upd Wb l (.lst ((L2.map vN).set (253+sz) (.int 6)))=H11 at*;have hx3:IG (L2.set (253+sz) 6) (S.length+1+1):=Py.set;have hm3:∀q∈S,q<256/\(L2.set (253+sz) 6)[q]?=some 6:=λ q h=>⟨hS q h,kT (PB q h).2⟩
 have M7:(L2.set (253+sz) 6)[253+sz]?=some 6:=jf (by rw [hlen];lia);generalize L2.set (253+sz) 6=L3 at*;have Vd:=hx3.len;have ec:cods L3 (S++[253+sz])=cods L3 S++[(cd6 L3 (253+sz),6)]:=by unfold cods;rw [Aw];rfl
 have ep:tab L3++cods L3 (S++[253+sz])++[(bk,8)]=tab L3++cods L3 S++[(cd6 L3 (253+sz),6),(bk,8)]:=by rw [ec];simp only [An,Cm]
 refine fj (Pl.cat (ps:=tab L3++cods L3 (S++[253+sz])) (qs:=[(bk,8)]) (.cat (.table (.var rfl OH) (by lia)) (.codes (.cat (.var rfl Y2) (.lst (A:=[253+sz]) (.cons (.op0 .c (.var rfl) rfl) .nil) (AZ rfl)) (by show _+1≤_;lia)) (.var rfl OH) (by rw [Ac];show _+1≤_;lia) Vd λ q h=>?_) ?_) (.lst (.cons (.var rfl) .c .nil) (AZ rfl)) ?_) λ v H' s p=>k v _ H' (s11.trans s) p (by rw [ep];exact qY hx3 (by lia) M7 hl h1 hm3 hb Qi JQ)
 ·rcases AR.mp h with h|h
  ·exact(hm3 q h).2
  ·rw [As.mp h];exact M7
 ·unfold tab cods;rw [Aa,Aa,Ac];show _+(_+1)≤_;lia
 ·unfold tab cods;rw [Ac,Aa,Aa,Ac];show _+(_+1)+1≤_;lia
abbrev vf (K:Frag)(a:Int):TE:=Wl (fE (Im Sj (Im (rI (λ _ j=>0<j) λ i j=>.int (i%j)) (Gs 0) (tC (.int 2))) (tC (.int 0)))) (iq (aP (tC (.int 0)) (aP (tC (.int a)) bF))) (iq (aP (Im (KH K) (Gs 1) (Im (rI yT λ i j=>.int (i/j)) (Gs 0) (tC (.int 2)))) (aP (tC (.int 8)) bF)))
def Pl.altn (hj:σ[j]?=some ↑b)(hb:H b=↥(S.map vN))(hi:Vl ti σ H (vN (2*S.length)))(hl:S.length≤100):Pl (jF [none,some j] (w6 (aP ti bF)) (bw 0) (vf K ⇑a)) σ H (M.alt a S):=λ H1 s Q k=>
 hi H1 s _ λ v H2 s2 e=>by
  subst e;refine⟨⇑(2*S.length),rfl,by lia,by lia,λ l nl=>?_⟩;rw [AM];have sb:=s.trans s2;have e0:cap [none,some j] σ=[none,↑b]:=by
   simp [cap,hj]
  rw [e0];refine kj (λ i ys σ' H'=>∃v0 ts,ys=ts.map V.ref/\Ie H' ts ((alt a S).take i)/\σ'=[v0,↑b]/\H' l=↥ys/\C' H2 H')
   ⟨none,[],rfl,.nil,rfl,af,ak nl⟩ ?_ ?_ (λ x σ H A B h z=>h _ _ z) ?_
  ·rintro i ys σ' H' hi' ⟨v0,ts,rfl,hP,rfl,Ir,s3⟩;have hg:=pw a S i hi';have hlen:ts.length=i:=by rw [hP.len,Aq,iH];lia
   have en:(0:Int)+(i:Int)=(i:Int):=by lia
   have em:(i:Int)%2=⇑(i%2):=rfl;have ed:(i:Int)/2=⇑(i/2):=rfl;have fin:∀t q,H' t=none->(alt a S)[i]?=some q->(upd H' t (.tup [vN q.1,vN q.2])) l=↥(ts.map V.ref)/\(ts.map V.ref).length<sizeLine/\∃v0 Qd,ts.map V.ref++[V.ref t]=Qd.map V.ref/\Ie (L2.upd (upd H' t (.tup [vN q.1,vN q.2])) l (.lst (ts.map V.ref++[V.ref t]))) Qd ((alt a S).take (i+1))/\([some (.int (i:Int)),↑b]:St)=[v0,↑b]/\(L2.upd (upd H' t (.tup [vN q.1,vN q.2])) l (.lst (ts.map V.ref++[V.ref t]))) l=↥(ts.map V.ref++[V.ref t])/\C' H2 (L2.upd (upd H' t (.tup [vN q.1,vN q.2])) l (.lst (ts.map V.ref++[V.ref t]))):=λ t q nt hq=>by
    have st:=ak (o:=.tup [vN q.1,vN q.2]) nt;have Qx:Ie (upd H' t (.tup [vN q.1,vN q.2])) (ts++[t]) ((alt a S).take (i+1)):=by
     rw [eN hq];exact(hP.mono st).app (.cons af .nil)
    have KC:=st _ _ Ir;have s4:=s3.trans st;generalize upd H' t (.tup [vN q.1,vN q.2])=H4 at*;refine⟨KC,bA (by rw [Aa,hlen];lia),_,ts++[t],by rw [Aw];rfl,Qx.keep λ c xs e=>?_,rfl,af,λ c o e=>?_⟩
    ·rw [aj (aT e KC 'f')];exact e
    ·rw [aj (ai e nl)];exact s4 _ _ e
   try dsimp only
   rw [en];refine⟨_,rfl,_,_,rfl,rfl,(by show(0:Int)<2;decide),rfl,_,rfl,bc (λ h=>?_) (λ h=>?_)⟩
   ·have h0:i%2=0:=Gr.mp (Am h);rw [AK h0] at hg;exact⟨(by show 2≤sizeLine;decide),λ t nt=>fin t _ nt hg⟩
   ·have h0:¬i%2=0:=λ z=>h (Ae (Gr.mpr z))
    rw [AH h0] at hg;have hx:(S.map vN)[i/2]?=some (vN (S.getD (i/2) 0)):=by
     have F9:i/2<S.length:=by lia
     rw [AU,AO,Ad F9];rfl
    exact⟨_,rfl,_,rfl,_,_,rfl,rfl,⟨Z9,Z9⟩,b,_,_,_,rfl,rfl,Gf.of (s3 _ _ (sb _ _ hb)),aD hx,(by show 2≤sizeLine;decide),λ t nt=>fin t _ nt hg⟩
  ·rintro ys σ' H' ⟨v0,ts,rfl,hP,rfl,Ir,s3⟩;rw [A3 (by rw [iH];exact Ak _)] at hP;exact k _ H' (s2.trans s3) ⟨l,ts,rfl,Ir,hP⟩
  ·rintro σ H A B h ⟨v,e1,i,j,e2,e3,e4,e5,c,e6,z⟩;refine⟨v,e1,i,j,e2,e3,e4,e5,c,e6,?_⟩;cases c with
   |true=>
    rw [AK rfl] at z ⊢;exact⟨z.1,λ p hp=>h _ _ (z.2 p hp)⟩
   |false=>
    rw [AH Ax] at z ⊢;obtain⟨v1,f1,v2,f2,i1,j1,f3,f4,f5,p,xs,i2,v3,f6,f7,f8,f9,f10,z⟩:=z;exact⟨v1,f1,v2,f2,i1,j1,f3,f4,f5,p,xs,i2,v3,f6,f7,f8,f9,f10,λ p hp=>h _ _ (z p hp)⟩
def Pl.runb (h:Vl t σ H (.int c))(g:Vl u σ H (vN rm))(h9:rm≤9):Pl (dJ IK [] E (aP t (aP u bF))) σ H [(rbx c rm,6),(rby c,8)]:=λ H1 s Q k=>
 h H1 s _ λ v H2 s2 e=>g H2 (s.trans s2) _ λ v' H3 s3 e'=>by subst e e';exact⟨c,rm,rfl,h9,λ v H4 s4 p=>k v H4 ((s2.trans s3).trans s4) p⟩
inductive LL (vs:List V) (H:Hp) (Q:VK) (Gj:XK):Prop
 |mk (c:Int) (u:Nat) (a:FR) (S:'c') (rm ah:Nat) (h0:vs=[.int c,vN u,.ref a,vN rm,vN ah]) (h1:1≤u) (h2:u≤3) (h3:H a=↥(S.map vN)) (h4:(∀s∈S,s<256)) (h5:S.length≤8) (h6:1≤rm) (h7:rm≤9) (h8:ah≤192) (h9:∀v ps H',C' H H'->QE ps v H'->BodyOk u (S.length+rm) ah ps->Q v H'):LL vs H Q Gj
abbrev zc:List Str:=["_law_cell","_law_way","_law_signs","_law_room","_law_ahead","_law_back","_law_size","_law_good"]
def Kl:y' zc Jan (am uL):=Gw Z8
def y8:(["_law_k","_law_signs"]:List Str).Nodup:=Z8
def vk (hx:List.lookup x ([(".0",.local),("_law_k",.local),("_law_signs",.cell)]:List (Str×NameKind))=some .cell\/List.lookup x ([(".0",.local),("_law_k",.local),("_law_signs",.cell)]:List (Str×NameKind))=some .free):x="_law_signs":=by
 rcases hx with hx|hx
 ·have m':=Bb hx;simpa using m'
 ·have m':=Bb hx;simp at m'
def vT {P:FU}{w:FV}{K:Frag}{f fR fP fS fT fC:FR}(F:'h' "_law_body" uL Jan f fd)(Rb:'h' "_law_run_body" gF ["_law_cell","_law_room"] fR QC)(Pa:'h' "_law_copy_parts" jb Jaj fP XT)(Sb:'h' "_law_share_body" et Jai fS V2)
  (Ta:'h' "_law_table" jB ["_law_lengths"] fT PV) (Co:'h' "_law_codes" iX ["_law_things","_law_lengths"] fC fdC) (X:K21.Txt K mg):'a' Gn 33 f fd Jan LL:=by
 have GR:=oE (P:=P) (w:=w) (base:=base) Rb;have GP:=mi (P:=P) (w:=w) (base:=base) Pa X;have GS:=kL (P:=P) (w:=w) (base:=base) Sb Ta Co Pa X;refine F.F.ok Kl ?_
 intro 'a';obtain⟨c,u,a,S,rm,ah,rfl,hu1,hu3,ha,hS,hl,h1,h9,hah,k⟩:=h;have Gz:Ge 1 _:=hr.mono Z9;have IZ:Ge 31 _:=hr.mono Z9;refine⟨_,ad (aM (aA bE (pv 1) ae (aC _)) (ag (aB (ao bz
   (mf (N:=["_law_k","_law_signs"]) (js:=[none,some 2]) (cl:=[("_law_signs",st.heap.objs.size+1)]) (g:=bw 0) (te:=vf K ⇑(6)) rfl
    ⟨rfl,Z8,Z8,Z7,λ x c h=>(by obtain⟨rfl,rfl⟩:=dG h;rfl),λ x hx=>(by obtain rfl:=vk hx;exact⟨_,rfl⟩),rfl,λ i x j h1 h2=>(by obtain⟨rfl,rfl⟩:=ju h1 h2;exact⟨rfl,rfl,rfl,λ c h=>h⟩)⟩
    (cZ Z7 X.range (aa (ao eV ae (ay ax Z7 X.len Ay (aa (pv 2) ac))) ac)) (λ fp s H=>aG (i:=0) y8)
    (λ fp s H=>fi (aA bE (ao aQ (pv 0) ae) ae (aC _)) (aO (aa ae (aa ae ac))) (aO (aa (aU (je (K:=K) rfl) (pv 1) (ao bo (pv 0) ae) (λ _ _=>rfl)) (aa ae ac)))))
   (ap GR Gz Z7 Rb.m Rb.F.kp Rb.b .nil az (aa (pv 0) (aa (pv 3) ac)))))) aF)
  (ad (aM (aA bE (pv 1) ae (aC _))
   (ad (fh (ap GP IZ Z7 Pa.m Pa.F.kp Pa.b .nil az (aa (pv 0) (aa (ao aI (pv 4) (ay ax Z7 X.len Ay (aa (pv 2) ac))) (aa (pv 3) ac)))) (dR rfl (bh (aG (i:=5) Kl.nd) (bh (aG (i:=6) Kl.nd) df))))
   (ad (uT (i:=7) (N:=["_law_k","_law_signs"]) (js:=[none,some 2]) (cl:=[("_law_signs",st.heap.objs.size+1)]) (g:=bw 0) (te:=vf K ⇑(1)) Kl.nd rfl (Or.inl rfl) rfl
    ⟨rfl,Z8,Z8,Z7,λ x c h=>(by obtain⟨rfl,rfl⟩:=dG h;rfl),λ x hx=>(by obtain rfl:=vk hx;exact⟨_,rfl⟩),rfl,λ i x j h1 h2=>(by obtain⟨rfl,rfl⟩:=ju h1 h2;exact⟨rfl,rfl,rfl,λ c h=>h⟩)⟩
    (cZ Z7 X.range (aa (ao eV ae (ay ax Z7 X.len Ay (aa (pv 2) ac))) ac)) (λ fp s H=>aG (i:=0) y8)
    (λ fp s H=>fi (aA bE (ao aQ (pv 0) ae) ae (aC _)) (aO (aa ae (aa ae ac))) (aO (aa (aU (je (K:=K) rfl) (pv 1) (ao bo (pv 0) ae) (λ _ _=>rfl)) (aa ae ac)))) rfl)
   (ag (aB (ao bz (pv 7) (aH (aa (aO (aa ae (aa ae ac))) (aa (aO (aa (pv 5) (aa ae ac))) (aa (aO (aa (ao bd (pv 6) ae) (aa ae ac))) ac))))))))) aF)
  (ag (aB (ap GS hr Z7 Sb.m Sb.F.kp Sb.b .nil az (aa (pv 0) (aa (pv 2) (aa (pv 3) (aa (pv 4) ac)))))))),?_⟩
 refine aw λ R g=>jN (.eq (.var rfl) .c rfl rfl) (λ hc H1 s1=>?_) (λ KD H1 s1=>g _ _ ?_)
 ·obtain rfl:u=1:=Gr.mp (Am hc);obtain⟨x1,x2⟩:=xu c h9;refine fj (Pl.cat (Pl.altn (K:=K) (j:=2) (b:=a) (a:=6) (S:=S) rfl (s1 _ _ ha) (.op .c (.len (.var rfl (s1 _ _ ha)) rfl) (.inl ⟨Z9,Z9⟩) rfl) (by lia)) (Pl.runb (.var rfl) (.var rfl) h9) ?_) λ v H' s p=>k v _ H' (s1.trans s) p (sL hl h1 x1 x2)
  rw [iH];show _+2≤_;lia
 clear g;refine aw λ R g=>jN (.eq (.var rfl) .c rfl rfl) (λ hc H2 s2=>?_) (λ JU H2 s2=>g _ _ ?_)
 ·obtain rfl:u=2:=Gr.mp (Am hc);clear g;have LU:=s1.trans s2;have el:(ah:Int)+⇑((S.map vN).length)=⇑(ah+S.length):=by rw [Aa];rfl
  refine aw λ R g=>⟨_,rfl,_,rfl,_,rfl,a,_,rfl,.inl (Gf.of (LU _ _ ha)),_,_,rfl,rfl,_,rfl,c,ah+S.length,rm,Bx (λ z=>[V.int c,V.int z,vN rm]) el,by lia,h1,h9,λ v3 H3 s3 z9=>?_⟩
  obtain⟨t,bk,sz,e3,ht,hb,Qi,UA,JQ⟩:=z9;subst e3;refine⟨t,_,rfl,GF.of ht,rfl,_,_,rfl,_,_,rfl,rfl,g _ _ ?_⟩;clear g;have Np:=LU.trans s3;refine aw λ R g=>(show jF _ _ _ _ _ _ _ from(Pl.altn (K:=K) (j:=2) (b:=a) (a:=1) (S:=S) rfl (Np _ _ ha) (.op .c (.len (.var rfl (Np _ _ ha)) rfl) (.inl ⟨Z9,Z9⟩) rfl) (by lia)).go λ v4 H4 s4 hv4=>g _ _ ?_)
  clear g;refine fj (Pl.cat (.var rfl hv4) (.lst (ps:=[(1,1),(bk,8),(sz-3,4)]) (.cons .c .c (.cons (.var rfl) .c (.cons (.op0 (.var rfl) .c (Bx V.int (by lia))) .c .nil))) (AZ rfl)) ?_) λ v H' s p=>k v _ H' ((Np.trans s4).trans s) p (rV hl h1 hb Qi UA JQ)
  rw [iH];show _+3≤_;lia
 clear g;obtain rfl:u=3:=by
  have n1:u≠1:=λ z=>CZ KD (by rw [z];rfl)
  have n2:u≠2:=λ z=>CZ JU (by rw [z];rfl)
  lia
 exact⟨_,rfl,_,rfl,_,rfl,_,rfl,c,a,S,rm,ah,rfl,(s1.trans s2) _ _ ha,hS,hl,h1,h9,hah,λ v ps H' s p b=>k v ps H' ((s1.trans s2).trans s) p b⟩
abbrev nV:F5:=top 105
def Yk (u n ah:Nat)(b:List Bool):Option Bool->Prop
 |none=>u=0/\8*n≤b.length
 |some z=>(u=0/\z=false/\b.length<8*n)\/(1≤u/\Yh u n ah b z)
inductive Ug (C cN cB:FR) (u:Nat) (vs:List V) (H:Hp) (Q:VK) (E:XK):Prop
 |mk (o:_) (r:_) (d:_) (x:_) (W:_) (b:_) (n:_) (oc:_) (h0:vs=[.ref o,.ref r,vN n,x]) (h1:RB C H r d b) (h2:Hd H x W) (h3:n≤64) (h4:W.length≤192) (h5:Yk u n W.length b oc) (h6:(oc=none->∀v H',GZ r H H'->Q v H')) (h7:∀z,oc=some z->∀H',GZ r H H'->E (.ref (if z then cB else cN)) none H'):Ug C cN cB u vs H Q E
structure U4 (P:FU)(w:FV)(K:Frag)(mg:Str->Option FS)(base:FY)(C Cu cN cB:FR)(u:Nat):Prop where
 cl:Cls K Cu
 read:∃f fd,Meth K Cu "read" f/\Binds K fd Jac []/\'a' (Jo P w) 37 f fd Jac (Ug C cN cB u)
structure NX (K:Frag)(mg:Str->Option FS)(C G cN cB cT cL cC C0 C1 C2 C3:FR):Prop where
 D:NM K mg C G cN cB cT cL cC
 r0:∃f fd,Me K C0 "read" "RawWay.read" iN Jac f fd
 r1:∃f fd,Me K C1 "read" "RunWay.read" jt Jac f fd
 r2:∃f fd,Me K C2 "read" "CopyWay.read" gR Jac f fd
 r3:∃f fd,Me K C3 "read" "ShareWay.read" kI Jac f fd
def NX.ok (Z:NX K mg C G cN cB cT cL cC C0 C1 C2 C3)(c0:Cls K C0)(c1:Cls K C1)(c2:Cls K C2)(c3:Cls K C3)(hu:u<4):U4 P w K mg base C (cs C0 C1 C2 C3 u) cN cB u:=by
 have D:=Z.D;rcases u with _|_|_|_|u
 ·obtain⟨_,_,M⟩:=Z.r0;refine⟨c0,_,_,M.m,M.b,((vn M.F D.Z).up.mono Z9).imp λ vs H Q E h=>?_⟩;obtain⟨o,r,d,x,W,b,n,oc,rfl,hR,hx,G6,hW,HH,k1,k2⟩:=h;refine⟨o,r,d,x,b,n,rfl,hR,G6,?_⟩;cases oc with
  |none=>exact .inl ⟨HH.2,λ l H' kp=>k1 rfl _ H' kp⟩
  |some z=>
   rcases HH with⟨_,rfl,h⟩|⟨h,_⟩
   ·exact .inr ⟨h,λ H' kp=>k2 false rfl H' kp⟩
   ·lia
 ·obtain⟨_,_,M⟩:=Z.r1;refine⟨c1,_,_,M.m,M.b,((vL M.F D.Y D.Z).up.mono Z9).imp λ vs H Q E h=>?_⟩;obtain⟨o,r,d,x,W,b,n,oc,rfl,hR,hx,G6,hW,HH,k1,k2⟩:=h;cases oc with
  |none=>exact absurd HH.1 (by decide)
  |some z=>
   rcases HH with⟨h,_⟩|⟨_,h⟩
   ·exact absurd h (by decide)
   ·exact⟨o,r,d,x,b,n,z,rfl,hR,G6,h,k2 z rfl⟩
 ·obtain⟨_,_,M⟩:=Z.r2;refine⟨c2,_,_,M.m,M.b,((ut M.F D.Y D.Z).up.mono Z9).imp λ vs H Q E h=>?_⟩;obtain⟨o,r,d,x,W,b,n,oc,rfl,hR,hx,G6,hW,HH,k1,k2⟩:=h;cases oc with
  |none=>exact absurd HH.1 (by decide)
  |some z=>
   rcases HH with⟨h,_⟩|⟨_,h⟩
   ·exact absurd h (by decide)
   ·exact⟨o,r,d,x,W,b,n,z,rfl,hR,hx,G6,hW,h,k2 z rfl⟩
 ·obtain⟨_,_,M⟩:=Z.r3;refine⟨c3,_,_,M.m,M.b,(qC M.F D).imp λ vs H Q E h=>?_⟩;obtain⟨o,r,d,x,W,b,n,oc,rfl,hR,hx,G6,hW,HH,k1,k2⟩:=h;cases oc with
  |none=>exact absurd HH.1 (by decide)
  |some z=>
   rcases HH with⟨h,_⟩|⟨_,h⟩
   ·exact absurd h (by decide)
   ·exact⟨o,r,d,x,W,b,n,z,rfl,hR,hx,G6,hW,h,k2 z rfl⟩
 ·lia
structure EC (cs:List FR)(cR cN cB:FR):Prop where
 r:cs[0]?=some cR
 n:cs[2]?=some cN
 b:cs[8]?=some cB
def wdR:Option Bool->List V
 |none=>[]
 |some true=>[.str (Str.ofString "body")]
 |some false=>[.str (Str.ofString "none")]
def xk (h:Qc (num bs) bs.length R)(h8:bs.length%8=0):K21.C.bt R=bs:=by
 have hl:=h.len;have hn:=h.num;have e8:8*R.length=bs.length:=by lia
 rw [e8,DF,Nat.pow_zero,Nat.mul_one] at hn;refine C10.MC (by rw [K21.C.Hv];exact e8) ?_;unfold K21.C.bt;rw [gA,hn,e8,CI (HB bs)]
inductive Jg (Cu:FR) (u:Nat) (vs:List V) (H:Hp) (Q:VK) (Gj:XK):Prop
 |mk (o:_) (dx:_) (x:_) (W:_) (bs:_) (n:_) (oc:_) (h0:vs=[.ref o,.str (txt bs),vN n,x]) (h1:H o=some (.ins Cu dx [])) (h2:Hd H x W) (h3:W.length≤192) (h4:n≤64) (h5:bs.length≤1000) (h6:Yk u n W.length bs oc) (h7:∀t H',C' H H'->H' t=some (.tup (wdR oc))->Q (.ref t) H'):Jg Cu u vs H Q Gj
abbrev yy:List Str:=["_law_way","_law_digits_here","_law_count","_law_window","_law_row","_law_reader","_law_error"]
def Ji:y' yy Jag (am nV):=Gw Z8
def uY {cP:FR}{Cu f fR fw:FR}(F:'h' "_law_read" nV Jag f fd)(Rw:'h' "_law_row_of" lE ["_law_digits_here"] fR QC)(Wd:'h' "_law_word" jV ["_law_error"] fw fdw)(Z:Ni K mg C cN)(O:U4 P w K mg base C Cu cN cB u)(Y:RV K mg cP P1)(ec:EC P1 cR cN cB):
  Gb P w K mg base Gn 38 f fd Jag (Jg Cu u):=by
 have X:=Z.Y.X;have GR:=vc (P:=P) (w:=w) (base:=base) Rw X;have GW:=pN (P:=P) (w:=w) (base:=base) Wd X Y;obtain⟨_,_,FI,bI,MI⟩:=Z.init;obtain⟨_,_,N⟩:=Z.need;obtain⟨_,_,Tk,NP⟩:=Z.tkB;have GT:=NP P w base;have GI:=sP (P:=P) (w:=w) (base:=base) FI N Z.Y Z.T;obtain⟨_,_,mR,bR,GRd⟩:=O.read;refine F.F.ok Ji ?_
 intro 'a';obtain⟨o,dx,x,W,bs,n,oc,rfl,ho,hx,hW,G6,Rr,HH,k⟩:=h;have IZ:Ge 31 _:=hr.mono Z9;have hr6:Ge 6 _:=hr.mono Z9;have Gz:Ge 1 _:=hr.mono Z9;refine⟨_,ad (aq (i:=4) Ji.nd (ap GR Gz Z7 Rw.m Rw.F.kp Rw.b .nil az (aa (ao fQ (ao jr aX (ao aQ (ao bd ae (ao aQ (ay cq Z7 X.len Ay (aa (pv 1) ac)) ae)) ae)) (pv 1)) ac)))
  (ad (aq (i:=5) Ji.nd (pW MI GI hr6 Z7 Z.m bI .nil az (aa (pv 4) ac)))
  (ad (aE (aN (pv 5) Z.T.cl Tk.m GT IZ Tk.b .nil jU (aa (ao aQ (ao bd ae (ao aQ (ay cq Z7 X.len Ay (aa (pv 1) ac)) ae)) ae) ac)))
  (ad (uq (i:=6) Ji.nd rfl rfl Z7 Y.mP Y.xP rfl rfl rfl
   (λ pn σ0 E=>ag (aE (eW (pv 0) O.cl mR GRd hr bR .nil (eh rfl) (aa (pv 5) (aa (pv 2) (aa (pv 3) ac))))))
   (λ e G=>ag (aB (ap GW (hr.hand Z9 Z9) Z7 Wd.m Wd.F.kp Wd.b .nil az (aa (pv 6) ac)))))
  (ag (aB (aO ac)))))),?_⟩
 obtain⟨pad,M8,W5,Pg⟩:∃pad,pad≤7/\(pad+bs.length)%8=0/\((8:Int)-(bs.length:Int)%8)%8=(pad:Int):=⟨7-(bs.length+7)%8,by lia,by lia,by lia⟩;refine aw λ R1 g1=>?_
 refine⟨_,rfl,txt bs,rfl,bG (by rw [aS];lia),_,_,rfl,rfl,(by show(0:Int)<8;decide),_,_,rfl,rfl,_,_,rfl,rfl,(by show(0:Int)<8;decide),?_⟩
 try dsimp only
 rw [aS,Pg,uA];refine⟨_,_,rfl,rfl,tD pad M8,_,rfl,_,_,rfl,rfl,?_,?_⟩
 ·rw [iw pad M8,aS,aS,Al];exact bG (by lia)
 try dsimp only
 rw [iw pad M8,fU];have PD:(List.replicate pad false++bs).length=pad+bs.length:=by rw [Ac,Al]
 have hfd:(List.replicate pad false++bs).drop pad=bs:=List.drop_left' Al;refine⟨_,rfl,by rw [PD];lia,λ l R H1 nl hRo hl s1=>g1 _ _ ?_⟩;clear g1;have hbt:=xk hRo (by rw [PD];exact W5);generalize List.replicate pad false++bs=fs at*;refine aw λ R2 g2=>⟨_,rfl,λ p dp np OR Q6=>?_⟩
 have s2:=dq (C:=C) np OR;refine⟨p,dp,l,R,rfl,af,s2 _ _ hl,hRo.byt,λ d H2 nd Iq kp=>⟨rfl,g2 _ _ ?_⟩⟩;clear g2;have Vq:C' H H2:=λ c o e=>kp _ _ (s2 _ _ (s1 _ _ e)) (ai (s1 _ _ e) np)
 have ZH:H p=none:=none_of s1 np;have hRB:RB C H2 p d fs:=⟨R,0,Iq,hbt.symm⟩;obtain⟨MT,t2,Hw⟩:=hRB.ob;refine aw λ R2 g2=>⟨_,rfl,p,MT,_,rfl,Hw,dL _ _ Z8 Z8,?_⟩
 refine⟨_,rfl,txt bs,rfl,bG (by rw [aS];lia),_,_,rfl,rfl,(by show(0:Int)<8;decide),_,_,rfl,rfl,_,_,rfl,rfl,(by show(0:Int)<8;decide),?_⟩
 try dsimp only
 rw [aS,Pg];refine⟨p,d,fs,pad,rfl,hRB,by lia,λ _ H3 Ic G4=>g2 _ _ ?_,λ h=>by lia⟩;clear g2;rw [hfd] at Ic;have IL:C' H H3:=λ c o e=>G4 _ _ (Vq _ _ e) (ai e ZH)
 have s3:∀{H4},GZ p H3 H4->C' H H4:=λ k4 c o e=>k4 _ _ (IL _ _ e) (ai e ZH)
 refine aw λ R2 g2=>?_
 refine⟨rfl,_,rfl,o,dx,[],rfl,IL _ _ ho,rfl,_,rfl,_,rfl,_,rfl,o,p,d,x,W,bs,n,oc,rfl,Ic,hx.same IL,G6,hW,HH,λ e v H4 k4=>g2 _ _ ?_,λ z e H4 k4=>?_⟩
 ·subst e;exact⟨A1 _,λ t nt=>k t _ ((s3 k4).trans (ak nt)) af⟩
 ·subst e;cases z with
  |true=>
   obtain⟨e1,_⟩:=Y.k 8 _ cB (.inr (.inr ⟨rfl,rfl⟩)) ec.b;exact⟨cB,rfl,e1.x,e1.n,e1.s,λ e vx he=>⟨_,rfl,e,cB,8,_,rfl,⟨vx,af⟩,ec.b,.inr (.inr ⟨rfl,rfl⟩),λ t H5 s5 ht=>k t H5 (((s3 k4).trans (ak he)).trans s5) ht⟩⟩
  |false=>
   obtain⟨e1,_⟩:=Y.k 2 _ cN (.inr (.inl ⟨rfl,rfl⟩)) ec.n;exact⟨cN,rfl,e1.x,e1.n,e1.s,λ e vx he=>⟨_,rfl,e,cN,2,_,rfl,⟨vx,af⟩,ec.n,.inr (.inl ⟨rfl,rfl⟩),λ t H5 s5 ht=>k t H5 (((s3 k4).trans (ak he)).trans s5) ht⟩⟩
end K21.Ck
namespace L2
open PySem
def fV (hK:X.K=K)(ha:PE X a ta)(hb:PE X b tb)(hs:qb b):PE X (.Subscript a b pos) (Im (KH K) ta tb):=by subst hK;exact aU aW ha hb hs
end L2
namespace K21.Ck
open PySem L2 QQ W17 W16 BP K21.M
seal PE PA PS PSs PT PW PG PI
abbrev kS:F5:=top 97
def Gh.sameN (h:Gh B H p d N T)(s:Gm H H'):Gh B H' p d N T:=by
 obtain⟨dx,L,r,k,h1,h2,h3⟩:=h;exact⟨dx,L,r,k,s.ins h1,s.lst h2,h3⟩
section
variable {P:FU}{w:FV}{K:Frag}{mg:Str -> Option FS}{base:FY}{B D G C cN cB cR cP C0 C1 C2 C3:FR}{P1:List FR}
structure GdT (B:FR)(H:Hp)(x y:V)(p d:FR)(N T0:Nat)(a:FR)(T W:'c'):Prop where
 e:x=.ref a
 a:H a=↥(T.map vN)
 w:Hd H y W
 t:TW T W
 b:Gh B H p d N T0
 l:T0≤1000
inductive Kn (K:Frag) (Tb B Cu:FR) (u:Nat) (vs:List V) (H:Hp) (Q:VK) (Gj:XK):Prop
 |mk (o:_) (dx:_) (lt:_) (p:_) (x:_) (y:_) (wh:_) (h0:vs=[.ref o,vN wh,.ref lt]) (h1:wh≤2) (h2:H o=some (.ins Cu dx [])) (h3:H lt=↥[x,y,.ref p]) (h4:L6 Tb H) (h5:((Rf.Jr K H x y/\∀t H',Gm H H'->L6 Tb H'->H' t=some (.tup [.str (Str.ofString "row")])->Q (.ref t) H')\/∃d a N T0 T W,wh=0/\GdT B H x y p d N T0 a T W/\∀t ps H',KN u W T ps->Gh B H' p d (eS ps N) (T0+tots ps)->(∀c o,H c='g'->c≠p->c≠d->H' c='g')->H' t=some (.tup [])->Q (.ref t) H')):Kn K Tb B Cu u vs H Q Gj
def My:y' ["_law_way","_law_which","_law_things","_law_error"] ["_law_way","_law_which","_law_things"] (am kS):=Gw Z8
def uV (F:'h' "_law_tried" kS ["_law_way","_law_which","_law_things"] f fd)(Bw:JS K "best_way" "best_way" eY dB c fB TX)(mW:mg "best_way"=↑fB)(bW:Binds K TX Jad [])(Z:O6 K mg B D G C0 C1 C2 C3)(N:Rf.Nr K mg cR)(hC:CodeHd base c Tb)(hB:Js mg base)(hK:K.lookup Tb=none)
  (O:QX P w K mg base B Cu cR u) (Wd:'h' "_law_word" jV ["_law_error"] fw fdw) (Y:RV K mg cP P1) (ec:EC P1 cR cN cB):'a' Gn 40 f fd ["_law_way","_law_which","_law_things"] (Kn K Tb B Cu u):=by
 have X:=N.Y.X;have GW:=pN (P:=P) (w:=w) (base:=base) Wd X Y;have GB:=wK (P:=P) (w:=w) Bw Z N X.min hC hB hK;obtain⟨_,_,mT,bT,GT⟩:=O.tell;obtain⟨_,_,mC,bC,GC⟩:=O.cost;refine F.F.ok My ?_
 intro 'a';obtain⟨o,dx,lt,p,x,y,wh,rfl,hwh,ho,F9,hT,h⟩:=h;have YH:Ge 35 _:=hr.mono Z9;have QM:Ge 36 _:=hr.mono Z9;refine⟨_,ad (uq (i:=3) My.nd rfl rfl Z7 Y.mP Y.xP rfl rfl rfl
   (λ pn σ0 E=>ag (aM (aA bE (pv 1) ae (aC _))
    (ag (aE (eW (pv 0) O.cl mT GT YH bT .nil (eh rfl) (aa (fV rfl (pv 2) ae (λ _ _=>rfl)) (aa (fV rfl (pv 2) ae (λ _ _=>rfl)) (aa (fV rfl (pv 2) ae (λ _ _=>rfl)) ac))))))
    (ag (aM (aA bE (pv 1) ae (aC _))
     (ag (aE (eW (pv 0) O.cl mC GC QM bC .nil (eh rfl) (aa (fV rfl (pv 2) ae (λ _ _=>rfl)) (aa (fV rfl (pv 2) ae (λ _ _=>rfl)) ac)))))
     (ag (aE (eZ GB hr Z7 mW Bw.kp bW .nil (eh rfl) (aa (fV rfl (pv 2) ae (λ _ _=>rfl)) (aa (fV rfl (pv 2) ae (λ _ _=>rfl)) ac)))))))))
   (λ e G=>ag (aB (ap GW (hr.hand Z9 Z9) Z7 Wd.m Wd.F.kp Wd.b .nil az (aa (pv 3) ac)))))
  (ag (aB (aO ac))),?_⟩
 obtain⟨e1,_⟩:=Y.k 0 _ cR (.inl ⟨rfl,rfl⟩) ec.r;have bad:∀H1,Gm H H1->L6 Tb H1->(∀t H',Gm H H'->L6 Tb H'->H' t=some (.tup [.str (Str.ofString "row")])->Q (.ref t) H')->∀e vx,H1 e=none->LD P1 [.ref e] (upd H1 e (.frz (exO (.ref cR) vx) (.own e))) Q E0:=λ H1 s1 O1 k e vx he=>
  ⟨e,cR,0,_,rfl,⟨vx,af⟩,ec.r,.inl ⟨rfl,rfl⟩,λ t H2 s2 ht=>k t H2 (s1.trans ((ak he).trans s2).n) (O1.same ((ak he).trans s2)) ht⟩
 refine aw λ R g=>⟨_,rfl,rfl,_,rfl,bc (λ h0=>?_) (λ h0=>?_)⟩
 ·have h0:wh=0:=Gr.mp (Am h0);refine⟨rfl,_,rfl,o,dx,[],rfl,ho,rfl,_,rfl,lt,_,_,_,rfl,rfl,Gf.of F9,aD rfl,_,rfl,lt,_,_,_,rfl,rfl,Gf.of F9,aD rfl,_,rfl,lt,_,_,_,rfl,rfl,Gf.of F9,aD rfl,?_⟩;rcases h with⟨hN,k⟩|⟨d,a,N',T0,T,W,_,hG,k⟩
  ·exact .inl ⟨o,p,x,y,rfl,hN,λ H' s1=>⟨cR,rfl,e1.x,e1.n,e1.s,λ e vx he=>⟨_,rfl,bad H' s1.n (hT.same s1) k e vx he⟩⟩⟩
  ·obtain⟨rfl,h1,h2,h3,h4,h5⟩:=hG;exact .inr ⟨o,p,d,a,y,T,W,N',T0,rfl,h4,h5,h1,h2,h3,λ ps H' ML hb kp=>g _ _ ⟨A1 _,λ t nt=>k t ps _ ML (hb.keep λ c o e _=>ak nt _ _ e) (λ c o e n1 n2=>ak nt _ _ (kp _ _ e n1 n2)) af⟩⟩
 rcases h with⟨hN,k⟩|⟨d,a,N',T0,T,W,z,_⟩
 rotate_left
 ·exact absurd (Ae (by rw [z];rfl)) h0
 refine⟨_,rfl,rfl,_,rfl,bc (λ h1=>?_) (λ h1=>?_)⟩
 ·exact⟨rfl,_,rfl,o,dx,[],rfl,ho,rfl,_,rfl,lt,_,_,_,rfl,rfl,Gf.of F9,aD rfl,_,rfl,lt,_,_,_,rfl,rfl,Gf.of F9,aD rfl,.inl ⟨o,dx,x,y,rfl,ho,hN,λ H' s1=>⟨cR,rfl,e1.x,e1.n,e1.s,λ e vx he=>⟨_,rfl,bad H' s1.n (hT.same s1) k e vx he⟩⟩⟩⟩
 ·exact⟨rfl,_,rfl,lt,_,_,_,rfl,rfl,Gf.of F9,aD rfl,_,rfl,lt,_,_,_,rfl,rfl,Gf.of F9,aD rfl,x,y,rfl,hN,hT,λ H' s1 O1=>⟨cR,rfl,e1.x,e1.n,e1.s,λ e vx he=>⟨_,rfl,bad H' s1 O1 k e vx he⟩⟩⟩
end
abbrev lD:F5:=top 98
def QF (K:Frag)(v:V)(H:Hp):Prop:=Rf.G9 K H v\/∃T,Rf.MV H v T/\(T.length=0\/64<T.length)
def RQ (K:Frag)(v:V)(H:Hp):Prop:=Rf.Ii K H v 192
def Yj (K:Frag)(v:V)(H:Hp):Prop:=Rf.Yb K H v 0 255 false
def Stb (Φ:V->Hp->Prop):Prop:=∀{v} {H H'},Φ v H->C' H H'->Φ v H'
def cJ:Stb (QF K):=λ h s=>h.elim (λ h=>.inl (h.same s)) λ z9=>by obtain⟨T,h,r⟩:=z9;exact .inr ⟨T,h.same s,r⟩
def dZ:Stb (RQ K):=λ h s=>h.same s
def eM:Stb (Yj K):=λ h s=>h.elim .inl λ h=>.inr ⟨h.1.same s,h.2⟩
def xg (ty:GU K H x (.type t))(h: ["NoneType","str","int","bool","tuple","dict"].contains t=true):Rf.G9 K H x:=.inl ⟨_,ty,Rf.QZ K h⟩
def yD (h:H a=↥xs)(h0:xs[0]?=some y)(hy:Yj K y H):Rf.G9 K H (.ref a):=.inr ⟨a,xs,0,y,rfl,h,λ i z=>absurd z (Dc _),h0,hy⟩
def nt (ty:GU K H v (.type t))(h: ["NoneType","str","int","bool","tuple","dict"].contains t=true):QF K v H:=.inl (xg ty h)
def nw (ty:GU K H v (.type t))(h: ["NoneType","str","int","bool","tuple","dict"].contains t=true)(hn:v≠ .non):RQ K v H:=.inl ⟨hn,xg ty h⟩
def Ev.imp (h:Ev te σ H Φ)(f:∀v H',Φ v H'->Ψ v H'):Ev te σ H Ψ:=λ H1 s Q k=>h H1 s Q λ v H' s' p=>k v H' s' (f v H' p)
def Ev.c (h:∀H',Φ v H'):Ev (tC v) σ H Φ:=λ H1 s Q k=>k v H1 (C'.refl H1) (h H1)
def Ev.var (h:σ[i]?=some (some v))(hv:Φ v H)(st:Stb Φ):Ev (Gs i) σ H Φ:=λ H1 s Q k=>⟨_,h,k _ H1 (C'.refl H1) (st hv s)⟩
def Ev.tup0 (h:∀p H',H' p=some (.tup [])->Φ (.ref p) H'):Ev (iq bF) σ H Φ:=λ H1 s Q k=>⟨A1 _,λ p hp=>k _ _ (ak hp) (h p _ af)⟩
def Ev.dict0 (h:∀p H',H' p=some (.dK [])->Φ (.ref p) H'):Ev uH σ H Φ:=λ H1 s Q k p hp=>k _ _ (ak hp) (h p _ af)
def Ev.one (h:∀p H',H' p=↥[v]->Φ (.ref p) H'):Ev (gh (aP (tC v) bF)) σ H Φ:=λ H1 s Q k=>⟨(by show 1≤sizeLine;decide),λ p hp=>k _ _ (ak hp) (h p _ af)⟩
def Ev.lst0 (h:∀p H',H' p=↥[]->Φ (.ref p) H'):Ev (gh bF) σ H Φ:=λ H1 s Q k=>⟨A1 _,λ p hp=>k _ _ (ak hp) (h p _ af)⟩
def Ev.ll (h:∀p q H',H' p=↥[.ref q]->H' q=↥[]->Φ (.ref p) H'):Ev (gh (aP (gh bF) bF)) σ H Φ:=λ H1 s Q k=>
 ⟨A1 _,λ q hq=>⟨(by show 1≤sizeLine;decide),λ p hp=>k _ _ ((ak hq).trans (ak hp)) (h p q _ af (ak hp _ _ af))⟩⟩
def Ev.tupOf {A:'c'}(e:σ[i]?=some ↑a)(ha:H a=↥(A.map vN))(h:∀p xs H',H' p=some (.tup xs)->Φ (.ref p) H'):
  Ev (Qe (λ xs H Q=>∃p ys,xs=[.ref p]/\((Gf K H p ys/\∀l,H l=none->Q (.ref l) (upd H l (.tup ys)))\/(GF K H p ys/\Q (.ref p) H))) (aP (Gs i) bF)) σ H Φ:=λ H1 s Q k=>
 ⟨_,e,a,_,rfl,.inl ⟨Gf.of (s _ _ ha),λ l nl=>k _ _ (ak nl) (h l _ _ af)⟩⟩
def Tag (ta:TA)(σ:St)(H:Hp)(Φ:V->Hp->Prop)(n:Nat):Prop:=∀H1,C' H H1->∀Q,(∀vs H',C' H1 H'->vs.length=n->(∀v∈vs,Φ v H')->Q vs H')->ta σ H1 Q
def Tag.nil:Tag bF σ H Φ 0:=λ H1 _ Q k=>k [] H1 (C'.refl H1) rfl (λ _ h=>nomatch h)
def Tag.cons (st:Stb Φ)(h:Ev t σ H Φ)(g:Tag ta σ H Φ n):Tag (aP t ta) σ H Φ (n+1):=λ H1 s Q k=>
 h H1 s _ λ v H2 s2 p=>g H2 (s.trans s2) _ λ vs H3 s3 hl hv=>k (v::vs) H3 (s2.trans s3) (Bx (·+1) hl) λ x hx=>by
  rcases AB.mp hx with rfl|hx
  ·exact st p s3
  ·exact hv x hx
def V' (Φ:V->Hp->Prop)(n:Nat):V->Hp->Prop:=λ v H=>∃l vs,v=.ref l/\H l=↥vs/\vs.length=n/\∀x∈vs,Φ x H
def Ev.list {σ:St}{H:Hp}(st:Stb Φ)(h:Tag ta σ H Φ n)(hn:n≤2000):Ev (gh ta) σ H (V' Φ n):=λ H1 s Q k=>h H1 s _ λ vs H2 s2 hl hv=>⟨bG (by rw [hl];exact hn),λ p hp=>k _ _ (s2.trans (ak hp)) ⟨p,vs,rfl,af,hl,λ x hx=>st (hv x hx) (ak hp)⟩⟩
def V'.at (h:V' Φ n v H)(hj:j<n):∃l vs x,v=.ref l/\H l=↥vs/\vs[j]?=some x/\Φ x H:=by
 obtain⟨l,vs,e,hl,hn,hv⟩:=h;have F9:j<vs.length:=by lia
 exact⟨l,vs,vs[j],e,hl,Ad F9,hv _ (BL F9)⟩
def Ev.ix (st:Stb Φ)(h:Ev t σ H (V' Φ n))(hi:Vl ti σ H (vN j))(hj:j<n):Ev (Im (KH K) t ti) σ H Φ:=λ H1 s Q k=>
 h H1 s _ λ v H2 s2 p=>hi H2 (s.trans s2) _ λ u H3 s3 e=>by
  subst e;obtain⟨l,vs,x,rfl,hl,hx,px⟩:=p.at hj;exact⟨l,_,_,x,rfl,rfl,Gf.of (s3 _ _ hl),aD hx,k _ H3 (s2.trans s3) (st px s3)⟩
def Vl.neg (h:Vl t σ H (.int i))(e:j=-i):Vl (tUn (rU λ i=>.int (-i)) t) σ H (.int j):=λ H1 s Q k=>by
 subst e;exact h H1 s _ λ x H2 s2 e=>⟨i,e,k _ H2 s2 rfl⟩
def LG.ofLs (h:Ls te σ H A):LG te σ H (A.map vN):=h
def QF.sg (h:QF K v H):Rf.Jr K H v y:=by
 rcases h with h|⟨T,h,r⟩
 ·exact .inl h
 ·exact .inr ⟨T,h,r.elim .inl λ r=>.inr (.inl r)⟩
def RQ.sg {T:'c'}(h:RQ K y H)(ha:H a=↥(T.map vN))(hb:∀b∈T,b<256)(hl:T.length≤64):Rf.Jr K H (.ref a) y:=.inr ⟨T,⟨a,rfl,ha,hb⟩,.inr (.inr ⟨hl,h⟩)⟩
def Gf.sameN (h:Gf K H a xs)(s:Gm H H'):Gf K H' a xs:=by
 rcases h with(e|⟨o,e⟩)|h
 ·exact .inl (.inl (s _ _ e (by intro ps z;cases z)))
 ·exact .inl (.inr ⟨o,s _ _ e (by intro ps z;cases z)⟩)
 ·exact .inr h
def x4 (h:L6 Tb H)(hp:H p=some (.ins C dx fs))(hd:H d=↥xs)(kp:∀c o,H c='g'->c≠p->c≠d->H' c='g'):L6 Tb H':=by
 obtain⟨ps,e,r⟩:=h;refine⟨ps,kp _ _ e (aT e hp 'f') (aT e hd 'f'),?_⟩;rcases r with r|⟨c',oc,vs,t,r1,r2,r3⟩
 ·exact .inl r
 ·exact .inr ⟨c',oc,vs,t,r1,kp _ _ r2 (aT r2 hp 'f') (aT r2 hd 'f'),r3⟩
inductive K3 (K:Frag) (Tb:FR) (vs:List V) (H:Hp) (Q:VK) (Gj:XK):Prop
 |mk (a lt lb:FR) (ns:List Int) (T W:'c') (h0:vs=[.ref a,.ref lt,.ref lb]) (h1:Gf K H a (ns.map V.int)) (h2:H lt=↥(T.map vN)) (h3:H lb=↥(W.map vN)) (h4:TW T W) (h5:T.length≤64) (h6:L6 Tb H) (h7:∀H',Gm H H'->L6 Tb H'->Q (.bl true) H'):K3 K Tb vs H Q Gj
abbrev nNR:List Str:=["_law_script","_law_text","_law_before","_law_cell","_law_way","_law_at","_law_odd","_law_bad","_law_texts","_law_windows","_law_bits","_law_which","_law_thing"]
def IX:y' nNR ["_law_script","_law_text","_law_before"] (am lD):=Gw Z8
def rk {cP:FR}(F:'h' "_law_no_rows" lD ["_law_script","_law_text","_law_before"] f fd)(Ce:'h' "_law_cell_at" iG ["_law_script","_law_k"] fC fdC)(Tr:'h' "_law_tried" kS ["_law_way","_law_which","_law_things"] fT PV)
  (Bw:JS K "best_way" "best_way" eY dB c fB TX) (mW:mg "best_way"=↑fB) (bW:Binds K TX Jad []) (Z:O6 K mg B D G C0 C1 C2 C3) (N:Rf.Nr K mg cR) (hC:CodeHd base c Tb) (hB:Js mg base) (hK:K.lookup Tb=none)
  (Wd:'h' "_law_word" jV ["_law_error"] fw fdw) (Y:RV K mg cP P1) (ec:EC P1 cR cN cB):'a' Gn 41 f fd ["_law_script","_law_text","_law_before"] (K3 K Tb):=by
 have X:=N.Y.X;have Zb:=Z.S0.Zb;obtain⟨_,_,Wy⟩:=Z.ways;obtain⟨_,_,FI,bI,MI⟩:=Zb.init;obtain⟨_,_,W'⟩:=Zb.R.whole;obtain⟨_,_,S'⟩:=Zb.needsize;obtain⟨_,_,O'⟩:=Zb.ones;obtain⟨_,_,Pu⟩:=Zb.put;obtain⟨_,_,M'⟩:=Zb.move;obtain⟨_,_,Ma⟩:=Zb.many;have TB:=Zb.T;have GP:=g7 (P:=P) (w:=w) (base:=base) Pu.F S' W' O' M' TB X;have GM:=pb (P:=P) (w:=w) (base:=base) Ma.F TB X;have GI:=iV (P:=P) (w:=w) (mg:=mg) (base:=base) FI TB;have GC:=pd (P:=P) (w:=w) (base:=base) Ce X;have Ua:=kZ (P:=P) (w:=w) (base:=base) Wy.F Z;refine F.F.ok IX ?_
 intro 'a';obtain⟨a,lt,lb,ns,T,W,rfl,hS,F9,JI,tw,G6,hT,k⟩:=h;obtain⟨u,eu,Ny⟩:=aY (ns.getD 0 0) (show(0:Int)<4 by decide);have Ny:u<4:=by lia
 have O:=Z.ok (P:=P) (w:=w) (base:=base) N Ny;obtain⟨_,_,mK,bK,GK⟩:=O.cost;have GT:=uV (P:=P) (w:=w) (base:=base) Tr Bw mW bW Z N hC hB hK O Wd Y ec;have QM:Ge 36 _:=hr.mono Z9;have HS:Ge 3 _:=hr.mono Z9;have IW:Ge 2 _:=hr.mono Z9;have Gz:Ge 1 _:=hr.mono Z9;have hu:=hr.units;have WY:_<cLine:=Be (BM _ 64) hu;refine⟨_,ad (aq (i:=3) IX.nd (ap GC Gz Z7 Ce.m Ce.F.kp Ce.b .nil az (aa (pv 0) (aa ae ac))))
   (ad (aq (i:=4) IX.nd (aU aW (eT Ua Gz Z7 Wy.m Wy.F.kp Wy.b .nil az) (ao aQ (pv 3) ae) (λ _ _=>rfl)))
   (ad (aq (i:=5) IX.nd (ao aQ (ao bo (pv 3) ae) (ay ax Z7 X.len Ay (aa (pv 1) ac))))
   (ad (aq (i:=6) IX.nd (aU aW (aH (aa ae (aa (zo xS ae) (aa cO (aa eC (aa aX (aa (aH (aa ae ac)) (aa cO (aa (ao yp ae ae) (aa (aO ac) ac)))))))))) (ao aQ (ao bo (pv 3) ae) ae) (λ _ _=>rfl)))
   (ad (aq (i:=7) IX.nd (ao bz (ao bz (cf dI (pv 1) fu (bM (pv 5))) (aH (aa (pv 6) ac))) (cf dI (pv 1) (bM (pv 5)) fu)))
   (ad (aq (i:=8) IX.nd (aH (aa (aH ac) (aa (ao cU (aH (aa ae ac)) ae) (aa eC (aa (cK dS Z7 Y.tuple El (aa (pv 1) ac)) (aa aX (aa ae (aa ml (aa (pv 7) (aa (pv 7) (aa (pv 7) (aa (aO ac) (aa (aH (aa eC ac)) (aa (aH (aa (aH ac) ac)) (aa cO ac))))))))))))))))
   (ad (aq (i:=9) IX.nd (aH (aa (ao cU (aH (aa ae ac)) ae) (aa (aO ac) (aa aX (aa ae (aa cO (aa (cK dS Z7 Y.tuple El (aa (pv 2) ac)) (aa (pv 7) (aa ml (aa (aH (aa ae ac)) ac)))))))))))
   (ad (aq (i:=10) IX.nd (jd MI GI IW Z7 Zb.m bI .nil az))
   (ad (aE (aN (pv 10) TB.cl Pu.m GP HS Pu.b .nil az (aa ae (aa ae ac))))
   (ad (bp AV rfl (xV (aO (aa ae (aa ae (aa ae ac))))) (aG (i:=11) IX.nd) (ad (aq (i:=12) IX.nd (aU aW (pv 8) (ao aQ (ao bo (pv 3) ae) ae) (λ _ _=>rfl)))
   (ad (aM (PW.pt (jg (aA (gM hu) (ap GT hr Z7 Tr.m Tr.F.kp Tr.b .nil az (aa (pv 4) (aa (pv 11) (aa (aH (aa (pv 12) (aa (pv 2) (aa (pv 10) ac)))) ac)))) (aO (aa aX ac)) (aC _)) (fX (aA qw (cx (pv 10) TB.cl Ma.m GM Gz Ma.b .nil az) ae (aC _))))) (ag (aB cO)) aF)
   (ad (aq (i:=12) IX.nd (aU aW (pv 9) (ao aQ (ao bo (pv 3) ae) ae) (λ _ _=>rfl)))
   (ag (aM (PW.pt (jg (aA (gM hu) (ap GT hr Z7 Tr.m Tr.F.kp Tr.b .nil az (aa (pv 4) (aa (pv 11) (aa (aH (aa (pv 1) (aa (pv 12) (aa (pv 10) ac)))) ac)))) (aO (aa aX ac)) (aC _)) (fX (aA qw (cx (pv 10) TB.cl Ma.m GM Gz Ma.b .nil az) ae (aC _))))) (ag (aB cO)) aF))))))
   (ag (aB (gQ (gG (qr WY) (ap GT hr Z7 Tr.m Tr.F.kp Tr.b .nil az (aa (pv 4) (aa ae (aa (aH (aa (pv 1) (aa (pv 2) (aa (pv 10) ac)))) ac)))) (aO ac) (aC _)) (g8 (gG bE (cx (pv 10) TB.cl Ma.m GM Gz Ma.b .nil az) (ao aI ae (aN (pv 4) O.cl mK GK QM bK .nil jU (aa (pv 1) (aa (pv 2) ac)))) (aC _))))))))))))))),?_⟩
 refine aw λ R g=>⟨_,rfl,a,ns,0,rfl,hS,g _ _ ?_⟩
 clear g;generalize ns.getD 0 0=c0 at*;refine aw λ R g=>⟨rfl,λ lw os ds H1 nlw no hlw ho s1=>⟨_,rfl,_,_,rfl,rfl,(by show(0:Int)<4;decide),lw,_,_,_,rfl,rfl,Gf.of hlw,(by rw [eu];exact aD (gx4 Ny)),g _ _ ?_⟩⟩
 clear g;have hou:=ho u Ny;have nou:=no u Ny;clear ho no hlw nlw;generalize os u=ow at*;generalize ds u=dw at*;have UJ:=s1 _ _ F9;have YU:=s1 _ _ JI;have h1T:=tw.one;obtain⟨at',eat,hat⟩:=aY (c0/4) (show(0:Int)<(T.length:Int) by lia);refine aw λ R g=>eJ (.op (.op (.var rfl) .c ⟨Z9,Z9⟩ rfl) (.len (.var rfl UJ) rfl) (by show(0:Int)<(T.length:Int);lia) (by rw [eat])) λ H2 s2=>g _ _ ?_
 clear g;have hat:at'<T.length:=by lia
 obtain⟨j9,e9,hj9⟩:=aY (c0/32) (show(0:Int)<9 by decide);refine aw λ R g=>gc (Ev.ix (Φ:=Yj K) (n:=9) (j:=j9) eM (.list eM (.cons eM (.c λ _=>.inl ⟨256,rfl,rfl⟩) (.cons eM (.imp (Vl.neg .c rfl) λ v H' e=>e▸ .inl ⟨-1,rfl,rfl⟩) (.cons eM (.c λ _=>.inr ⟨.bl true,rfl⟩) (.cons eM (.c λ _=>.inr ⟨.of .non Z9,rfl⟩) (.cons eM (.c λ _=>.inr ⟨.of (.str _) Z9,rfl⟩) (.cons eM (.one λ p H' h=>.inr ⟨.of (.lst h) Z9,rfl⟩) (.cons eM (.c λ _=>.inr ⟨.bl false,rfl⟩) (.cons eM (.imp (Vl.op .c .c ⟨Z9,Z9,Z9⟩ rfl) λ v H' e=>e▸ .inl ⟨10^20,rfl,rfl⟩) (.cons eM (.tup0 λ p H' h=>.inr ⟨.of (.tup h) Z9,rfl⟩) .nil))))))))) Z9) (.op (.op (.var rfl) .c ⟨Z9,Z9⟩ rfl) .c (by show(0:Int)<9;decide) (by rw [e9])) (by lia)) λ od H3 s3 ZE=>g _ _ ?_
 clear g e9 hj9;have Np:=(s1.trans s2).trans s3;have QP:=Np _ _ F9;have YT:=Np _ _ JI;refine aw λ R g=>gc ((LG.cat (.cat (.ofLs (.upto (.var rfl QP) (.var rfl))) (.lst (vs:=[od]) (.cons (.var rfl) .nil) (AZ rfl)) (by rw [Aa,Aq];show _+1≤_;lia)) (.ofLs (.fro (.var rfl QP) (.var rfl))) (by rw [Ac,Aa,Aa,Aq,Au];show _+1+_≤_;lia)).imp (Ψ:=λ v H'=>∃l,v=.ref l/\H' l=↥((T.take at').map vN++[od]++(T.drop at').map vN)) λ v H' z=>z) λ v4 H4 s4 ⟨lbad,e4,JQ⟩=>g _ _ ?_
 clear g;subst e4;have Uk:=eM ZE s4;have Sq:Rf.G9 K H4 (.ref lbad):=.inr ⟨lbad,_,at',od,rfl,JQ,λ i hi=>⟨T[i],tw.tb _ (BL _),by rw [An,Bg (by rw [Aa,Aq];lia),AU,Fl,AK hi,Ad (by lia)];rfl⟩,by rw [An,AY (by rw [Aa,Aq];lia),Aa,Aq,Bu (by lia),DF];rfl,Uk⟩;have Nn:=Np.trans s4;have Yr:=(s2.trans s3).trans s4;have UI:=Nn _ _ F9;have UQ:=Nn _ _ JI;clear UJ YU QP YT ZE Uk JQ s2 s3 s4 Np;refine aw λ R g=>gc (Ev.list (Φ:=QF K) (n:=14) cJ (.cons cJ (.lst0 λ p H' h=>.inr ⟨[],⟨p,rfl,h,by simp⟩,.inl rfl⟩) (.cons cJ (.imp (Ls.rep (x:=7) (n:=65) .c .c Z9) λ v H' z9=>by obtain⟨p,e,h⟩:=z9;exact .inr ⟨_,⟨p,e,h,λ b hb=>by rw [BY hb];decide⟩,.inr (by rw [Al];decide)⟩) (.cons cJ (.c λ _=>nt .non Z9) (.cons cJ (.tupOf rfl UI λ p xs H' h=>nt (.tup h) Z9) (.cons cJ (.c λ _=>nt (.str _) Z9) (.cons cJ (.c λ _=>nt (.int _) Z9) (.cons cJ (.dict0 λ p H' h=>nt (.dK h) Z9)
  (.cons cJ (.var rfl (.inl Sq) cJ) (.cons cJ (.var rfl (.inl Sq) cJ) (.cons cJ (.var rfl (.inl Sq) cJ) (.cons cJ (.tup0 λ p H' h=>nt (.tup h) Z9) (.cons cJ (.one λ p H' h=>.inl (yD h rfl (.inr ⟨.of .non Z9,rfl⟩))) (.cons cJ (.ll λ p q H' h h'=>.inl (yD h rfl (.inr ⟨.of (.lst h') Z9,rfl⟩))) (.cons cJ (.c λ _=>nt (.bl _) Z9) .nil)))))))))))))) Z9) λ v5 H5 s5 p5=>g _ _ ?_
 clear g;have Uo:=Sq.same s5;have Pj:=s5 _ _ UQ;refine aw λ R g=>gc (Ev.list (Φ:=RQ K) (n:=9) dZ (.cons dZ (.imp (Ls.rep (x:=0) (n:=193) .c .c Z9) λ v H' z9=>by obtain⟨p,e,h⟩:=z9;exact .inr ⟨_,⟨p,e,h,λ b hb=>by rw [BY hb];decide⟩,by rw [Al];decide⟩) (.cons dZ (.tup0 λ p H' h=>nw (.tup h) Z9 (λ z=>nomatch z)) (.cons dZ (.c λ _=>nw (.str _) Z9 (λ z=>nomatch z)) (.cons dZ (.c λ _=>nw (.int _) Z9 (λ z=>nomatch z)) (.cons dZ (.c λ _=>nw (.bl _) Z9 (λ z=>nomatch z)) (.cons dZ (.tupOf rfl Pj λ p xs H' h=>nw (.tup h) Z9 (λ z=>nomatch z)) (.cons dZ (.var rfl (.inl ⟨(λ z=>nomatch z),Uo⟩) dZ) (.cons dZ (.dict0 λ p H' h=>nw (.dK h) Z9 (λ z=>nomatch z)) (.cons dZ (.one λ p H' h=>.inl ⟨(λ z=>nomatch z),yD h rfl (.inl ⟨256,rfl,rfl⟩)⟩) .nil))))))))) Z9) λ v6 H6 s6 p6=>g _ _ ?_
 clear g;clear Sq Uo Pj UI UQ;refine aw λ R g p dp np OR Q6=>?_
 have s7:=dq (C:=B) np OR;refine⟨p,dp,rfl,af,λ d H7 nd Qy Q8=>⟨rfl,g _ _ ?_⟩⟩;clear g;have ZM:H6 d=none:=none_of s7 nd;obtain⟨XX,r7,k7,M8⟩:=Qy.ob;refine aw λ R g=>⟨_,rfl,p,XX,_,rfl,M8,dj _ _ _,p,d,0,0,1,1,rfl,Qy,Z9,Z9,Z9,λ H8 V0 Nx=>g _ _ ?_⟩
 clear g;have Qf:C' H6 H8:=λ c o e=>Nx _ _ (Q8 _ _ (s7 _ _ e) (ai e np)) (ai e np) (ai e ZM)
 obtain⟨j14,PY,hj14⟩:=aY (c0/288) (show(0:Int)<14 by decide);obtain⟨jw,ew9,hjw⟩:=aY (c0/288) (show(0:Int)<9 by decide);obtain⟨l5,vs5,x5,rfl,Ql,hx5,Sm⟩:=p5.at (j:=j14) (by lia);obtain⟨l6,vs6,x6,rfl,SW,hx6,Sl⟩:=p6.at (j:=jw) (by lia);have Ql:=Qf _ _ (s6 _ _ Ql);have SW:=Qf _ _ SW;have Sm:=cJ Sm (s6.trans Qf);have Sl:=dZ Sl Qf;have Sf:C' H H6:=(Nn.trans s5).trans s6;have WB:H p=none:=none_of Sf np;have WM:H d=none:=none_of Sf ZM;have Pr:C' H H8:=Sf.trans Qf;have UH:=Pr _ _ F9;have UO:=Pr _ _ JI;have hT8:=hT.same Pr;have ho8:H8 ow=some (.ins (cs C0 C1 C2 C3 u) dw []):=Qf _ _ (s6 _ _ (s5 _ _ (Yr _ _ hou)));clear p5 p6 s5 s6 Nn Q8 Nx M8 Qy s7 Qf;refine aw λ R g=>⟨(by show 3≤sizeLine;decide),λ tp Nq=>⟨tp,rfl,⟨_,GF.of af⟩,?_⟩⟩
 have s9:=ak (o:=.tup [.int 0,.int 1,.int 2]) Nq;have WZ:(upd H8 tp (.tup [.int 0,.int 1,.int 2])) tp=some (.tup [.int 0,.int 1,.int 2]):=af;generalize upd H8 tp (.tup [.int 0,.int 1,.int 2])=H9 at*;have Ql:=s9 _ _ Ql;have SW:=s9 _ _ SW;have Sm:=cJ Sm s9;have Sl:=dZ Sl s9;have QO:=s9 _ _ UH;have UN:=s9 _ _ UO;have SO:=s9 _ _ ho8;have XI:Gh B H9 p d 1 1:=V0.keep λ c o e _=>s9 _ _ e
 have hT9:=hT8.same s9;have s09:=Pr.trans s9;clear s9 Pr V0 UH UO ho8 hT8;have nx:∀{H'},Gm H9 H'->∀{x},QF K x H9->QF K x H':=λ s x h=>h.elim (λ h=>.inl (h.sameN s)) λ z9=>by obtain⟨T,h,r⟩:=z9;exact .inr ⟨T,h.sameN s,r⟩
 have one:∀Yp σ x y i H' tx ty R,i≤2->Gm H9 H'->L6 Tb H'->Rf.Jr K H' x y->σ[4]?=some ↑ow->σ[11]?=some (some (vN i))->σ[10]?=some ↑p->Vl tx σ H' x->Vl ty σ H' y->
   (∀H2,Gm H9 H2->L6 Tb H2->R false H2)->
   tOr (fE (Im (L8 K) (dJ (Kn K Tb B (cs C0 C1 C2 C3 u) u) [] Yp (aP (Gs 4) (aP (Gs 11) (aP (gh (aP tx (aP ty (aP (Gs 10) bF)))) bF)))) (iq (aP (tC (.str (Str.ofString "row"))) bF)))) (fE (Im Ws (mq B "many" (LJ B) [] Yp (Gs 10) bF) (tC (.int 1)))) σ H' R:=by
  intro Yp σ x y i H' tx ty R hi sN KA hN h4 OH PN hx hy k;refine⟨_,h4,_,OH,hx H' (C'.refl H') _ λ vx H1 s1 e1=>hy H1 s1 _ λ vy H2 s2 e2=>?_⟩;subst e1 e2;refine⟨_,PN,(by show 3≤sizeLine;decide),λ l nl=>?_⟩;have s3:=ak (o:=.lst [vx,vy,.ref p]) nl;have IL:=(s1.trans s2).trans s3;refine⟨ow,dw,l,p,vx,vy,i,rfl,hi,(sN.trans IL.n).ins SO,af,KA.same IL,.inl ⟨hN.sameN IL.n,λ t H4 s4 TM ht=>⟨(by show 1≤sizeLine;decide),λ t2 Wz=>?_⟩⟩⟩;have s5:=ak (o:=.tup [.str (Str.ofString "row")]) Wz;have sA:Gm H9 _:=((sN.trans IL.n).trans s4).trans s5.n;obtain⟨dx,r,k',hp⟩:=(Gh.sameN XI sA).ob;refine⟨t,t2,_,rfl,rfl,GF.of (s5 _ _ ht),GF.of af,rfl,_,rfl,cV ?_⟩;exact⟨_,PN,p,dx,_,rfl,hp,dj _ _ _,p,d,1,1,rfl,Gh.sameN XI sA,rfl,_,rfl,k _ sA (TM.same s5)⟩
 refine wP (D:=⟨_,_,λ _ _=>False,λ _ _=>False⟩) (K:=K) (a:=tp) (xs:=[.int 0,.int 1,.int 2]) (λ i σ H'=>∃v11 Wg,σ=[↑a,↑lt,↑lb,some (.int c0),↑ow,some (vN at'),some od,↑lbad,↑l5,↑l6,↑p,v11,Wg]/\Gm H9 H'/\L6 Tb H')
  ⟨none,none,rfl,Gm.refl,hT9⟩ (λ i σ H' _ z9=>by obtain⟨_,_,_,s,_⟩:=z9;exact GF.of (s.tup WZ)) ?_ ?_
 ·clear g;rintro i x σ H' hx ⟨v11,Wg,rfl,sN,KA⟩;obtain⟨hi,rfl⟩:i≤2/\x=vN i:=by
   rcases i with _|_|_|i
   ·exact⟨by decide,(AJ hx).symm⟩
   ·exact⟨by decide,(AJ hx).symm⟩
   ·exact⟨by decide,(AJ hx).symm⟩
   ·cases hx
  refine aw λ R g=>⟨_,rfl,_,rfl,_,_,rfl,rfl,⟨Z9,Z9⟩,_,_,rfl,rfl,(by show(0:Int)<14;decide),l5,_,_,_,rfl,rfl,Gf.of (sN.lst Ql),(by rw [PY];exact aD hx5),g _ _ ?_⟩
  clear g;refine aw λ R g=>one _ _ x5 (.ref lb) i H' _ _ _ hi sN KA (nx sN Sm).sg rfl rfl rfl (.var rfl) (.var rfl) λ H2 s2 MQ=>g _ _ ?_
  clear g;refine aw λ R g=>⟨_,rfl,_,rfl,_,_,rfl,rfl,⟨Z9,Z9⟩,_,_,rfl,rfl,(by show(0:Int)<9;decide),l6,_,_,_,rfl,rfl,Gf.of (s2.lst SW),(by rw [ew9];exact aD hx6),g _ _ ?_⟩
  clear g;refine one _ _ (.ref lt) x6 i H2 _ _ _ hi s2 MQ (RQ.sg (Sl.sameN s2) (s2.lst QO) tw.tb G6) rfl rfl rfl (.var rfl) (.var rfl) λ H3 s3 O0=>?_
  exact⟨_,_,rfl,s3,O0⟩
 ·rintro σ H' ⟨v11,Wg,rfl,sN,KA⟩;refine g _ _ ?_;clear g one;refine⟨_,rfl,_,rfl,_,rfl,_,rfl,(by show 3≤sizeLine;decide),λ l nl=>?_⟩;have s3:=ak (o:=.lst [.ref lt,.ref lb,.ref p]) nl;have sA:Gm H9 _:=sN.trans s3.n;have hTA:=KA.same s3;have hlA:(upd H' l (.lst [.ref lt,.ref lb,.ref p])) l=↥[.ref lt,.ref lb,.ref p]:=af;generalize upd H' l (.lst [.ref lt,.ref lb,.ref p])=HA at*;have hBA:=Gh.sameN XI sA;refine⟨ow,dw,l,p,.ref lt,.ref lb,0,rfl,Z9,sA.ins SO,hlA,hTA,.inr ⟨d,lt,1,1,T,W,rfl,⟨rfl,sA.lst QO,.inr ⟨lb,rfl,sA.lst UN⟩,tw,hBA,Z9⟩,λ t ps H4 ML hb kp ht=>⟨A1 _,λ t2 Wz=>?_⟩⟩⟩;have s5:=ak (o:=.tup []) Wz;obtain⟨dxA,BA,rA,kA,VH,VS,_⟩:=hBA;have nwp:ow≠p:=aT (sA.ins SO) VH (by intro z;injection z with _ _ z;cases z);have nwd:ow≠d:=aT (sA.ins SO) VS 'f';have Vu:lt≠p/\lt≠d:=⟨ai F9 WB,ai F9 WM⟩;have Vv:lb≠p/\lb≠d:=⟨ai JI WB,ai JI WM⟩;have hT5:=(x4 hTA VH VS kp).same s5;have hN5:Gm H _:=λ c o e n=>s5 _ _ (kp _ _ ((s09.n.trans sA) _ _ e n) (ai e WB) (ai e WM))
  have TF:=hb.keep λ c o e _=>s5 _ _ e
  obtain⟨dx5,r5,k5,hp5⟩:=TF.ob;have ho5:=s5 _ _ (kp _ _ (sA.ins SO) nwp nwd);refine⟨t,t2,[],[],rfl,rfl,GF.of (s5 _ _ ht),GF.of af,true,rfl,eQ ?_⟩;refine⟨_,rfl,p,dx5,_,rfl,hp5,dj _ _ _,p,d,_,_,rfl,TF,?_⟩;refine⟨_,rfl,ow,dw,[],rfl,ho5,rfl,_,rfl,_,rfl,.inr ⟨ow,dw,lt,.ref lb,T,W,rfl,ho5,s5 _ _ (kp _ _ (sA.lst QO) Vu.1 Vu.2),.inr ⟨lb,rfl,s5 _ _ (kp _ _ (sA.lst UN) Vv.1 Vv.2)⟩,tw,λ ZD H6' YI Zx=>?_⟩⟩;obtain rfl:=KN.uniq ML YI;refine⟨_,_,rfl,rfl,rfl,?_⟩;have ee:decide (vN (1+tots ps)=V.int (1+(tots ps:Int)))=true:=Ae rfl
  try dsimp only
  rw [ee];exact k _ (hN5.trans Zx.n) (hT5.same Zx)
abbrev kM:F5:=top 106
def pG (xs)(h:a≤b):cutV xs (some ⇑a) (some (b:Int))=(xs.drop a).take (b-a):=by
 unfold cutV;rw [HT.HP,HT.HP];rcases Nat.le_total a xs.length with h1|h1
 ·rw [Bu h1];rcases Nat.le_total b xs.length with h2|h2
  ·rw [Bu h2]
  ·rw [CJ h2,A3 (by rw [Au];lia),A3 (by rw [Au];lia)]
 ·rw [CJ h1,CJ (Ai h1 h),Dy h1,FE];simp
def md (n:Int):Nat:=(n%256).toNat
def qg (n:Int):md n<256:=by unfold md;lia
def tH (n):n%256=⇑(md n):=by unfold md;lia
abbrev uf:TE:=Im (rI (λ _ j=>0<j) λ i j=>.int (i%j)) (Gs 0) (tC (.int 256))
abbrev yQ:TE:=iq (aP (Gs 0) (aP (tC (.int 8)) bF))
def y6:(["_law_cell"]:List Str).Nodup:=Z8
def zS:(["_law_sign"]:List Str).Nodup:=Z8
def p8 (T:'c'):List (Nat×Nat):=T.map λ s=>(s,8)
def pF (T:'c'):tots (p8 T)=8*T.length:=by
 induction T with
 |nil=>rfl
 |cons x T ih=>show tots ((x,8)::p8 T)=_;rw [bU,ih,Ar];show 8+_=_;lia
def LiV (ns:List Int):V->Hp->Prop:=λ v H=>∃l,v=.ref l/\H l=↥(ns.map V.int)
def Ev.cut {i a:Nat}{ns:List Int}(h:σ[i]?=some ↑a)(hS:∀H',C' H H'->Gf K H' a (ns.map V.int))(L5:b≤e):Ev (Q0 (MW K) (Gs i) (iY (tC (.int ⇑b))) (iY (tC (.int (e:Int))))) σ H (LiV ((ns.drop b).take (e-b))):=λ H1 s Q k=>
 ⟨_,h,_,rfl,_,rfl,a,_,rfl,hS H1 s,λ l nl=>k _ _ (ak nl) ⟨l,rfl,by rw [af,pG _ L5,Eh,E3]⟩⟩
def Ls.mods (h:Ev ti σ H (LiV ns))(hl:ns.length≤100):Ls (nD 1 (uj K ti) (bw 0) uf) σ H (ns.map md):=λ H1 s Q k=>
 h H1 s _ λ v H2 s2 ⟨a,e,ha⟩=>by
  subst e;refine⟨a,rfl,⟨_,Gf.of ha⟩,λ l nl=>?_⟩;refine iK (λ i ys H3=>ys=((ns.take i).map md).map vN/\H3 l=↥ys/\C' H2 H3)
   ⟨rfl,af,ak nl⟩ (λ i ys H3 _ z9=>by obtain⟨_,_,sm⟩:=z9;exact Gf.of (sm _ _ ha)) ?_ ?_ (λ x σ H A B h z=>h _ _ z) ?_
  ·rintro i y ys σ' H3 hi ⟨rfl,h3,sm⟩ hσ;rw [AU] at hi;cases e:ns[i]? with
   |none=>rw [e] at hi;cases hi
   |some n=>
    rw [e] at hi;obtain rfl:=AJ hi;obtain⟨u0,rfl⟩:∃u0,σ'=[u0]:=match σ',hσ with| [u0],_=>⟨u0,rfl⟩
    refine⟨_,rfl,_,_,rfl,rfl,(by show(0:Int)<256;decide),h3,bA (by rw [Aa,Aa,Aq];lia),rfl,?_,af,λ c o e'=>by rw [aj (ai e' nl)];exact sm _ _ e'⟩;rw [Bl,e,Aw,Aw];show _++[V.int (n%256)]=_;rw [tH];rfl
  ·rintro ys H3 ⟨rfl,h3,sm⟩;rw [Aa,AT] at h3;exact k _ H3 (s2.trans sm) ⟨l,rfl,h3⟩
  ·rintro σ H A B h ⟨v,e1,i,j,e2,e3,e4,z⟩;exact⟨v,e1,i,j,e2,e3,e4,h _ _ z⟩
theorem Pl.p8 (h:σ[i]?=some ↑a)(ha:H a=↥(T.map vN))(hl:T.length≤100):Pl (nD 1 (uj K (Gs i)) (bw 0) yQ) σ H (p8 T):=λ H1 s Q k=>by
 refine⟨_,h,a,rfl,⟨_,Gf.of (s _ _ ha)⟩,λ l nl=>?_⟩;refine iK (λ i ys H2=>∃ts,ys=ts.map V.ref/\Ie H2 ts (Ck.p8 (T.take i))/\H2 l=↥ys/\C' H1 H2)
  ⟨[],rfl,.nil,af,ak nl⟩ (λ i ys H2 _ z9=>by obtain⟨_,_,_,_,sm⟩:=z9;exact Gf.of (sm _ _ (s _ _ ha))) ?_ ?_ (λ x σ H A B h z=>h _ _ z) ?_
 ·rintro i y ys σ H2 hi ⟨ts,rfl,hP,Hy,sm⟩ hσ;obtain⟨x,hx,rfl⟩:=ck hi;obtain⟨u0,rfl⟩:∃u0,σ=[u0]:=match σ,hσ with| [u0],_=>⟨u0,rfl⟩
  refine⟨_,rfl,(by show 2≤sizeLine;decide),λ t nt=>?_⟩;have st:=ak (o:=.tup [vN x,.int 8]) nt;have HI:i<T.length:=(Af.mp hx).1;have hlen:ts.length=i:=by rw [hP.len];unfold Ck.p8;rw [Aa,Aq];lia
  have Qx:Ie (upd H2 t (.tup [vN x,.int 8])) (ts++[t]) (Ck.p8 (T.take (i+1))):=by
   rw [eN hx];unfold Ck.p8;rw [Aw];exact(hP.mono st).app (.cons af .nil)
  have Ir:=st _ _ Hy;have s3:=sm.trans st;generalize upd H2 t (.tup [vN x,.int 8])=H3 at*;refine⟨Ir,bA (by rw [Aa,hlen];lia),rfl,ts++[t],by rw [Aw];rfl,Qx.keep λ c xs e=>?_,af,λ c o e=>?_⟩
  ·rw [aj (aT e Ir 'f')];exact e
  ·rw [aj (ai e nl)];exact s3 _ _ e
 ·rintro ys H2 ⟨ts,rfl,hP,Hy,sm⟩;rw [Aa,AT] at hP;exact k _ H2 sm ⟨l,ts,rfl,Hy,hP⟩
 ·rintro σ H A B h ⟨v,e1,e2,z⟩;exact⟨v,e1,e2,λ p hp=>h _ _ (z p hp)⟩
def Yi (Cu:FR):V->Hp->Prop:=λ v H=>∃o dx,v=.ref o/\H o=some (.ins Cu dx [])
def Yd (xs:List V):V->Hp->Prop:=λ v H=>∃t,v=.ref t/\H t=some (.tup xs)
def WnV:V->Hp->Prop:=λ v H=>∃W,Hd H v W/\W.length≤192
def lG:Stb (Yi Cu):=λ z9 s=>by obtain⟨o,dx,e,h⟩:=z9;exact⟨o,dx,e,s _ _ h⟩
def ft:Stb WnV:=λ z9 s=>by obtain⟨W,h,l⟩:=z9;exact⟨W,h.same s,l⟩
def Ev.way (h:Vl tn σ H (vN n))(h4:n<4):Ev (Im (KH K) (dJ (LF C) [] E bF) tn) σ H (Yi (C n)):=λ H1 s Q k=>
 ⟨rfl,λ l os ds H2 _ _ hl ho s2=>h H2 (s.trans s2) _ λ v H3 s3 e=>by
  subst e;exact⟨l,_,_,.ref (os n),rfl,rfl,Gf.of (s3 _ _ hl),aD (gx4 h4),k _ H3 (s2.trans s3) ⟨_,_,rfl,s3 _ _ (ho n h4)⟩⟩⟩
def Ev.lread (oc)(ho:Ev to σ H (Yi Cu))(hd:Vl td σ H (.str (txt bs)))(hn:Vl tn σ H (vN n))(hw:Vl tw σ H x)(hx:Hd H x W)(hW:W.length≤192)(G6:n≤64)(Rr:bs.length≤1000)(HH:Yk u n W.length bs oc):
  Ev (dJ (Jg Cu u) [] E (aP to (aP td (aP tn (aP tw bF))))) σ H (Yd (wdR oc)):=λ H1 s Q k=>
 ho H1 s _ λ v H2 s2 ⟨o,dx,e,h2⟩=>hd H2 (s.trans s2) _ λ v3 H3 s3 e3=>hn H3 ((s.trans s2).trans s3) _ λ v4 H4 s4 e4=>hw H4 (((s.trans s2).trans s3).trans s4) _ λ v5 H5 s5 e5=>by
  subst e e3 e4 e5;have Q2:=(s3.trans s4).trans s5;exact⟨o,dx,_,W,bs,n,oc,rfl,Q2 _ _ h2,hx.same ((s.trans s2).trans Q2),hW,G6,Rr,HH,λ t H' s6 ht=>k _ H' ((s2.trans Q2).trans s6) ⟨t,rfl,ht⟩⟩
def Ts.neTT (h:Ev te σ H (Yd xs))(g:Ta ta σ H xs)(hf:xs.all flatV=true)(hl:xs.length≤2000):Ts (fE (Im (L8 K) te (iq ta))) σ H false:=λ H1 s Q k=>
 h H1 s _ λ v H2 s2 z9=>by obtain⟨t,e,ht⟩:=z9;exact g H2 (s.trans s2) _ λ H3 s3=>⟨bG hl,λ p hp=>⟨t,p,xs,e,rfl,GF.of (ak hp _ _ (s3 _ _ ht)),GF.of af,hf,_,rfl,k _ ((s2.trans s3).trans (ak hp))⟩⟩
def Vl.slS (h:Vl t σ H (.str (txt bs)))(hi:Vl ti σ H (vN m))(hm:m≤bs.length)(hb:bs.length≤1000):Vl (Q0 QI t gK (iY ti)) σ H (.str (txt (bs.take m))):=λ H1 s Q k=>
 h H1 s _ λ v H2 s2 e=>hi H2 (s.trans s2) _ λ v3 H3 s3 e3=>⟨_,e3,_,e,bG (by rw [aS];lia),k _ H3 (s2.trans s3) (Bx V.str (ou hm))⟩
def Ls.repv (h:Ls t σ H A)(hn:Vl tn σ H (vN n))(hl:n*A.length≤2000)(h2:n≤2000):Ls (Im O8 t tn) σ H (List.replicate n A).flatten:=λ H1 s Q k=>
 h H1 s _ λ v H2 s2 ⟨p,e,hp⟩=>hn H2 (s.trans s2) _ λ u H3 s3 e3=>by
  subst e e3;refine⟨p,_,_,rfl,rfl,s3 _ _ hp,by lia,by lia,dO (by rw [Aa,AM,BE];exact hl),λ q hq=>?_⟩;rw [AM];exact k _ _ ((s2.trans s3).trans (ak hq)) ⟨q,rfl,by rw [af,List.map_flatten,Em]⟩
def Vl.lenS (h:Vl t σ H (.str (txt bs)))(hb:bs.length≤1000)(e:v=vN bs.length):Vl (Qe (λ xs H Q=>∃z,xs=[.str z]/\z.length≤sizeLine/\Q (.int (z.length:Int)) H) (aP t bF)) σ H v:=λ H1 s Q k=>by
 subst e;exact h H1 s _ λ v H2 s2 e=>⟨_,Bx (λ z=>[z]) e,bG (by rw [aS];lia),k _ H2 s2 (by rw [aS])⟩
def Vl.cell {ns:List Int}(h:Vl t σ H (.ref a))(g:Vl tk σ H (vN n))(hS:∀H',C' H H'->Gf K H' a (ns.map V.int)):Vl (dJ (LK K) [] E (aP t (aP tk bF))) σ H (.int (ns.getD n 0)):=λ H1 s Q k=>
 h H1 s _ λ v H2 s2 e=>g H2 (s.trans s2) _ λ v3 H3 s3 e3=>by
  subst e e3;exact⟨a,ns,n,rfl,hS H3 ((s.trans s2).trans s3),k _ H3 (s2.trans s3) rfl⟩
def Vl.digits (h:Pl t σ H ps)(XQ:∀q∈ps,q.2≤24)(hl:tots ps≤1000):Vl (dJ ID [] E (aP t bF)) σ H (.str (txt (bitsP ps))):=λ H1 s Q k=>
 h H1 s _ λ v H2 s2 z9=>by obtain⟨l,ts,e,Xg,hP⟩:=z9;exact⟨l,ts,ps,Bx (λ z=>[z]) e,Xg,hP,XQ,hl,k _ H2 s2 rfl⟩
def Ev.bodyD {c:Int}{S:'c'}(hc:Vl tc σ H (.int c))(hu:Vl tu σ H (vN u))(hs:σ[i]?=some ↑b)(hb:H b=↥(S.map vN))(hr:Vl tr σ H (vN rm))(ha:Vl ta σ H (vN ah))(u1:1≤u)(u3:u≤3)(PK:∀s∈S,s<256)(Xy:S.length≤8)(r1:1≤rm)(r9:rm≤9)(a9:ah≤192):
  Ev (dJ ID [] E' (aP (dJ LL [] E (aP tc (aP tu (aP (Gs i) (aP tr (aP ta bF)))))) bF)) σ H (λ v _=>∃ps,v=.str (txt (bitsP ps))/\BodyOk u (S.length+rm) ah ps):=λ H1 s Q k=>
 hc H1 s _ λ v2 H2 s2 e2=>hu H2 (s.trans s2) _ λ v3 H3 s3 e3=>⟨_,hs,hr H3 ((s.trans s2).trans s3) _ λ v4 H4 s4 e4=>ha H4 (((s.trans s2).trans s3).trans s4) _ λ v5 H5 s5 e5=>by
  subst e2 e3 e4 e5;have Zz:=((s2.trans s3).trans s4).trans s5;exact⟨c,u,b,S,rm,ah,rfl,u1,u3,(s.trans Zz) _ _ hb,PK,Xy,r1,r9,a9,λ v ps H6 s6 z9 hB=>by obtain⟨l,ts,e,hl,hP⟩:=z9;exact⟨l,ts,ps,Bx (λ z=>[z]) e,hl,hP,hB.s24,hB.le,k _ H6 (Zz.trans s6) ⟨ps,rfl,hB⟩⟩⟩⟩
def Vl.ahead (h:σ[i]?=some (some x))(hx:Hd H x W):Vl (Wl (fE (Im (λ x y H Q=>y=V.non/\Q (V.bl (decide (x=V.non))) H) (Gs i) (tC V.non))) (tC (V.int 0)) (Qe (λ xs H Q=>∃p ys,xs=[V.ref p]/\(Gf K H p ys\/GF K H p ys)/\Q (V.int (ys.length:Int)) H) (aP (Gs i) bF))) σ H (vN W.length):=λ H1 s Q k=>by
 refine⟨x,h,rfl,_,rfl,?_⟩;rcases hx with⟨rfl,rfl⟩|⟨b,rfl,hb⟩
 ·rw [AK (Ae rfl)];exact k _ H1 (C'.refl H1) rfl
 ·rw [AH (by rw [Bt (λ z=>nomatch z)];exact Ax)];exact⟨_,h,b,_,rfl,.inl (Gf.of (s _ _ hb)),k _ H1 (C'.refl H1) (by rw [Aa])⟩
def uQ {a:List Str}(h:Ev te σ H (Yd (a.map V.str)))(g:Ta ta σ H (a.map V.str))(hl:a.length≤2000)(k:∀H',D.rt (.bl true) H'):yc (Im (λ x y H Q=>∃p q a b,x=V.ref p/\y=V.ref q/\GF K H p (List.map V.str a)/\GF K H q (List.map V.str b)/\Q (V.bl (decide (a=b))) H) te (iq ta)) D σ H:=
 h.go λ v H2 s2 z9=>by obtain⟨t,e,ht⟩:=z9;exact g H2 s2 _ λ H3 s3=>⟨bG (by rw [Aa];exact hl),λ p hp=>⟨t,p,a,a,e,rfl,GF.of (ak hp _ _ (s3 _ _ ht)),GF.of af,by rw [Ae rfl];exact k _⟩⟩
structure All (K:Frag)(mg:Str->Option FS)(B D G C cN cB cT cL cC C0 C1 C2 C3 cR c cP:FR)(cs:List FR):Prop where
 W:O6 K mg B D G C0 C1 C2 C3
 R:NX K mg C G cN cB cT cL cC C0 C1 C2 C3
 N:Rf.Nr K mg cR
 E:RV K mg cP cs
 ec:EC cs cR cN cB
 best:∃f fd dV,JS K "best_way" "best_way" eY dV c f fd/\mg "best_way"=↑f/\Binds K fd Jad []
 cell:∃f fd,'h' "_law_cell_at" iG ["_law_script","_law_k"] f fd
 digits:∃f fd,'h' "_law_digits" kX ["_law_parts"] f fd
 rowof:∃f fd,'h' "_law_row_of" lE ["_law_digits_here"] f fd
 word:∃f fd,'h' "_law_word" jV ["_law_error"] f fd
 tried:∃f fd,'h' "_law_tried" kS ["_law_way","_law_which","_law_things"] f fd
 norows:∃f fd,'h' "_law_no_rows" lD ["_law_script","_law_text","_law_before"] f fd
 runbody:∃f fd,'h' "_law_run_body" gF ["_law_cell","_law_room"] f fd
 parts:∃f fd,'h' "_law_copy_parts" jb Jaj f fd
 table:∃f fd,'h' "_law_table" jB ["_law_lengths"] f fd
 sharebody:∃f fd,'h' "_law_share_body" et Jai f fd
 codes:∃f fd,'h' "_law_codes" iX ["_law_things","_law_lengths"] f fd
 body:∃f fd,'h' "_law_body" uL Jan f fd
 read:∃f fd,'h' "_law_read" nV Jag f fd
inductive KQ (K:Frag) (Tb:FR) (vs:List V) (H:Hp) (Q:VK) (Gj:XK):Prop
 |mk (a:FR) (ns:List Int) (h0:vs=[.ref a]) (h1:Gf K H a (ns.map V.int)) (h2:H Tb=some (.tbl #[])) (h3:a≠Tb) (h4:∀H',Q (.bl true) H'):KQ K Tb vs H Q Gj
abbrev zI:List Str:=["_law_script","_law_text","_law_before","_law_number","_law_signs","_law_cell","_law_room","_law_window","_law_ahead","_law_way","_law_digits_here","_law_cut","_law_raw"]
def He:y' zI ["_law_script"] (am kM):=Gw Z8
def xG {cP:FR}(F:Hb K "law" "law" kM f fd)(Y:All K mg B D G C cN cB cT cL cC C0 C1 C2 C3 cR c cP P1)(hC:CodeHd base c Tb)(hBm:Js mg base)(hK:K.lookup Tb=none):'a' Gn 42 f fd ["_law_script"] (KQ K Tb):=by
 have X:=Y.N.Y.X;have Z:=Y.W;obtain⟨_,_,_,Bw,mW,bW⟩:=Y.best;obtain⟨_,_,Ce⟩:=Y.cell;obtain⟨_,_,Di⟩:=Y.digits;obtain⟨_,_,Ro⟩:=Y.rowof;obtain⟨_,_,Wd⟩:=Y.word;obtain⟨_,_,Tr⟩:=Y.tried;obtain⟨_,_,Nw⟩:=Y.norows;obtain⟨_,_,Rb⟩:=Y.runbody;obtain⟨_,_,Pa⟩:=Y.parts;obtain⟨_,_,Ta⟩:=Y.table;obtain⟨_,_,Sb⟩:=Y.sharebody;obtain⟨_,_,Co⟩:=Y.codes;obtain⟨_,_,Bo⟩:=Y.body;obtain⟨_,_,Rd⟩:=Y.read;obtain⟨_,_,Wy⟩:=Z.ways;have GC:=pd (P:=P) (w:=w) (base:=base) Ce X;have GD:=rj (P:=P) (w:=w) (base:=base) Di X;have GN:=rk (P:=P) (w:=w) (base:=base) Nw Ce Tr Bw mW bW Z Y.N hC hBm hK Wd Y.E Y.ec;have GB:=vT (P:=P) (w:=w) (base:=base) Bo Rb Pa Sb Ta Co X;have Ua:=kZ (P:=P) (w:=w) (base:=base) Wy.F Z;have rd:∀{u},u<4->'a' Gn 38 _ _ Jag (Jg (cs C0 C1 C2 C3 u) u):=λ hu=>uY Rd Ro Wd Y.R.D.Z (Y.R.ok Z.w0.cl Z.w1.cl Z.w2.cl Z.w3.cl hu) Y.E Y.ec
 have GR0:=rd (u:=0) (by decide);refine F.ok He ?_
 intro 'a';obtain⟨a,ns,rfl,hS,Lj,nT,k⟩:=h;obtain⟨u3,eu,hu3⟩:=aY (ns.getD 1 0) (show(0:Int)<3 by decide);have Ny:1+u3<4:=by lia
 have GR:=rd Ny;have Pd:Ge 38 _:=hr.mono Z9;have JP:Ge 33 _:=hr.mono Z9;have Gz:Ge 1 _:=hr.mono Z9;have hu:=hr.units;have WY:_<cLine:=Be (BM _ 64) hu;refine⟨_,ad (aq (i:=1) He.nd (ao bz (iB (N:=["_law_cell"]) (g:=bw 0) (te:=uf) rfl rfl Z8 Z8 Z8 (bi (cf dI (pv 0) (bM ae) (bM ae))) (λ fp s H=>aG (i:=0) y6) (λ fp s H=>ao aQ (pv 0) ae)) (aH (aa (ao aQ (ap GC Gz Z7 Ce.m Ce.F.kp Ce.b .nil az (aa (pv 0) (aa ae ac))) ae) ac))))
   (ad (vV (i:=2) (N:=["_law_cell"]) (g:=bw 0) (te:=uf) He.nd rfl (Or.inl rfl) rfl rfl Z8 Z8 Z8 (bi (cf dI (pv 0) (bM ae) (bM ae))) (λ fp s H=>aG (i:=0) y6) (λ fp s H=>ao aQ (pv 0) ae) Z7)
   (ad (aM (cv (bX (ap GN hr Z7 Nw.m Nw.F.kp Nw.b .nil az (aa (pv 0) (aa (pv 1) (aa (pv 2) ac)))))) (ag (aB cO)) aF)
   (ad (aq (i:=3) He.nd (ap GC Gz Z7 Ce.m Ce.F.kp Ce.b .nil az (aa (pv 0) (aa ae ac))))
   (ad (aq (i:=4) He.nd (aH ac))
   (ad (bp AV rfl (bi (cf dI (pv 0) (bM ae) (bM ae))) (aG (i:=5) He.nd) (ag (aM (aA kK (ao aQ (pv 5) ae) (pv 4) Z7) (ag (aE (d8 Bc Bp By bO (pv 4) (aa (ao aQ (pv 5) ae) ac)))) aF)))
   (ad (aq (i:=6) He.nd (ao aI ae (ao aQ (ao bo (pv 3) ae) ae)))
   (ad (aq (i:=7) He.nd (aU aW (aH (aa eC (aa (pv 2) (aa (cf dI (ao cU (pv 2) ae) fu (bM ae)) ac)))) (ao aQ (ao bo (pv 3) ae) ae) (λ _ _=>rfl)))
   (ad (aq (i:=8) He.nd (fi (aA kG (pv 7) eC (aC _)) ae (ay ax Z7 X.len Ay (aa (pv 7) ac))))
   (ad (aq (i:=9) He.nd (aU aW (eT Ua Gz Z7 Wy.m Wy.F.kp Wy.b .nil az) (ao aI ae (ao aQ (pv 3) ae)) (λ _ _=>rfl)))
   (ad (aq (i:=10) He.nd (ap GD Gz Z7 Di.m Di.F.kp Di.b .nil az (aa (ap GB JP Z7 Bo.m Bo.F.kp Bo.b .nil az (aa (ap GC Gz Z7 Ce.m Ce.F.kp Ce.b .nil az (aa (pv 0) (aa ae ac))) (aa (ao aI ae (ao aQ (pv 3) ae)) (aa (pv 4) (aa (pv 6) (aa (pv 8) ac)))))) ac)))
   (ad (aM (aA (gM hu) (ap GR Pd Z7 Rd.m Rd.F.kp Rd.b .nil az (aa (pv 9) (aa (pv 10) (aa (ao aI (ay ax Z7 X.len Ay (aa (pv 4) ac)) (pv 6)) (aa (pv 7) ac))))) (aO (aa aX ac)) (aC _)) (ag (aB cO)) aF)
   (ad (aq (i:=11) He.nd (ao aQ (ap GC Gz Z7 Ce.m Ce.F.kp Ce.b .nil az (aa (pv 0) (aa ae ac))) (ay cq Z7 X.len Ay (aa (pv 10) ac))))
   (ad (aM (aA (gM hu) (ap GR Pd Z7 Rd.m Rd.F.kp Rd.b .nil az (aa (pv 9) (aa (cf nK (pv 10) fu (bM (pv 11))) (aa (ao aI (ay ax Z7 X.len Ay (aa (pv 4) ac)) (pv 6)) (aa (pv 7) ac))))) (aO (aa aX ac)) (aC _)) (ag (aB cO)) aF)
   (ad (aq (i:=12) He.nd (ap GD Gz Z7 Di.m Di.F.kp Di.b .nil az (aa (iB (N:=["_law_sign"]) (g:=bw 0) (te:=yQ) rfl rfl Z8 Z8 Z8 (bi (pv 1)) (λ fp s H=>aG (i:=0) zS) (λ fp s H=>aO (aa (pv 0) (aa ae ac)))) ac)))
   (ad (aM (aA (gM hu) (ap GR0 Pd Z7 Rd.m Rd.F.kp Rd.b .nil az (aa (aU aW (eT Ua Gz Z7 Wy.m Wy.F.kp Wy.b .nil az) ae (λ _ _=>rfl)) (aa (pv 12) (aa (ay ax Z7 X.len Ay (aa (pv 1) ac)) (aa (pv 7) ac))))) (aO ac) (aC _)) (ag (aB cO)) aF)
   (ad (aq (i:=11) He.nd (ao aQ (ap GC Gz Z7 Ce.m Ce.F.kp Ce.b .nil az (aa (pv 0) (aa ae ac))) (ay cq Z7 X.len Ay (aa (pv 12) ac))))
   (ag (aB (gG (qr WY) (ap GR0 Pd Z7 Rd.m Rd.F.kp Rd.b .nil az (aa (aU aW (eT Ua Gz Z7 Wy.m Wy.F.kp Wy.b .nil az) ae (λ _ _=>rfl)) (aa (cf nK (pv 12) fu (bM (pv 11))) (aa (ay ax Z7 X.len Ay (aa (pv 1) ac)) (aa (pv 7) ac))))) (aO (aa aX ac)) (aC _)))))))))))))))))))),?_⟩
 have sq:∀H',C' H H'->Gf K H' a (ns.map V.int):=λ H' s=>Gf.sameN hS s.n
 have hT:L6 Tb H:=⟨#[],Lj,.inl rfl⟩;refine aw λ R g=>x8 (A:=((ns.drop 6).take 8).map md++[md (ns.getD 5 0)]) (.cat (.mods (.cut (b:=6) (e:=14) rfl sq (by decide)) (by rw [Aq];lia)) (.lst (A:=[md (ns.getD 5 0)]) (.cons (.op (i:=ns.getD 5 0) (j:=256) (λ H1 s Q k=>⟨_,rfl,a,ns,5,rfl,sq H1 s,k _ H1 (C'.refl H1) rfl⟩) .c (by show(0:Int)<256;decide) (Bx V.int (tH _))) .nil) (AZ rfl)) (by rw [Aa,Aq];show _+1≤_;lia)) λ lt H1 s1 F9=>g _ _ ?_
 clear g;refine aw λ R g=>(Ls.mods (ns:=(ns.drop 14).take 6) (.cut (b:=14) (e:=20) rfl (λ H' s=>sq H' (s1.trans s)) (by decide)) (by rw [Aq];lia)).go λ lb H2 s2 JI=>g _ _ ?_
 clear g;have Y3:∀b∈((ns.drop 6).take 8).map md++[md (ns.getD 5 0)],b<256:=λ b hb=>by
  rcases AR.mp hb with h|h
  ·obtain⟨n,_,rfl⟩:=BH.mp h;exact qg n
  ·rw [As.mp h];exact qg _
 have hTl:(((ns.drop 6).take 8).map md++[md (ns.getD 5 0)]).length≤9/\1≤(((ns.drop 6).take 8).map md++[md (ns.getD 5 0)]).length:=by
  rw [Ac,Aa,Aq];show _+1≤9/\1≤_+1;lia
 generalize ((ns.drop 6).take 8).map md++[md (ns.getD 5 0)]=T at*;have MP:∀b∈((ns.drop 14).take 6).map md,b<256:=λ b hb=>by
  obtain⟨n,_,rfl⟩:=BH.mp hb;exact qg n
 have OZ:(((ns.drop 14).take 6).map md).length≤6:=by rw [Aa,Aq];lia
 generalize ((ns.drop 14).take 6).map md=W at*;refine aw λ R g=>⟨_,rfl,_,rfl,_,rfl,a,lt,lb,ns,T,W,rfl,sq _ (s1.trans s2),s2 _ _ F9,JI,⟨Y3,hTl.2,by lia,MP,by lia⟩,by lia,hT.same (s1.trans s2),λ H3 n3 _=>⟨true,rfl,?_⟩⟩
 show(if false=true then _ else _);rw [AH Ax];refine g _ _ ?_;clear g;have n0:Gm H H3:=(s1.trans s2).n.trans n3;have hS:∀H',C' H3 H'->Gf K H' a (ns.map V.int):=λ H' s=>Gf.sameN hS (n0.trans s.n)
 have F9:H3 lt=↥(T.map vN):=n3.lst (s2 _ _ F9);have JI:H3 lb=↥(W.map vN):=n3.lst JI;clear sq hT n0 n3 s1 s2 Lj nT;refine aw λ R g=>eJ (.cell (.var rfl) .c hS) λ H1 s1=>g _ _ ?_
 clear g;generalize ns.getD 1 0=nb at*;refine aw λ R g=>⟨A1 _,λ ls WG=>g _ _ ?_⟩
 clear g;have s2:=s1.trans (ak (o:=.lst []) WG);have Uq:H3 ls=none:=none_of s1 WG;have OW:(upd H1 ls (.lst [])) ls=↥[]:=af;generalize upd H1 ls (.lst [])=H2 at*;clear WG s1;refine aw λ R g=>⟨_,rfl,_,rfl,_,rfl,a,_,rfl,hS _ s2,λ lc nl=>?_⟩
 have ZI:lc≠ls:=(ai OW nl).symm;have s4:=ak (o:=.lst (cutV (ns.map V.int) (some 6) (some 14))) nl;have SU:(upd H2 lc (.lst (cutV (ns.map V.int) (some 6) (some 14)))) lc=↥(((ns.drop 6).take (14-6)).map V.int):=by rw [af,show cutV (ns.map V.int) (some 6) (some 14)=_ from pG _ (show 6≤14 by decide),Eh,E3]
 generalize upd H2 lc (.lst (cutV (ns.map V.int) (some 6) (some 14)))=H4 at*;have OD:((ns.drop 6).take (14-6)).length≤8:=by rw [Aq];lia
 generalize (ns.drop 6).take (14-6)=XY at*;have OW:=s4 _ _ OW;refine⟨lc,rfl,⟨_,Gf.of SU⟩,bH (D:=⟨_,_,λ _ _=>False,λ _ _=>False⟩) (K:=K) (a:=lc) (xs:=XY.map V.int) (λ i σ H'=>∃v S,σ=[↑a,↑lt,↑lb,some (.int nb),↑ls,v,none,none,none,none,none,none,none]/\H' ls=↥(S.map vN)/\(∀s∈S,s<256)/\S.length≤i/\∀c o,c≠ls->H4 c='g'->H' c='g')
  ⟨none,[],rfl,OW,by simp,Ak _,λ _ _ _ e=>e⟩ (λ i σ H' _ z9=>by obtain⟨_,_,_,_,_,_,kp⟩:=z9;exact Gf.of (kp _ _ ZI SU)) ?_ ?_⟩
 ·rintro i x σ H' hi ⟨v,S,rfl,Qu,PK,PJ,kp⟩;obtain⟨m,hm,rfl⟩:∃m,XY[i]?=some m/\x=.int m:=by
   rw [AU] at hi;cases e:XY[i]? with
   |none=>rw [e] at hi;cases hi
   |some m=>rw [e] at hi;exact⟨m,rfl,(AJ hi).symm⟩
  have HI:i<8:=Ap (Af.mp hm).1 OD;refine⟨_,rfl,_,_,rfl,rfl,(by show(0:Int)<256;decide),_,rfl,ls,_,rfl,.inl (Gf.of Qu),rfl,(by rw [List.all_map];exact ES.mpr λ _ _=>rfl),_,rfl,?_⟩;show(if(!VA (.int (m%256)) (S.map vN))=true then _ else _);by_cases Xk:(!VA (.int (m%256)) (S.map vN))=true
  ·rw [AK Xk];refine⟨_,rfl,.inl ⟨rfl,_,Gf.of Qu⟩,_,rfl,_,_,rfl,rfl,(by show(0:Int)<256;decide),ls,_,_,rfl,rfl,Qu,bG (by rw [Aa];lia),_,S++[md m],rfl,?_,?_,by rw [Ac];exact DZ PJ,λ c o n e=>by rw [aj n];exact kp _ _ n e⟩
   ·rw [af,Aw];show some (HO.lst (_++[V.int (m%256)]))=_;rw [tH];rfl
   ·intro s hs;rcases AR.mp hs with h|h
    ·exact PK s h
    ·rw [As.mp h];exact qg m
  ·rw [AH Xk];exact⟨_,S,rfl,Qu,PK,Nat.le_succ_of_le PJ,kp⟩
 rintro σ H5 ⟨v5,S,rfl,UK,PK,PJ,Ks⟩;refine g _ _ ?_;clear g;rw [Aa] at PJ;have Xy:S.length≤8:=Ai PJ OD;have s5:C' H3 H5:=λ c o e=>Ks _ _ (ai e Uq) (s4 _ _ (s2 _ _ e))
 have VX:∀H',C' H5 H'->Gf K H' a (ns.map V.int):=λ H' s=>hS H' (s5.trans s)
 have F9:=s5 _ _ F9;have JI:=s5 _ _ JI;clear hS Ks SU ZI OW s2 s4 s5 OD PJ nl Uq;obtain⟨r9,e9,hr9⟩:=aY (nb/3) (show(0:Int)<9 by decide);refine aw λ R g=>eJ (v:=vN (1+r9)) (.op0 .c (.op (.op (.var rfl) .c ⟨Z9,Z9⟩ rfl) .c (by show(0:Int)<9;decide) rfl) (by rw [e9];rfl)) λ H6 s6=>g _ _ ?_
 clear g;obtain⟨j3,e3,hj3⟩:=aY (nb/27) (show(0:Int)<3 by decide);refine aw λ R g=>gc (Ev.ix (Φ:=WnV) (n:=3) (j:=j3) ft (.list ft (.cons ft (.c λ _=>⟨[],.inl ⟨rfl,rfl⟩,by decide⟩) (.cons ft (.var rfl ⟨W,.inr ⟨lb,rfl,s6 _ _ JI⟩,by lia⟩ ft) (.cons ft (.imp (Ls.upto (n:=192) (.repv (n:=32) (.var rfl (s6 _ _ JI)) .c (by lia) Z9) .c) λ v H' z9=>by obtain⟨p,e,h⟩:=z9;exact⟨_,.inr ⟨p,e,h⟩,List.length_take_le _ _⟩) .nil))) Z9) (.op (.op (.var rfl) .c ⟨Z9,Z9⟩ rfl) .c (by show(0:Int)<3;decide) (by rw [e3])) (by lia)) λ x H7 s7 ⟨Wn,hx,TL⟩=>g _ _ ?_
 clear g;refine aw λ R g=>eJ (.ahead rfl hx) λ H8 s8=>g _ _ ?_
 clear g;refine aw λ R g=>gc (Ev.way (n:=1+u3) (.op0 .c (.op (.var rfl) .c (by show(0:Int)<3;decide) rfl) (by rw [eu];rfl)) Ny) λ ow H9 s9 how=>g _ _ ?_
 clear g;have Vo:=((s6.trans s7).trans s8).trans s9;have hx:=hx.same (s8.trans s9);have OW:=Vo _ _ UK;have F9:=Vo _ _ F9;have Xx:∀H',C' H9 H'->Gf K H' a (ns.map V.int):=λ H' s=>VX H' (Vo.trans s)
 clear VX Vo s6 s7 s8 s9 JI UK e3 hj3;refine aw λ R g=>gc (Ev.bodyD (u:=1+u3) (rm:=1+r9) (ah:=Wn.length) (.cell (n:=2) (.var rfl) .c Xx) (.op0 .c (.op (.var rfl) .c (by show(0:Int)<3;decide) rfl) (by rw [eu];rfl)) rfl OW (.var rfl) (.var rfl) (by lia) (by lia) PK Xy (by lia) (by lia) TL) λ dv H1 s1 ⟨ps,e,hB⟩=>g _ _ ?_
 clear g;subst e;have ML:(bitsP ps).length=tots ps:=aV ps;have p1:=hB.pos;have p2:=hB.le;have ZO:S.length+(1+r9)≤64:=by lia
 refine aw λ R g=>uM (.neTT (.lread (n:=S.length+(1+r9)) (some true) (.var rfl (lG how s1) lG) (.var rfl) (.op0 (.len (.var rfl (s1 _ _ OW)) rfl) (.var rfl) rfl) (.var rfl) (hx.same s1) TL ZO (by lia) (.inr ⟨by lia,hB.bad⟩)) (.cons .c .nil) rfl Z9) λ H2 s2=>g _ _ ?_
 clear g;have s2:=s1.trans s2;obtain⟨m,em,hm⟩:=aY (ns.getD 3 0) (show(0:Int)<⇑((bitsP ps).length) by lia);refine aw λ R g=>eJ (.op (.cell (n:=3) (.var rfl) .c λ H' s=>Xx H' (s2.trans s)) (.lenS (.var rfl) (by lia) rfl) (by show(0:Int)<_;lia) (by rw [em])) λ H3 s3=>g _ _ ?_
 clear g;have s3:=s2.trans s3;refine aw λ R g=>uM (.neTT (.lread (n:=S.length+(1+r9)) (some false) (.var rfl (lG how s3) lG) (.slS (.var rfl) (.var rfl) (by lia) (by lia)) (.op0 (.len (.var rfl (s3 _ _ OW)) rfl) (.var rfl) rfl) (.var rfl) (hx.same s3) TL ZO (by rw [Aq];lia) (.inr ⟨by lia,hB.cut m (by lia)⟩)) (.cons .c .nil) rfl Z9) λ H4 s4=>g _ _ ?_
 clear g;have s4:=s3.trans s4;clear hB em;have hq:(bitsP (p8 T)).length=8*T.length:=by rw [aV,pF]
 refine aw λ R g=>eJ (.digits (.p8 rfl (s4 _ _ F9) (by lia)) (λ q hq=>by obtain⟨_,_,rfl⟩:=BH.mp hq;exact AZ rfl) (by rw [pF];lia)) λ H5 s5=>g _ _ ?_
 clear g;have s5:=s4.trans s5;refine aw λ R g=>uM (.neTT (.lread (n:=T.length) none (.way (n:=0) .c (by decide)) (.var rfl) (.len (.var rfl (s5 _ _ F9)) rfl) (.var rfl) (hx.same s5) TL (by lia) (by lia) ⟨rfl,by lia⟩) .nil rfl Z9) λ H6 s6=>g _ _ ?_
 clear g;have s6:=s5.trans s6;obtain⟨m4,em,hm4⟩:=aY (ns.getD 4 0) (show(0:Int)<⇑((bitsP (p8 T)).length) by lia);refine aw λ R g=>eJ (.op (.cell (n:=4) (.var rfl) .c λ H' s=>Xx H' (s6.trans s)) (.lenS (.var rfl) (by lia) rfl) (by show(0:Int)<_;lia) (by rw [em])) λ H7 s7=>g _ _ ?_
 clear g;have s7:=s6.trans s7;exact uQ (a:=[Str.ofString "none"]) (.lread (n:=T.length) (some false) (.way (n:=0) .c (by decide)) (.slS (.var rfl) (.var rfl) (by lia) (by lia)) (.len (.var rfl (s7 _ _ F9)) rfl) (.var rfl) (hx.same s7) TL (by lia) (by rw [Aq];lia) (.inl ⟨rfl,rfl,by rw [Aq];lia⟩)) (.cons .c .nil) Z9 k
end K21.Ck
namespace K21.Ck
open PySem L2 QQ
section
variable {K:Frag}{mg:Str -> Option FS}{h:FY}
def KO.i {x qu:Str}{st:F5}{f:FR}{oc dV:FS}{od an:Option FR}{sl:Array (Option FS)}{kV dc pm cd ct:FS}(l:K.lookup f=some ⟨oc,od,.func (fnOf x qu (bx st) (bj st) (am st) dV kV dc pm an cd ct),sl⟩)(c:codeIn K cd qu=true)(k:keepIn K (.ref f)=true):KO K x qu st dV f (fnOf x qu (bx st) (bj st) (am st) dV kV dc pm an cd ct):=⟨⟨oc,od,kV,dc,pm,an,cd,ct,sl,rfl,l,c⟩,k⟩
def JS.i {x qu:Str}{st:F5}{f cd:FR}{oc dV:FS}{od an:Option FR}{sl:Array (Option FS)}{kV dc pm ct:FS}(l:K.lookup f=some ⟨oc,od,.func (fnOf x qu (bx st) (bj st) (am st) dV kV dc pm an (.ref cd) ct),sl⟩)(c:codeIn K (.ref cd) qu=true)(k:keepIn K (.ref f)=true):JS K x qu st dV cd f (fnOf x qu (bx st) (bj st) (am st) dV kV dc pm an (.ref cd) ct):=⟨⟨oc,od,kV,dc,pm,an,ct,sl,rfl,l,c⟩,k⟩
def nI {x:Str}{n:Int}{t:Tok}(X:K.In h)(G:h.Ns mainGlobals mg)(a:nsIn K mainGlobals x=some (some (.int n t))):∃t,mg x=some (.int n t):=⟨t,E4 X G a⟩
section
variable {x qu:Str}{st:F5}{ps:List Str}{f C:FR}{oc dV:FS}{od an:Option FR}{sl:Array (Option FS)}{kV dc pm cd ct:FS}(l9:K.lookup f = some ⟨oc, od, .func (fnOf x qu (bx st) (bj st) (am st) dV kV dc pm an cd ct), sl⟩)(c9:codeIn K cd qu = true)(k9:keepIn K (.ref f) = true)
include l9 c9 k9
def inI (e:dV=.none)(b:Binds K (fnOf x qu (bx st) (bj st) (am st) dV kV dc pm an cd ct) ps [])(m:makesIn K C=true)(a:findIn K (.ref C) "__init__"=some ↑f)(i:isFn K (.ref f)=true)(q:keepIn K (.ref C)=true):∃f fd,Hb K x qu st f fd/\Binds K fd ps []/\Mk K C f:=by
 subst e;exact⟨_,_,fun_mk l9 c9 k9,b,⟨m,a,i,q⟩⟩
end
section
variable {x:Str}{st:F5}{ps:List Str}{f:FR}{oc dV:FS}{od an:Option FR}{sl:Array (Option FS)}{kV dc pm cd ct:FS}(X:K.In h)(G:h.Ns mainGlobals mg)(a:nsIn K mainGlobals x = some ↑f)(l9:K.lookup f = some ⟨oc, od, .func (fnOf x x (bx st) (bj st) (am st) dV kV dc pm an cd ct), sl⟩)(c9:codeIn K cd x = true)(k9:keepIn K (.ref f) = true)(b:Binds K (fnOf x x (bx st) (bj st) (am st) dV kV dc pm an cd ct) ps [])
include X G a l9 c9 k9 b
def fdI (d:Binds K (fnOf x x (bx st) (bj st) (am st) dV kV dc pm an cd ct) ps [.none]):∃f fd,Uc K mg x st ps f fd:=⟨_,_,⟨_,KO.i l9 c9 k9⟩,E4 X G a,b,d⟩
def flI {t:Tok}(d:Binds K (fnOf x x (bx st) (bj st) (am st) dV kV dc pm an cd ct) ps [.int 6 t]):∃f fd,K21.S.Ub K mg x st ps f fd:=⟨_,_,⟨_,KO.i l9 c9 k9⟩,E4 X G a,b,_,d⟩
end
def fcI {x:Str}{st:F5}{ps:List Str}{f cd:FR}{oc dV:FS}{od an:Option FR}{sl:Array (Option FS)}{kV dc pm ct:FS}(X:K.In h)(G:h.Ns mainGlobals mg)(a:nsIn K mainGlobals x=some ↑f)(l:K.lookup f=some ⟨oc,od,.func (fnOf x x (bx st) (bj st) (am st) dV kV dc pm an (.ref cd) ct),sl⟩)(c:codeIn K (.ref cd) x=true)(k:keepIn K (.ref f)=true)(b:Binds K (fnOf x x (bx st) (bj st) (am st) dV kV dc pm an (.ref cd) ct) ps []):∃f fd dV,JS K x x st dV cd f fd/\mg x=↑f/\Binds K fd ps []:=⟨_,_,_,JS.i l c k,E4 X G a,b⟩
def m0 {P:List FS->Prop}(h:P []):∀us:List FS,us.length=0->P us:=λ us hl=>by
 cases us with
 |nil=>exact h
 |cons a us=>cases hl
def mS {n:Nat}{P:List FS->Prop}(h:∀a (us:List FS),us.length=n->P (a::us)):∀us:List FS,us.length=n+1->P us:=λ us hl=>by
 cases us with
 |nil=>cases hl
 |cons a us=>exact h a us (Nat.succ.inj hl)
def e1 {us:List FS}(h:us.length=1):∃a,us=[a]:=mS (P:=λ us=>∃a,us=[a]) (λ a=>m0 ⟨a,rfl⟩) us h
def e2 {us:List FS}(h:us.length=2):∃a b,us=[a,b]:=mS (P:=λ us=>∃a b,us=[a,b]) (λ a=>mS λ b=>m0 ⟨a,b,rfl⟩) us h
def b2 {fd:FW}{p q:Str}(h:∀(s:FT) (a b:FS),K.In s.heap->BindsTo s fd ⟨[a,b],[]⟩ [(p,a),(q,b)]):Binds K fd [p,q] []:=λ s us hX hl=>by
 obtain⟨a,b,rfl⟩:=e2 (show us.length=2 by simpa using hl);exact h s a b hX
def b1 {fd:FW}{p q:Str}{v:FS}(h:∀(s:FT) (a:FS),K.In s.heap->BindsTo s fd ⟨[a],[]⟩ [(p,a),(q,v)]):Binds K fd [p,q] [v]:=λ s us hX hl=>by
 obtain⟨a,rfl⟩:=e1 (show us.length=1 by simpa using hl);exact h s a hX
def qQ {α β:Type}{F:α->β->Prop}{xs:List α}{ys:List β}(h:Paired F xs ys):∀(i:Nat) (x:α) (y:β),xs[i]?=some x->ys[i]?=some y->F x y:=by
 induction h with
 |nil=>intro i x y h1;cases h1
 |cons r _ ih=>
  intro i x y h1 h2;cases i with
  |zero=>cases h1;cases h2;exact r
  |succ i=>exact ih i x y h1 h2
def yh {f:FR->Option Bool}{cs:List FR}{n k:Nat}(h:cs.map f=(List.range n).map λ j=>some (decide (j=k))):∀(i:Nat) (c:FR),cs[i]?=some c->f c=some (decide (i=k)):=λ i c e=>by
 have z:=Bx (λ l:List (Option Bool)=>l[i]?) h;simp only [AU,e,CU] at z;have hi:i<n:=by
  rcases A2 i n with q|q
  ·exact q
  ·rw [A4 (by rw [CS];exact q)] at z;cases z
 rw [Dn hi] at z;exact AJ z
def ers {p e0 e1 e2 e3 e4 e5 e6 e7 e8 e9 PZ RJ RI RH PY RG RF RE:FR}(q0:mg "BadRow"=↑e0)(q1:mg "BadBits"=↑e1)(q2:mg "NoBits"=↑e2)(q3:mg "BadLengths"=↑e3)(q4:mg "BadShares"=↑e4)(q5:mg "BadCode"=↑e5)(q6:mg "BadTable"=↑e6)(q7:mg "BadPieces"=↑e7)(q8:mg "BadBody"=↑e8)(q9:mg "BadHead"=↑e9)(Wt:mg "BadCheck"=↑PZ)(q11:mg "BadMark"=↑RJ)(q12:mg "BadTail"=↑RI)(q13:mg "Cut"=↑RH)(q14:mg "Behind"=↑PY)(q15:mg "Over"=↑RG)(q16:mg "NoRange"=↑RF)(q17:mg "BadLetters"=↑RE)(m:mg "PressError"=↑p)(x:ExC K p)(u:mg "tuple"=none)(v:mg "ValueError"=none)(a0:Exc1 K mg p e0)(c0:ExI K e0)(f0:kitOne K (.ref e0) (.type "ValueError")=some true)(i0:([e0,e1,e2,e3,e4,e5,e6,e7,e8,e9,PZ,RJ,RI,RH,PY,RG,RF,RE].map λ c=>kitOne K (.ref e0) (.ref c))=(List.range 18).map λ j=>some (decide (j=0)))(a2:Exc1 K mg p e2)(c2:ExI K e2)(f2:kitOne K (.ref e2) (.type "ValueError")=some true)(i2:([e0,e1,e2,e3,e4,e5,e6,e7,e8,e9,PZ,RJ,RI,RH,PY,RG,RF,RE].map λ c=>kitOne K (.ref e2) (.ref c))=(List.range 18).map λ j=>some (decide (j=2)))(a8:Exc1 K mg p e8)(c8:ExI K e8)(f8:kitOne K (.ref e8) (.type "ValueError")=some true)(i8:([e0,e1,e2,e3,e4,e5,e6,e7,e8,e9,PZ,RJ,RI,RH,PY,RG,RF,RE].map λ c=>kitOne K (.ref e8) (.ref c))=(List.range 18).map λ j=>some (decide (j=8))):RV K mg p [e0,e1,e2,e3,e4,e5,e6,e7,e8,e9,PZ,RJ,RI,RH,PY,RG,RF,RE]:=by
 have pm:Paired (λ(x:Str) (c:FR)=>mg x=↑c) names [e0,e1,e2,e3,e4,e5,e6,e7,e8,e9,PZ,RJ,RI,RH,PY,RG,RF,RE]:=(.cons q0 (.cons q1 (.cons q2 (.cons q3 (.cons q4 (.cons q5 (.cons q6 (.cons q7 (.cons q8 (.cons q9 (.cons Wt (.cons q11 (.cons q12 (.cons q13 (.cons q14 (.cons q15 (.cons q16 (.cons q17 .nil))))))))))))))))));refine⟨u,v,m,x,⟨_,_,_,_,_,_,_,_,_,_,_,_,_,_,_,_,_,_,rfl⟩,λ i x c h1 h2=>qQ pm i x c h1 h2,λ i z c hw hc=>?_⟩;rcases hw with⟨rfl,_⟩|⟨rfl,_⟩|⟨rfl,_⟩<;>cases hc
 ·exact⟨a0,c0,f0,yh i0⟩
 ·exact⟨a2,c2,f2,yh i2⟩
 ·exact⟨a8,c8,f8,yh i8⟩
end
def hd {l:PySem.W.OpenLaw}{w:FV}{K:Frag}{h:FY}{mg:Str->Option FS}{fa f B CG C cN cB cT cL cC C0 C1 C2 C3 cR c cP Tb:FR}{cs:List FR}{od an:Option FR}{sl:Array (Option FS)}{oc kV dc pm cd ct:FS}(hKT:K.lookup Tb=none)(X:K.In h)(G:h.Ns mainGlobals mg)(hfa:mg "law"=↑fa)
  (a:nsIn K mainGlobals "law"=some ↑f) (lk:K.lookup f=some ⟨oc,od,.func (fnOf "law" "law" (bx kM) (bj kM) (am kM) .none kV dc pm an cd ct),sl⟩) (cc:codeIn K cd "law"=true) (kk:keepIn K (.ref f)=true) (R0':K21.Txt K mg) (R1':K21.Txt K mg->K21.Rows K mg) (R2':K21.Rows K mg->K21.Pn K mg) (R3':K21.Pn K mg->K21.NL K mg) (R4':K21.CB K mg B) (R5':K21.Rows K mg->K21.CB K mg B->K21.OK K mg B) (R6':K21.Txt K mg->K21.V7 K mg) (R7':K21.Txt K mg->K21.C.QG K mg) (R8':K21.Txt K mg->K21.C.QG K mg->K21.C.Yl K mg CG) (R9':K21.C.Yl K mg CG->K21.Yq K mg 0 CG) (Zq:K21.NL K mg->K21.OK K mg B->K21.V7 K mg->K21.Yq K mg 0 CG->K21.V6 K mg B 0 CG) (Zp:K21.WC K mg C0) (Zo:K21.WC K mg C1) (Zn:K21.WC K mg C2) (Zm:K21.WC K mg C3) (Zl:K21.V6 K mg B 0 CG->K21.WC K mg C0->K21.WC K mg C1->K21.WC K mg C2->K21.WC K mg C3->K21.O6 K mg B 0 CG C0 C1 C2 C3) (Zk:K21.O7 K mg C) (Zj:K21.Rows K mg->K21.O7 K mg C->K21.Ck.Ni K mg C cN) (Zi:K21.Txt K mg->K21.Ck.Rds K mg cB) (Zh:K21.C.Ud K mg CG) (Zg:K21.Txt K mg->K21.C.QG K mg->K21.C.Ud K mg CG->K21.C.V9 K mg CG) (Zf:K21.Ck.Apart K cN cT) (Ze:K21.Ck.Apart K cN cL) (Zd:K21.Ck.Apart K cN cC) (Zc:K21.Ck.Apart K cL cT) (Za:K21.Ck.Ni K mg C cN->K21.Ck.Rds K mg cB->K21.C.V9 K mg CG->K21.Ck.Apart K cN cT->K21.Ck.Apart K cN cL->K21.Ck.Apart K cN cC->K21.Ck.Apart K cL cT->K21.Ck.NM K mg C CG cN cB cT cL cC) (Y9:K21.Ck.NM K mg C CG cN cB cT cL cC->K21.Ck.NX K mg C CG cN cB cT cL cC C0 C1 C2 C3) (Y8:K21.Rows K mg->K21.Rf.Nr K mg cR) (Y7:K21.Ck.EC cs cR cN cB) (Y6:K21.O6 K mg B 0 CG C0 C1 C2 C3->K21.Ck.NX K mg C CG cN cB cT cL cC C0 C1 C2 C3->K21.Rf.Nr K mg cR->K21.Ck.EC cs cR cN cB->K21.Ck.All K mg B 0 CG C cN cB cT cL cC C0 C1 C2 C3 cR c cP cs):
  ∃fd:FW,(∀(s:FT) (v:FS),BindsTo s fd ⟨[v],[]⟩ [("_law_script",v)])/\∀base:FY,K.In base->base.Ns mainGlobals mg->CodeHd base c Tb->Js mg base->Gb l.prog w K mg base Gn 42 fa fd ["_law_script"] (KQ K Tb):=by
 have e:=hfa.symm.trans (E4 X G a);cases e;have R0:=R0';have R1:=R1' R0;have R2:=R2' R1;have R3:=R3' R2;have R4:=R4';have R5:=R5' R1 R4;have R6:=R6' R0;have R7:=R7' R0;have R8:=R8' R0 R7;have R9:=R9' R8;have R10:=Zq R3 R5 R6 R9;have R11:=Zp;have R12:=Zo;have R13:=Zn;have R14:=Zm;have R15:=Zl R10 R11 R12 R13 R14;have R16:=Zk;have R17:=Zj R1 R16;have R18:=Zi R0;have R19:=Zh;have R20:=Zg R0 R7 R19;have R21:=Zf;have R22:=Ze;have R23:=Zd;have R24:=Zc;have R25:=Za R17 R18 R20 R21 R22 R23 R24;have R26:=Y9 R25;have R27:=Y8 R1;have R28:=Y7;have R29:=Y6 R15 R26 R27 R28;exact⟨fnOf "law" "law" (bx kM) (bj kM) (am kM) .none kV dc pm an cd ct,λ s v=>.of_eq rfl,λ base _ _ hC hB=>xG (fun_mk (st:=kM) lk cc kk) R29 hC hB hKT⟩
def walk {l:PySem.W.OpenLaw}{q:FU}{loose:List Str}{XP:(Str->Option FS)->FY->Prop}{YP:FV->FY->Prop}{d:DefRec}{K:Params->Frag}{Tb c:FR}(hn:l.most=some 63)(Tu:d.params.defaults=[])
  (hY:∀(w:FV) (h:FY),YP w h->(K w.params).In h/\h.get? Tb=some (PySem.W.tabObj #[])) (hKT:∀w:FV,(K w.params).lookup Tb=none)
  (F:∀(w:FV) (mg:Str->Option FS) (fa:FR) (h:FY),(K w.params).In h->h.Ns mainGlobals mg->mg d.name=↑fa->
   ∃fd:FW,(∀(s:FT) (u:FS),BindsTo s fd ⟨[u],[]⟩ [("_law_script",u)])/\∀base:FY,(K w.params).In base->base.Ns mainGlobals mg->CodeHd base c Tb->Js mg base->Gb l.prog w (K w.params) mg base Gn 42 fa fd ["_law_script"] (KQ (K w.params) Tb))
  (hC:∀w:FV,PySem.W.codeHdIn (K w.params) c Tb=true):
  PySem.W.WalkO q loose XP YP l.row.toRowW d [] (λ f vs=>PySem.call f vs):=
 L2.Ot (n:=63) (k:=42) (x:="_law_script") (sp:=λ w=>KQ (K w.params) Tb) hn (by decide) Tu ⟨λ _=>rfl,by decide,by decide,rfl⟩ hY hC hKT F λ _ H a ns hl hS hT na=>⟨a,ns,rfl,hS,hT,na,λ _=>rfl⟩
end K21.Ck
end
open PySem PySem.W PyProof.Rows
structure PySem.W.Fast:Prop where(tw3050354134367153264 tw8264345719645352648 tw11447636480287761476 tw53700392068361160 tw2705029033366381808 tw5349491359995146330 tw10037602666214303024 tw15910559078187657555 tw15283176865321194985 tw5105014004297417349 tw7715638073645808448 tw1170914768630784917 tw5672516802984811607 tw9140646014814938655 tw12257746244289974276 tw16523656531239925385 tw14147673555587434812 tw10867568428330490199 tw5643786581081203587 tw3521532214405059647 tw3400773717119803436 tw7770728551237763965 tw12122700809128467423 tw16646046081415226931 tw16032882208850440891 tw16520521697360474662 tw912846253466614964 tw12516652467522923963 tw6901654804704147369 tw3803865954413794603 tw16952002307167389549 tw16444906246295226032 tw11141260801215384175 tw7094323969910531189 tw14843630306669955786 tw5639751904210773312 tw11514093197980986306 tw2466890248634491188 tw642803313660824324 tw16722997140717625244 tw4330951049237208923 tw15373677106498279820 tw11559440422366389814 tw12229370701170252381 tw12392498115726827513 tw2880957338233936490 tw10826312230562237239 tw2619506415857388368 tw3409151578433151881 tw240934117255142548 tw12551622129721678160 tw1843446471448650595 tw17414557044828296645 tw11862777775454078103 tw15096464788748081735 tw13166392602699360463 tw15012879810560547317 tw14062366201969583584 tw6400881293409272084 tw13357635824041646905 tw7288471954032299372 tw7144940676586068070 tw7470844113026022804 tw16511365732133278375 tw4940552621970911729 tw16652770503521457002 tw17654958004758192818 tw1981553952740008964 tw4675726521480655810 tw3658199310093835040 tw4338441655543239162 tw1614100341841305547 tw8461713678135963466 tw7383657643303929712 tw8457625860013017411 tw10302537130356442783 tw15672422235984191035 tw10232534467300047359 tw1609264817244323578 tw9377365699534037536 tw16128366515564297986 tw1520010892323671757 tw16898171916072279311 tw394545418058398218 tw3036110218454606678 tw15240288053069171658 tw8925939867611870234 tw12976516860368277 tw9305776805636266354 tw1827552208501608935 tw7864218693112602938 tw786916757452249724 tw222356034917586782 tw11097053603195670303 tw15035466446403326062 tw14410776373451700164 tw3036886198943554296 tw1286998372899616682 tw9329485610521568464 tw13272016155005552944 tw7592794486714366934 tw2757818630823017133 tw14456885193012619279 tw13493679180456055470 tw1082325394193964152 tw7145253291336892798 tw7018907199202369966 tw2501170792689469362 tw8130608965884995298 tw11701322958853774085 tw13805009885861868431 tw17202621998583484715 tw4195075271201398217 tw3273709683998299462 tw2716429286749177468 tw15894760138226928670 tw3657018032076304061 tw4686567726975649990 tw14456387773216400257 tw8501866292921394860 tw14492832269983472844 tw6038281843651931006 tw14510552281951350914 tw14914634576722146073 tw5689558918717855522 tw14753123185662735096 tw3042017473895489018 tw12360001049017784840 tw1621081026484499378 tw6935860190739525111 tw4017318176307252865 tw14635713160050637816 tw3443326188657634101 tw12149794979215622896 tw5579249299722919299 tw16725828894723047149 tw11793976722890189404 tw14937405022920550233 tw6748330560061415190 tw18151433694767884144 tw13587856144440371616 tw10739875682065006007 tw17800863241469434663 tw18162388498287262178 tw7825530575812185076 tw5211302825044730018 tw8620059299904237233 tw5475516298374582352 tw15293975605773029771 tw17111886340630244752 tw3895600796489764923 tw5531778111221046762 tw1388495077917870285 tw8090767559720053334 tw13306654606824647685 tw10827614320736071313 tw8085435553333913858 tw374345283295353104 tw5696311885705532330 tw11009414470183778564 tw7796952607583827170 tw8513816826667377692 tw5240125003052739679 tw4848858431313734574 tw8228600895352916489 tw16841525327568877219 tw7039957471281601152 tw1518528095506940688 tw17004968471685090179 tw2539308437039064453 tw12859943448987259512 tw676825634990462896 tw15539270044931603832 tw8972553026668131348 tw17390352598394382208 tw2016673472862011095 tw13980984312008262516 tw14614975738452114438 tw5916709725017534703 tw15317557289028117655 tw15758213862976144673 tw3051521492825062854 tw5731252437435873676 tw5524292226173355839 tw11414494144021169415 tw4550526681181495526 tw14487480556749714020 tw13234045256105215908 tw18402078764914992339 tw18274417529752956425 tw9282083894589835526 tw4430489838874636888 tw5436903524609931372 tw15789127805200334068 tw11029808873291452582 tw11069622144082947816 tw9242203135326963598 tw13508166543434031818 tw15380249142556680507 tw1681952921352016906 tw9037374569672849188 tw5341101142969672327 tw16369140838057930348 tw2236952029861610513 tw1568913441602927907 tw5851430712035378791 tw10785080082350629713 tw6634715158051125856 tw4506493765500891643 tw2867739964967112023 tw897423570492787867 tw15677514366600546713 tw9933138794729376973 tw4266662841744571059 tw2192593281652200697 tw12277843175318944402 tw13135413247906436879 tw5078228327428762009 tw16168487195639501533 tw8506066570826007550 tw7104168930980117433 tw12236564282094571765 tw63799896751257510 tw12290293837678552164 tw1665307020870698667 tw8425392653328480179 tw14819471417471485208 tw17115866587879545153 tw15857741280901241842 tw7077156142645939900 tw5347516535519503850 tw9591884003934773239 tw15518969659525952246 tw8763686119364161794 tw15511829039288552684 tw15585601304029935551 tw15190909457368643109 tw12172730265024771592 tw11045790509779150578 tw10782186513606741531 tw17640864555316203923 tw11319756590861661701 tw7250710582491860622 tw1239425498788099570 tw7678552006196365763 tw1802787245525249146 tw17201251196857623915 tw13705780758344866563 tw12634685844014845848 tw12360822363153570652 tw14125894946307341219 tw10360950302302294787 tw16451092743344710733 tw12049462359603999705 tw6540564131251001291 tw820110103861486901 tw12620156626698825253 tw3449325360929448729 tw8313662509505343043 tw7681615702010299877 tw17612687546445522507 tw12634387400467635836 tw95900924867398425 tw16812672779203793750 tw13119402088203529353 tw12873227032296286805 tw8575956854280825299 tw816901967043453795 tw11172603381751139920 tw16277362811803543445 tw470131796228029783 tw14628418164730989711 tw15888516729821138208 tw2986187972036636415 tw16594390908054493612 tw12660511182954661072 tw17675899169985207490 tw7126932043643921411 tw9561818470640260413 tw13515811304354494427 tw2271683059978791770 tw5697260818369975219 tw11901526276220719946 tw3576436681659200558 tw7232966000321471453 tw1660910795963825413 tw18400681041539254372 tw17655387385597478090 tw8898420172990641156 tw18066221390210528050 tw17603969877293459147 tw14994772845129803178 tw9368534232822489699 tw7163242340840742246 tw6916681659326390557 tw5060175890539663213 tw4644139412864914927 tw2693698078526011051 tw2268322255452272115 tw16501369838386436089 tw15939185026601473817 tw15489725650457366673 tw14689800069452187288 tw14678175917756044763 tw14559012405111480683 tw1393247111683682283 tw13929896926925011068 tw13650134012850723188 tw10752895844955766930 tw10036949574690625765 tw5006679646365551126 tw2628416899790420226 tw18302921729104987265 tw1722958256265277755 tw1675072607324685135 tw9915080668797012724 tw15940065144096340317 tw2163791996786315051 tw12619220981738615262 tw12641015691091183772 tw2518019714179859478 tw12121072006626091816 tw2767705551821814744 tw1469270719090298239 tw6612351162043358491 tw9060980259853276507 tw9553120874974496560 tw3902745026324841292 tw15492511649547939426 tw2354940894848411423 tw9282236151733172421 tw15339682069138423402 tw12677982742868348763 tw9121334743940487636 tw715615924296034002 tw7018290278687939842 tw6370496435500180218 tw14464223259778150116 tw13637423603465231749 tw12670860638415086750 tw7854965578943186750 tw2236482893185681732 tw11712302365641618924 tw17048921491464029007 tw15525466328100372821 tw16799163424973308772 tw11508788247830236525 tw15869552762487086927 tw10227891057694454955 tw6370769302371300937 tw1242139565225290417 tw9773768077365114686 tw17443362040326015389 tw14773402226352049298 tw16922770144206360683 tw1229185398272353153 tw6333799540736162117 tw2604924650255454094 tw10218566766801885923 tw5156538394038924000 tw14464264362528216015 tw18352532014894856531 tw7865491399329375199 tw14100945294841572173 tw8113347903318842722 tw757791608260863871 tw2176980723034382730 tw473944809372067604 tw3130082155229173376 tw1663708837927982093 tw3017911423865634012 tw2881487704565055717 tw17402463891424579513 tw134981125212272160 tw6463248805512222083 tw8230225029386665898 tw18421313844640134907 tw8752033559049504943 tw17625226947738311780 tw1681845862285869927 tw7225374881393931266 tw2020608111067590789 tw13966902848342705872 tw7197171955595379811 tw11551483909856502770 tw15859167012244150951 tw12764289399421512536 tw6702686036571098128 tw15706664820361663550 tw14425881491086399735 tw18176064135876159107 tw16138306468907969284 tw12560386675790413837 tw14024256115631244267 tw9256618301843052862 tw7933298142003938556 tw11719717685603906670 tw10565109260618535518 tw16382216126414299909 tw11276672221853578057 tw1663422412678723532 tw9286946928061209432 tw5145423846614199249 tw4322042375036685009 tw9021781863931280421 tw15929919394772294422 tw13275306982908056978 tw11886065586723017156 tw7060614334042702616 tw8820073551153315214 tw6184475052297069727 tw3438348017025587288 tw17495390099288017716 tw1833679890227903157 tw7956652183133958025 tw6535278608443569145 tw5923528692458534421 tw5590815253465582188 tw520937135441985983 tw18092361995754513249 tw16973191179600592698 tw9067694763655695684 tw6425914320380273665 tw6033344699507734414 tw14018951060876040685 tw16123919111044662246 tw4665787449418311461 tw1655980731810933603 tw8727123367735960308 tw15331927874352409067 tw11207210032191736706 tw9741365643326376763 tw9067706470606301247 tw2030583141413371637 tw17075293250471869240 tw16690046102858856688 tw13598423636946154664 tw10815642119995533653 tw16319251400167812170 tw14494108612516023955 tw8226689658514490050 tw4858740192479247658 tw3409707772616445658 tw2800746718051118620 tw10624190968326793843 tw4619519288286973095 tw3964903928063167532 tw6965561398140745570 tw2736488244981984452 tw14659876302866084473 tw7059592156935245235 tw9426311304913498908 tw3896296669694375434 tw988101070647433847 tw5915325664418213096 tw5716580681148734173 tw8673899445872350977 tw566448054804157578 tw1690607326679206347 tw11888459878333386161 tw1143162430174906990 tw3773815867369827559 tw1819472726368684947 tw11298665612755914464 tw9575936967303524035 tw8092652796605226245 tw7939414980223767061 tw17600723001263635196 tw13414893741268533593 tw11185078266848005858 tw673524152689131751 tw14398550527816471943 tw9030263492860422060 tw7280457502287538980 tw15316916570131624975 tw3688412061664148226 tw2318062786673993232 tw1173500949030053363 tw9240517249461162101 tw6496528899232268451 tw5260455706714523527 tw18285688387700581241 tw1783172211261060615 tw9073970790452585241 tw6920643547277035502 tw3997506428493014189 tw1953222835009038562 tw14666523614526547023 tw6098540763303046456 tw16472621771159942902 tw10613185139015275441 tw2879392079010291141 tw7995811103847334291 tw3567427134354330407 tw14235737238565545001 tw3526251885281610846 tw11984866907496157380 tw10710160193288559538 tw1467867942282804679 tw14214160161202039021 tw9094582603581741493 tw3726087565654277414 tw2472871462063810771 tw12432606895528453099 tw9886551454444783560 tw1049032477745718844 tw12069181964322891139 tw7810037330215700952 tw646710915963462214 tw7484833683758490651 tw6323422518837852509 tw10921236416644117359 tw9259226201397830260 tw3850603850024690642 tw13239920037894972576 tw3125657571559806182 tw6416698739497854327 tw14152040389413689765 tw6408949097567747003 tw17860538413690836693 tw17125595010620259219 tw14888126556392178906 tw13130349846685341343 tw12604928123413291540 tw14393779497792580491 tw5030493138358909832 tw5055499453577180083 tw11823134107294574204 tw7620297115255859249 tw378351656058400317 tw7860149312168787461 tw729001318912855737 tw6294888835311869560 tw16362862710178917421 tw3839191000601329071 tw9714900586721288155 tw7150021596917070100 tw4641336271828886722 tw3608097799522215422 tw414388628105022490 tw11613695285693110150 tw7549326765427619072 tw3166914800043239089 tw17883192069226929552 tw833582636661234560 tw8123631543773158572 tw7849659757148907212 tw7831418172922415070 tw7711791297045195341 tw7355184880407246837 tw6962346772244037038 tw55974566226400537 tw5240669277076239580 tw490390791392361804 tw4869268788608376499 tw3540090649155769593 tw2890123723403588636 tw2202491140145636618 tw2193844468651155827 tw186607304424063282 tw1851307703202304220 tw18345412727464899314 tw14471551797502941992 tw13419372657378332916 tw12992945014764365489 tw11773114768869385726 tw11014299555193500560 tw10882342939964621860 tw1082104537319253726 tw10268574657838284284 tw5562649984905025234 tw4467472993702923246 tw15846065426700656045 tw7764876741420153238 tw17894374618626260969 tw13406826041548273721 tw11993222168466925461 tw11265908297002042356 tw6023557206030040001 tw10599531558359177243 tw18129273908129245968 tw2844606281501917936 tw4294246246554022202 tw17418765267173004145 tw16652135580447240186 tw15336978353039406715 tw4770772768258239555 tw4698759136707587748 tw7207290412669698488 tw16906621266307573598 tw15482503519210916028 tw9547089789041268605 tw14548959257501753044 tw9092869663811329865 tw8887088525626959121 tw7991013291603009781 tw5685040708000079648 tw4396244420518836426 tw3607603941480917777 tw2113954032478195339 tw17757106197897443402 tw17720975138771262341 tw17711345303189271560 tw17186955173278959910 tw15699248679093698510 tw10378676355545814268 tw11311486088008339140 tw885651171013984930 tw8062047002304117714 tw8023526860615392305 tw7402587544448705327 tw3648022294009582592 tw35760607415477242 tw2306889267167083488 tw2234372560686602348 tw2055724012421206579 tw1845111132778906789 tw18218500092990100461 tw17751658970246441791 tw1760168560024523692 tw1731073311783773989 tw17081956384790956152 tw17017885535043617287 tw17002088935246519027 tw15394671038723806500 tw1430054946009854145 tw13983326545820660458 tw13785938051824113298 tw13727079812406917971 tw13722965345481008613 tw12979317695127738922 tw11661726221452427725 tw11634105248522500266 tw10676466365965402758 tw1243552610821287286 tw9842668391744735443 tw9169524596973796552 tw8604863513052538421 tw8602380666610375087 tw7367651655532869062 tw7194375753547455581 tw7190874451545376195 tw6424716102781724497 tw4830825543889260805 tw4423737244241842503 tw4075698822909038456 tw3609349779034844293 tw2766092819349094309 tw18332966118306022031 tw17280252012878586382 tw17169871906923601792 tw17028725349306423689 tw15932941256610042406 tw1497821394721845120 tw14014431649130729263 tw13789792141610095644 tw12923818973899678384 tw12303379806105680511 tw11906367731051946860 tw10724155529945817849 tw10619972125403570317 tw1018084215212213469 tw1410381929114834544 tw6053878126184796889 tw8915098477954101072 tw7945119876505845711 tw7540018976703041849 tw6592082082949539709 tw6549068982815118643 tw6369991931099707685 tw3675911201815394552 tw2908360187312315690 tw2730447249980511013 tw17729736210201793492 tw16051184553203321444 tw1484515898495867778 tw14313153420558767732 tw1396419986129964870 tw13478426183122043053 tw13332304187926788562 tw12414324263278694307 tw12108017212918452033 tw10434562959921128200 tw1032005628812920717 tw1011608994178369076 tw1009434490666309980 tw9700211170744080240 tw9222264233410855907 tw8129958723546528266 tw7639817665635142227 tw7623084250852124247 tw660237360090359342 tw6322553193536706288 tw5115536931343449537 tw4683087294065789679 tw3656023809860345350 tw3347730002471563584 tw1860216566279454501 tw18377052564326150260 tw1787103347165295202 tw16013498293023780180 tw15926957386397958963 tw15648552995916385258 tw15585849126682004989 tw15259383742267686582 tw15210240468080414597 tw1490554454424949848 tw13594387687176472999 tw1250367985344509580 tw11726277674509048688 tw1138483322452997919 tw10522099077195329411 tw10361483075270088325 tw9672344966182111290 tw6683857339788197474 tw9987831118614983856 tw9935124846116531652 tw9794597503294210573 tw9698791559595172847 tw9685769071554539512 tw9580735378862933925 tw945750468926059451 tw9402848417746369934 tw9344199281887599796 tw9203707984025184544 tw9195577845642056054 tw9191645010431828879 tw9141222537086509923 tw9138462794938167297 tw9040813444676338007 tw9015437506625978804 tw9009204909073943572 tw8869378954294655385 tw8848936967985460552 tw870902787135683066 tw8667574150125276717 tw8386195154998321221 tw8286353643217801801 tw8249933042231751107 tw8208354758213978903 tw8144872344897625971 tw809563966677811262 tw8067187162803629161 tw8051946291013048307 tw8014394855796389009 tw8009008492155435937 tw798340894514760508 tw7927780170602766935 tw791622791593767921 tw7910453976509733 tw7906131645213203470 tw787965277331543248 tw77920132557774713 tw7786275754946698988 tw7673814023587354779 tw7533619486638457487 tw7349378327931869118 tw7284152533822416347 tw7213106605664471441 tw7094718868408944305 tw7020399902808424795 tw6861367912928203518 tw6860269103621879084 tw6744879992405408162 tw6692884249804488592 tw6675598970920309818 tw6474112359191390990 tw6359831218811097024 tw634840697797888100 tw6334166271872409815 tw6291400951175851314 tw624694911574242215 tw6216611448040613962 tw6127322139068861692 tw5973341700881028563 tw5876073823239640734 tw5821126920106132720 tw5816485945436120626 tw5725987558819264006 tw5608202326916864858 tw5578398906253755174 tw5550760637891686688 tw5479750978194157157 tw541362457421048564 tw5301119091646875075 tw5272579209580918455 tw5244668247742729691 tw5100040087794849714 tw5079807365829613118 tw5017450603211200317 tw4938493082122340266 tw4870881525894001352 tw4819852897132338632 tw4767782330050348134 tw4744122644179490782 tw4722029327351176285 tw4707367097167998150 tw4542362812655217470 tw4485106570967736945 tw4482937475202264956 tw4336321644328065968 tw4061965339996917367 tw3776603935032716087 tw3691759195650666060 tw3524365729996184320 tw3502133219168757435 tw3293133003452612482 tw3101142518374845199 tw3046491310427594105 tw2999331734262079902 tw2939417178437294469 tw2914735439108595911 tw2906194208388468710 tw2900708284873435188 tw2895172256984463347 tw2869039051602245473 tw282974942102763815 tw2662812282110155503 tw2660605271847098094 tw2470892503393729849 tw2468228857045814019 tw2349507868525386747 tw221489640333916594 tw212512086859391872 tw1909740182005974570 tw188432494770056501 tw1841426601680798134 tw18414044468725665277 tw18337129171217485973 tw18246308000357413853 tw18220029951821403301 tw18199246632582916815 tw18110389757051534081 tw18005347928243192383 tw17992243987572481262 tw17925741445485814917 tw17896783274389673981 tw17873144998769083466 tw17854778098199575840 tw17841873368110614637 tw1781112027533551101 tw17710093410068267443 tw17694881551426020299 tw17658627847405653367 tw17562597244009905498 tw17340200298515093598 tw1721655966428561479 tw17157562970695776413 tw17143256116276301966 tw17073531107424316934 tw17023223207047607577 tw16925934146134812122 tw16872225366783291516 tw16598840552431975419 tw1617046263896133355 tw16157877981006686162 tw16109359068070293283 tw16042564285036963459 tw15935104019531013182 tw15769489493458136135 tw15722955974023545426 tw15642536724912047984 tw15629280298118097397 tw15523136055016766851 tw15349956540081674293 tw15253270622839360128 tw15219069433792342010 tw15216496238849743857 tw151057122585210521 tw15100485779100493625 tw15055802351699795171 tw15045108586543078318 tw14834207996422653405 tw14833254035873815016 tw14787290598517941911 tw14624703187818891528 tw14582611799667708360 tw14574951802509395351 tw14523533949812883788 tw14523076108260034941 tw14498722877336892838 tw14417898416852610009 tw143883255026407672 tw14282733466258076753 tw14278736217263740005 tw14027390218426081273 tw14011059357603306514 tw13962785107116999692 tw1388471050889791773 tw13880600534200468356 tw13790680118424806344 tw13693421081765503254 tw13690601204856751973 tw13595918657083926056 tw13542771881409593434 tw13501367174140747010 tw1330972205055264968 tw1323559519614032592 tw13089995032693618538 tw13064411447147618479 tw13040825762549909021 tw12779383504663861136 tw12751441834465187010 tw12677041890794835833 tw12672970065259664309 tw12505088434885860200 tw12431567223443657735 tw12251625712467203187 tw12196181048053587170 tw1206229247145541633 tw12053477906941392559 tw11950770038421272927 tw11912492908360809786 tw11886825084216596558 tw11854256926801376561 tw11517347371798742303 tw11498941433347617498 tw11408086114252984310 tw11258066890765840066 tw11180831805138635879 tw11169101451514656831 tw11143231982959957168 tw11026966481396947454 tw10870951323462788786 tw10852758762434525175 tw10804986365397471493 tw10703635464652186507 tw10659355575090466983 tw10597245539330189230 tw1032942508305137669 tw10103638219528577408:True)
theorem Hk4.cut {α β γ:Type}{f:α->γ}{g:β->γ}(k:Nat){a:List α}{b:List β}(x:(List.take k a).map f=(List.take k b).map g)(y:(List.drop k a).map f=(List.drop k b).map g):a.map f=b.map g:=by
 rw[← List.take_append_drop k a,← List.take_append_drop k b,List.map_append,List.map_append,x,y]
theorem Hk4.of {K:PySem.Params->PySem.W.Frag}{as:List PySem.Addr}(e:∀P,as=(K P).map (·.1))(ts:List PySem.Addr)(w:PySem.World)(s:PySem.Shared)(z:((List.take 130 as).map s.heap.get?,(List.take 130 (List.drop 130 as)).map s.heap.get?,(List.take 130 (List.drop 130 (List.drop 130 as))).map s.heap.get?,(List.drop 130 (List.drop 130 (List.drop 130 as))).map s.heap.get?,ts.map s.heap.get?)=((List.take 130 (K w.params)).map (fun p=>some p.2),(List.take 130 (List.drop 130 (K w.params))).map (fun p=>some p.2),(List.take 130 (List.drop 130 (List.drop 130 (K w.params)))).map (fun p=>some p.2),(List.drop 130 (List.drop 130 (List.drop 130 (K w.params)))).map (fun p=>some p.2),ts.map (fun _=>some (PySem.W.tabObj #[])))):PySem.W.InK K w s.heap/\∀P∈ts,s.heap.get? P=some (PySem.W.tabObj #[]):=by
 simp only[Prod.mk.injEq] at z
 exact ⟨.of e w s (Hk4.cut 130 z.1 (Hk4.cut 130 z.2.1 (Hk4.cut 130 z.2.2.1 z.2.2.2.1))),List.map_inj_left.mp z.2.2.2.2⟩
local macro_rules|`(tactic|refine $f:ident $a1 $a2 $a3 $a4 $y $v $yp $n $hl ($o:ident ($h:ident $k $a $p $ts)) $t*)=>`(tactic|refine' $f $a1 $a2 $a3 $a4 (Yf:=fun s=>((List.take 130 $a).map s.heap.get?,(List.take 130 (List.drop 130 $a)).map s.heap.get?,(List.take 130 (List.drop 130 (List.drop 130 $a))).map s.heap.get?,(List.drop 130 (List.drop 130 (List.drop 130 $a))).map s.heap.get?,($ts).map s.heap.get?)) (Ya:=fun w=>((List.take 130 ($k w.params)).map (fun p=>some p.2),(List.take 130 (List.drop 130 ($k w.params))).map (fun p=>some p.2),(List.take 130 (List.drop 130 (List.drop 130 ($k w.params)))).map (fun p=>some p.2),(List.drop 130 (List.drop 130 (List.drop 130 ($k w.params)))).map (fun p=>some p.2),($ts).map (fun _=>some (PySem.W.tabObj #[])))) $yp $n $hl (Hk4.of $p $ts) $t*)
set_option maxRecDepth 100000 in
set_option maxHeartbeats 0 in
theorem PySem.Challenge.cw_balepress_k21_bodies_refused_holds : PySem.Challenge.rw_balepress_k21_bodies_refused.Holds := by
 w_on;o_law;k_head;(case hw=>w_witness2)
 k_fill
 refine' K21.Ck.walk (l:=PySem.Challenge.rw_balepress_k21_bodies_refused) rfl rfl (λ w h Y=>⟨PySem.W.km_in_of Y,PySem.W.km_tabs_of Y _ List.mem_cons_self⟩) ?hKT ?F ?hC
 case hKT=>intro w;kernel_rfl
 case F=>
  intro w mg fa h KX G hmg
  refine' K21.Ck.hd (by kernel_rfl) KX G hmg ?a ?l ?c ?k ⟨?_,?_,?_,?_,?_,?_,?_,?_,?_,?_,?_,?_,?_,?_,?_,?_,?_,?_,?_,?_,?_,?_,?_,?_,?_,?_,?_,?_⟩ (λ R0=>⟨R0,?_,?_,?_⟩) (λ R1=>⟨R1,?_,?_,?_,?_⟩) (λ R2=>⟨R2,?_,?_,?_⟩) ⟨?_,?_,?_,?_⟩ (λ R1 R4=>⟨R1,R4,?_,?_,?_,?_,?_,?_,?_,?_⟩) (λ R0=>⟨R0,?_,?_,?_,?_,?_,?_,?_,?_⟩) (λ R0=>⟨R0,?_,?_,?_,?_⟩) (λ R0 R7=>⟨R0,R7,?_,?_⟩) (λ R8=>⟨R8⟩) (λ R3 R5 R6 R9=>⟨R3,R5,R6,R9,?_,?_,?_,?_,?_⟩) ⟨?_,?_,?_⟩ ⟨?_,?_,?_⟩ ⟨?_,?_,?_⟩ ⟨?_,?_,?_⟩ (λ R10 R11 R12 R13 R14=>⟨R10,?_,R11,R12,R13,R14,?_,?_,?_,?_,?_,?_,?_,?_,?_⟩) ⟨?_,?_,?_⟩ (λ R1 R16=>⟨R1,R16,?_,?_,?_,?_,?_,?_,?_,?_,?_,?_⟩) (λ R0=>⟨R0,?_,?_,?_,?_,?_⟩) ⟨?_,?_,?_⟩ (λ R0 R7 R19=>⟨R0,R7,?_,?_,?_,R19⟩) ⟨?_,?_⟩ ⟨?_,?_⟩ ⟨?_,?_⟩ ⟨?_,?_⟩ (λ R17 R18 R20 R21 R22 R23 R24=>⟨R17,R18,?_,?_,?_,?_,R20,?_,?_,?_,?_,?_,?_,?_,?_,?_,?_,?_,R21,R22,R23,R24⟩) (λ R25=>⟨R25,?_,?_,?_,?_⟩) (λ R1=>⟨R1,?_,?_,?_⟩) ⟨?_,?_,?_⟩ (λ R15 R26 R27 R28=>⟨R15,R26,R27,?_,R28,?_,?_,?_,?_,?_,?_,?_,?_,?_,?_,?_,?_,?_,?_⟩)
  (case a=>k_is);(case l=>k_is);(case c=>k_is);(case k=>k_is)
  all_goals try (refine' K21.Ck.ers ?_ ?_ ?_ ?_ ?_ ?_ ?_ ?_ ?_ ?_ ?_ ?_ ?_ ?_ ?_ ?_ ?_ ?_ ?_ ?_ ?_ ?_ ?_ ?_ ?_ ?_ ?_ ?_ ?_ ?_ ?_ ?_ ?_ ?_)
  all_goals try (refine' mg_of KX G ?_;k_is)
  all_goals try (refine' PySem.W.mg_none_of KX G ?_;k_is)
  all_goals try (refine' K21.Ck.nI KX G ?a;case a=>k_is)
  all_goals try ((first|(refine' ⟨_,_,L2.fun_mk ?l ?c ?k,mg_of KX G ?a,.all ?b⟩;case a=>k_is)|(refine' ⟨_,_,L2.fun_mk ?l ?c ?k,⟨?a,?i,?k⟩,.all ?b⟩;(case a=>k_is);case i=>k_is));(case l=>k_is);(case c=>k_is);(case k=>k_is);(case b=>((repeat refine' K21.Ck.mS λ _=>?_);exact K21.Ck.m0 rfl)))
  all_goals try (refine' K21.Ck.inI ?l1 ?c1 ?k1 ?e1 (.all ?b1) ?m1 ?a1 ?i1 ?q1;(case a1=>k_is);(case l1=>k_is);(case c1=>k_is);(case k1=>k_is);(case m1=>k_is);(case i1=>k_is);(case q1=>k_is);(case e1=>rfl);(case b1=>((repeat refine' K21.Ck.mS λ _=>?_);exact K21.Ck.m0 rfl)))
  all_goals try (refine' K21.Ck.fcI KX G ?a ?l ?c ?k ?b;(case a=>k_is);(case l=>k_is);(case c=>k_is);(case k=>k_is);(case b=>refine' K21.Ck.b2 λ s _ _ hX=>binds_K hX ?x ?t ?y ?z ?w;(case x=>rfl);(case t=>k_is);(case y=>rfl);(case z=>rfl);case w=>rfl))
  all_goals try ((first|refine' K21.Ck.fdI KX G ?a ?l ?c ?k ?b ?d|refine' K21.Ck.flI KX G ?a ?l ?c ?k ?b ?d);(case a=>k_is);(case l=>k_is);(case c=>k_is);(case k=>k_is);(case b=>refine' K21.Ck.b2 λ s _ _ hX=>binds_K hX ?x ?t ?y ?z ?w;(case x=>rfl);(case t=>k_is);(case y=>rfl);(case z=>rfl);case w=>rfl);(case d=>refine' K21.Ck.b1 λ s _ hX=>binds_K hX ?x ?t ?y ?z ?w;(case x=>rfl);(case t=>k_is);(case y=>rfl);(case z=>rfl);case w=>rfl))
  all_goals try k_is
  all_goals try (first|refine' K21.Ck.Exc1.mk ?_ ?_ ?_|refine' L2.Cls.mk ?_ ?_ ?_ ?_|refine' L2.MkB.mk ?_ ?_ ?_|refine' L2.ExI.mk ?_ ?_ ?_ ?_ ?_ ?_ ?_ ?_|unfold L2.NoAttr)
  all_goals try k_is
  all_goals try ((first|refine' K21.Ck.b2 λ s _ _ hX=>binds_K hX ?x ?t ?y ?z ?w|refine' K21.Ck.b1 λ s _ hX=>binds_K hX ?x ?t ?y ?z ?w);(case x=>rfl);(case t=>k_is);(case y=>rfl);(case z=>rfl);case w=>rfl)
  all_goals try ((repeat refine' K21.Ck.mS λ _=>?_);exact K21.Ck.m0 rfl)
  all_goals try unfold L2.ExC
  all_goals try kernel_rfl
  all_goals decide
 case hC=>intro w;kernel_rfl

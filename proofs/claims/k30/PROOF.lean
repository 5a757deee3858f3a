import PyProof.Rows.All
import KE.KFromBytes
import KE.KIsAll
import Wide.FinOn
import Open.Pieces
import OpenK.KLine
import PyProof.EqAt
import PyProof.EqKinds
import PyProof.TupleCall
import PyProof.Seq
import PyProof.RangeIter
import PyProof.TupleIter
import PyProof.Rows.TupIter
import PyProof.StationsW
import PyProof.ExcClass2
import PyProof.NeKinds
import PyProof.Rows.TupMore
import PyProof.AutoSeq1
import PyProof.ZipIter
import PyProof.StrWalks
import PyProof.StrBlock2
import PyProof.StrBlockI
import PyProof.StrLaws
import PyProof.SliceStr2
import PyProof.Rows.Range3
import PyProof.Rows.StrRev
import PyProof.ConsumeWalk
import PyProof.Rows.SortShellK
import PyProof.Rows.SortRev
import PyProof.SeqI3
import PyProof.Rows.SeqGen
import PyProof.Rows.SortRunsK
import KE.KEqDict
import KE.KLam
import KE.KMinKey
import KE.KNestM
import PyProof.StrLawsIn
import Lean
import PySem.Challenge.RW_balepress_k30_whole_read_by_the_document
noncomputable section
set_option Elab.async false
set_option bootstrap.genMatcherCode false
open PySem renaming Addr → LV, Value → LW, Shared → LX, Program → LY, World → LZ, FuncData → L0, Around → L3, Heap → L4, Expr → L5, Obj → L6, Stmt → L7
open PySem.W (mg_of instObj methodObj Frag lookIn InstAt plainGet hasDictIn findIn handedIn isFn plainOver takerIn makesIn typeIn InitBack emptyDict make_core looks_findIn Looks keepIn specialIn takesIn mroIn kitOne kitx_list kitx_dict fnOf codeIn codeRec_of excIn oi_run kitMeta CodeHd nsIn binds_K)
def Z9 {p:Prop}(h:p:=by decide):p:=h
def Z8 {p:Prop}(h:p:=by decide+kernel):p:=h
def Z7 {p:Prop}(h:p:=by rfl):p:=h
def Z6 {p:Prop}(h:p:=by simp):p:=h
def Z5 {p:Prop}(h:p:=by lia):p:=h
def Z4 {p:Prop}(h:p:=by omega):p:=h
def Z3 {p:Prop}(h:p:=by intro _;rfl):p:=h
def Z2 {p:Prop}(h:p:=by first|exact .inl rfl|exact .inr rfl|assumption):p:=h
def Z1 {p:Prop}(h:p:=by intro _ _ _ _ h;(repeat obtain⟨_,h⟩:=h)<;>subst_vars<;>rfl):p:=h
def ZU {p:Prop}(h:p:=by first|exact .inl rfl|exact .inr (.inl rfl)|exact .inr (.inr rfl)):p:=h
def ZT:=ZU._auto_1
def Z0:=Z7._auto_1
def ZZ:=Z9._auto_1
def ZY:=Z8._auto_1
def ZX:=Z3._auto_1
def ZW:=Z2._auto_1
def ZV:=Z1._auto_1
set_option maxRecDepth 100000
abbrev Ez:=@Nat.add_le_add
abbrev EA:=@List.length_map
abbrev EB:=@List.length_append
abbrev EC:=@Nat.le_of_eq
abbrev ED:=@Nat.le_antisymm
abbrev EE:=@List.append_assoc
abbrev EF:=@Nat.le_trans
abbrev EG:=@PySem.wpAny_bind
abbrev EH:=@Nat.mul_le_mul_left
abbrev EI:=@List.getElem?_eq_getElem
abbrev EJ:=@decide_eq_true
abbrev EK:=@Nat.le_refl
abbrev EL:=@of_decide_eq_true
abbrev EM:=@Nat.lt_of_lt_of_le
abbrev EN:=@List.length_drop
abbrev EO:=@List.map_append
abbrev EQ:=@PySem.Heap.get?_push_of_some
abbrev ER:=@List.length_take
abbrev ES:=@if_neg
abbrev ET:=@List.getElem?_eq_some_iff
abbrev EU:=@List.mem_cons_of_mem
abbrev EV:=@List.length_cons
abbrev EW:=@Nat.lt_of_lt_of_eq
abbrev EX:=@List.mem_append
abbrev EY:=@PySem.PassesOwn.never
abbrev EZ:=@List.pairwise_append
abbrev E1:=@PySem.wpAny_pure
abbrev E2:=@Int.toNat_natCast
abbrev E3:=@List.size_toArray
abbrev E4:=@Nat.le_of_lt
abbrev E5:=@if_pos
abbrev E6:=@List.mem_append_right
abbrev E7:=@List.mem_cons_self
abbrev E8:=@List.take_of_length_le
abbrev E9:=@List.getD_eq_getElem?_getD
abbrev Fa:=@List.mem_cons
abbrev Fb:=@Bool.false_ne_true
abbrev Fc:=@Nat.zero_le
abbrev Fd:=@List.length_replicate
abbrev Ff:=@List.filter_cons_of_pos
abbrev Fg:=@Nat.le_add_right
abbrev Fh:=@PyProof.Rows.wpS_pure
abbrev Fj:=@List.getElem?_append_right
abbrev Fk:=@PySem.Heap.lt_size
abbrev Fl:=@List.filter_cons_of_neg
abbrev Fm:=@List.mem_singleton
abbrev Fp:=@List.filter_append
abbrev Fq:=@Nat.lt_of_le_of_lt
abbrev Fs:=@List.take_length
abbrev Ft:=@List.take_append_drop
abbrev Fu:=@Int.natCast_nonneg
abbrev Fv:=@List.append_nil
abbrev Fw:=@PySem.Heap.get?_push_size
abbrev Fx:=@Option.some.inj
abbrev Fy:=@PySem.F.plainAttrs_list
abbrev Fz:=@Nat.min_le_right
abbrev FA:=@List.getElem?_map
abbrev FD:=@Array.toList_append
abbrev FE:=@List.getElem?_eq_none
abbrev FG:=@Nat.mul_div_le
abbrev FJ:=@Nat.lt_or_ge
abbrev FK:=@Nat.add_assoc
abbrev FL:=@Nat.ne_of_lt
abbrev FM:=@beq_iff_eq
abbrev FN:=@List.mem_of_mem_take
abbrev FO:=@List.mem_of_getElem?
abbrev FQ:=@List.mem_iff_getElem
abbrev FR:=@Nat.min_eq_left
abbrev FS:=@Nat.le_of_not_lt
abbrev FU:=@List.mem_of_mem_drop
abbrev FV:=@Nat.mul_assoc
abbrev FW:=@Nat.lt_of_le_of_ne
abbrev FX:=@PySem.F.slot_list_append
abbrev FY:=@Nat.add_sub_of_le
abbrev FZ:=@decide_eq_false
abbrev F1:=@List.getElem?_append_left
abbrev F2:=@Nat.mul_comm
abbrev F3:=@Nat.add_sub_cancel_left
abbrev F4:=@Nat.pow_le_pow_right
abbrev F5:=@PySem.F.type_list_append
abbrev F6:=@List.nil_append
abbrev F7:=@List.pairwise_iff_getElem
abbrev F8:=@PySem.mem_of_lookup
abbrev F9:=@Nat.le_of_lt_succ
abbrev Ga:=@List.take_add_one
abbrev Gb:=@Nat.add_le_add_right
abbrev Gd:=@Nat.lt_of_succ_lt
abbrev Ge:=@Nat.zero_add
abbrev Gf:=@List.take_append_of_le_length
abbrev Gg:=@List.drop_drop
abbrev Gh:=@PyProof.Rows.boot_list
abbrev Gi:=@Nat.min_le_left
abbrev Gj:=@Nat.pow_succ
abbrev Gk:=@Array.length_toList
abbrev Gm:=@List.replicate_succ
abbrev Gn:=@Nat.sub_succ_lt_self
abbrev Gp:=@List.map_cons
abbrev Gq:=@Nat.lt_of_succ_le
abbrev Gr:=@Nat.le_add_right_of_le
abbrev Gs:=@Nat.lt_succ_self
abbrev Gu:=@List.flatten_cons
abbrev Gv:=@Nat.sub_lt_sub_left
abbrev Gw:=@PyProof.Rows.slot_tuple_getitem
abbrev Gx:=@Nat.mod_eq_of_lt
abbrev Gy:=@Nat.sub_lt_of_lt
abbrev Gz:=@PySem.wpAny_callSpecial?_slot
abbrev GE:=@List.length_eq_zero_iff
abbrev GF:=@Nat.add_lt_of_lt_sub'
abbrev GG:=@List.drop_eq_getElem_cons
abbrev GJ:=@PySem.wpAny_mono
abbrev GQ:=@List.map_map
abbrev GU:=@List.drop_eq_nil_of_le
abbrev GV:=@List.map_take
abbrev GZ:=@List.mem_append_left
abbrev G1:=@Nat.le_of_succ_le
abbrev G2:=@List.pairwise_cons
abbrev G5:=@Nat.sub_le
abbrev G6:=@Nat.pow_pos
abbrev G7:=@PySem.wpAny_holding
abbrev G8:=@PySem.wpAny_field
abbrev G9:=@List.map_drop
abbrev Ha:=@Nat.lt_add_of_pos_right
abbrev Hb:=@Nat.add_le_add_left
abbrev Hc:=@List.getElem_mem
abbrev Hd:=@List.drop_append_of_le_length
abbrev Hf:=@Nat.mod_lt
abbrev Hg:=@List.ext_getElem?
abbrev Hh:=@Nat.pow_add
abbrev Hi:=@List.filter_eq_nil_iff
abbrev Hj:=@Bool.false_eq_true
abbrev Hk:=@List.mem_map
abbrev Hl:=@PyProof.Rows.wpS_forRange
abbrev Hm:=@le_of_eq_of_le
abbrev Hn:=@List.getElem_take
abbrev Hs:=@List.reverse_reverse
abbrev Hu:=@PySem.wpAny_Call_Name_kw
abbrev Hv:=@PySem.F.plain_min_loop
abbrev Hx:=@List.take_zero
abbrev Hy:=@List.drop_zero
abbrev HA:=@PySem.W.kia_one
abbrev HB:=@Nat.xor_assoc
abbrev HC:=@Nat.min_eq_right
abbrev HD:=@PySem.Heap.get?_update_ne
abbrev HE:=@Nat.lt_succ_of_le
abbrev HF:=@Nat.div_add_mod
abbrev HG:=@Nat.add_le_add_iff_left
abbrev HH:=@Nat.lt_irrefl
abbrev HI:=@List.mem_filter
abbrev HJ:=@PySem.F.slot_list_extend
abbrev HK:=@PyProof.Rows.callWith_type1
abbrev HL:=@Nat.succ_pred_eq_of_ne_zero
abbrev HM:=@Nat.sub_one_lt_of_lt
abbrev HN:=@Nat.sub_le_sub_right
abbrev HP:=@Nat.le_sub_one_of_lt
abbrev HQ:=@Array.toList_reverse
abbrev HR:=@PySem.wpAny_call_entry
abbrev HS:=@Nat.succ_le_succ
abbrev HU:=@Nat.succ_pos
abbrev HV:=@PyProof.Rows.wpS_mono
abbrev HW:=@List.getElem?_set_self
abbrev HX:=@Nat.add_lt_add_left
abbrev HY:=@Nat.lt_succ_of_lt
abbrev HZ:=@List.length_range
abbrev Ib:=@Nat.le_succ
abbrev Ic:=@Int.ofNat_sub
abbrev Ie:=@List.getElem_append_right
abbrev Ig:=@Nat.add_zero
abbrev Ih:=@Eq.symm
abbrev Ii:=@Nat.add_sub_self_left
abbrev Ij:=@PySem.wpAny_rule
abbrev Ik:=@List.getElem?_drop
abbrev Il:=@of_decide_eq_false
abbrev Im:=@PySem.F.type_list_extend
abbrev Io:=@Nat.add_mul
abbrev Iq:=@Nat.mul_add
abbrev Ir:=@List.cons_append
abbrev Iu:=@List.count_eq_zero_of_not_mem
abbrev Iv:=@Nat.exists_eq_add_of_le
abbrev Iw:=@PyProof.Rows.boot_isinstance
abbrev Ix:=@Nat.add_comm
abbrev Iy:=@List.drop_left
abbrev Iz:=@List.count_append
abbrev IA:=@PySem.wpAny_newObj_type
abbrev IB:=@PySem.wpAny_truthy_bool
abbrev IC:=@List.getElem_drop
abbrev ID:=@List.sum_append
abbrev IE:=@List.flatten_append
abbrev IF:=@beq_eq_false_iff_ne
abbrev IG:=@PySem.Heap.SameBut.update
abbrev IH:=@List.reverse_append
abbrev II:=@List.length_singleton
abbrev IJ:=@Nat.sub_eq_iff_eq_add
abbrev IK:=@Nat.sub_zero
abbrev IL:=@Int.ofNat_lt
abbrev IM:=@Nat.sub_self
abbrev IN:=@Nat.eq_zero_or_pos
abbrev IP:=@Nat.eq_sub_of_add_eq'
abbrev IQ:=@PySem.sizeLine_eq
abbrev IR:=@Nat.testBit_eq_decide_div_mod_eq
abbrev IS:=@Nat.mul_lt_mul_right
abbrev IT:=@List.foldl_append
abbrev IU:=@List.take_sublist
abbrev IV:=@Int.neg_ofNat_le_natCast
abbrev IW:=@Nat.sub_pos_of_lt
abbrev IX:=@Option.map_some
abbrev IY:=@PySem.wpAny_passesOwn
abbrev IZ:=@List.getElem_append_left
abbrev I0:=@Nat.and_two_pow_sub_one_eq_mod
abbrev Ja:=@Nat.ne_of_gt
abbrev Jb:=@List.getElem?_replicate
abbrev Jc:=@List.sum_cons
abbrev Jd:=@mg_of
abbrev Je:=@List.length_take_le
abbrev Jf:=@PySem.wpAny_attempt
abbrev Jg:=@PySem.W.callWith_K0
abbrev Jh:=@List.length_reverse
abbrev Ji:=@Nat.div_eq_of_lt
abbrev Jj:=@Nat.lt_of_not_le
abbrev Jk:=@Nat.shiftLeft_eq
abbrev Jl:=@List.perm_middle
abbrev Jm:=@PySem.wpAny_isInstance
abbrev Jn:=@List.mem_reverse
abbrev Jo:=@List.mem_range
abbrev Jq:=@List.take_left
abbrev Jr:=@Nat.eq_zero_of_not_pos
abbrev Js:=@Nat.sub_add_cancel
abbrev Jt:=@List.prefix_append
abbrev Ju:=@Nat.zero_mul
abbrev Jv:=@Nat.le_add_left_of_le
abbrev Jw:=@PyProof.Rows.boot_int
abbrev Jx:=@Bool.eq_iff_iff
abbrev Jy:=@PySem.W.methodCall_KW
abbrev Jz:=@Array.getElem?_toList
abbrev JA:=@Nat.lt_trans
abbrev JB:=@List.find?_cons
abbrev JC:=@List.singleton_append
abbrev JD:=@Nat.add_sub_assoc
abbrev JE:=@Nat.mod_two_eq_zero_or_one
abbrev JF:=@List.getElem?_set_ne
abbrev JG:=@List.perm_cons_erase
abbrev JH:=@Nat.eq_sub_of_add_eq
abbrev JI:=@PySem.boot_len
abbrev JJ:=@PySem.Heap.size_push
abbrev JK:=@PySem.wpAny_seqItems
abbrev JL:=@PySem.wpAny_tryCatch
abbrev JM:=@PySem.wpAny_setField
abbrev JN:=@PySem.isSubtype_stop
abbrev JO:=@List.extract_eq_take_drop
abbrev JP:=@if_false
abbrev JQ:=@Bool.and_eq_true
abbrev JS:=@Int.lt_of_not_ge
abbrev JT:=@List.getElem?_range
abbrev JU:=@Int.ofNat_add_ofNat
abbrev JV:=@List.map_congr_left
abbrev JW:=@PySem.wpAny_letGo
abbrev JX:=@Nat.xor_comm
abbrev JY:=@Nat.mul_add_div
abbrev JZ:=@List.count_cons
abbrev J3:=@Nat.pow_succ'
abbrev J4:=@List.count_pos_iff
abbrev J5:=@Nat.pos_of_ne_zero
abbrev J6:=@List.length_nil
abbrev J7:=@List.of_mem_zip
abbrev J8:=@List.cons.inj
abbrev J9:=@PyProof.Rows.listUpdate_at
abbrev Ka:=@PyProof.Rows.get?_update_seq
abbrev Kb:=@PySem.wpAny_execs_nil
abbrev Kc:=@PyProof.Rows.assignInOrder_cons
abbrev Kd:=@PySem.W.callWith_K
abbrev Kf:=@List.nodup_cons
abbrev Kg:=@PySem.tupleKind_room_in1
abbrev Kh:=@PySem.codeAny_builtin
abbrev Ki:=@PySem.slot_listiter_next
abbrev Kj:=@Nat.div_div_eq_div_mul
abbrev Kk:=@Nat.testBit_lt_two_pow
abbrev Kl:=@PyProof.Rows.bitAnd_pp
abbrev Km:=@PyProof.noPylong_small
abbrev Kn:=@Nat.mod_eq_sub_mul_div
abbrev Ko:=@List.length_take_of_le
abbrev Kp:=@PySem.W.cellsFrom_some
abbrev Kq:=@PySem.F.entry_min_loop
abbrev Kr:=@Nat.le_of_succ_le_succ
abbrev Ks:=@List.pairwise_map
abbrev Kt:=@Nat.lt_add_one
abbrev Ku:=@le_of_le_of_eq
abbrev Kv:=@PyProof.Rows.boot_min
abbrev Kw:=@Int.ofNat_add_one_out
abbrev Kx:=@List.length_filter_le
abbrev Ky:=@Nat.lt_of_sub_eq_succ
abbrev Kz:=@Nat.le_of_ble_eq_true
abbrev KA:=@List.mem_of_mem_erase
abbrev KB:=@Nat.add_le_of_le_sub'
abbrev KC:=@Nat.sub_eq_zero_of_le
abbrev KD:=@List.exists_mem_of_length_pos
abbrev KF:=@List.not_mem_nil
abbrev KG:=@List.map_snd_zip
abbrev KH:=@Nat.le_of_not_ge
abbrev KI:=@Nat.mul_le_mul_right
abbrev KJ:=@Nat.div_lt_of_lt_mul
abbrev KL:=@PySem.Around.under_plainId
abbrev KM:=@Array.toList_extract
abbrev KN:=@Int.ofNat_inj
abbrev KO:=@List.take_add
abbrev KP:=@Int.ofNat.inj
abbrev KQ:=@Nat.not_lt_zero
abbrev KR:=@List.filter_map
abbrev KS:=@List.range_succ
abbrev KU:=@List.length_set
abbrev KW:=@Int.natCast_pos
abbrev KY:=@Nat.le_add_left
abbrev KZ:=@List.mem_map_of_mem
abbrev K0:=@List.filterMap_cons
abbrev K1:=@Ne.symm
abbrev K2:=@PySem.W.plainGet_of
abbrev K3:=@PySem.F.slot_enumerate_next
abbrev K4:=@Nat.sub_le_sub_left
abbrev K5:=@Nat.mod_mul_right_div_self
abbrev K6:=@Int.fdiv_eq_ediv_of_nonneg
abbrev K7:=@Nat.le_of_add_le_add_right
abbrev K8:=@Array.toList_setIfInBounds
abbrev K9:=@List.map_nil
abbrev Lb:=@Nat.xor_lt_two_pow
abbrev Lc:=@List.getElem?_take
abbrev Ld:=@Int.ofNat_le
abbrev Lf:=@Int.natAbs_natCast
abbrev Lg:=@Nat.add_sub_cancel
abbrev Lh:=@Nat.sub_right_comm
abbrev Lj:=@Nat.shiftLeft_xor_distrib
abbrev Lk:=@Nat.lt_trichotomy
abbrev Ll:=@Nat.not_lt
abbrev Lm:=@Nat.zero_lt_of_lt
abbrev Ln:=@Nat.le_succ_of_le
abbrev Lo:=@Option.isSome_map
abbrev Lp:=@Nat.mul_left_comm
abbrev Lq:=@Array.toList_push
abbrev Ls:=@List.drop_sublist
abbrev Lu:=@List.perm_nil
abbrev Lv:=@List.filter_cons
abbrev Lw:=@Nat.not_le_of_lt
abbrev Lx:=@List.drop_length
abbrev Ly:=@List.mem_flatMap
abbrev Lz:=@List.getElem_map
abbrev LA:=@Bool.not_eq_true
abbrev LC:=@PySem.W.makes_of
abbrev LD:=@Array.toList_inj
abbrev LF:=@Nat.sub_add_comm
abbrev LG:=@Nat.lt_add_right
abbrev LH:=@Nat.max_eq_right
abbrev LI:=@Nat.mul_add_mod
abbrev LJ:=@Nat.testBit_xor
abbrev LK:=@Nat.ToInt.of_le
abbrev LL:=@List.map_const'
abbrev LM:=@Nat.pow_zero
abbrev LN:=@Nat.le_total
abbrev LO:=@Int.zero_add
abbrev LP:=@Int.le_of_lt
abbrev LQ:=@Bool.false_and
abbrev LS:=@Nat.mod_mul
abbrev LU:=@Eq.trans
set_option bootstrap.genMatcherCode false
set_option linter.all false
abbrev _root_.Jaa:List PySem.Str:=["self"]
abbrev _root_.Jab:List PySem.Str:=["thing","least","most"]
abbrev _root_.Jac:List PySem.Str:=["self","bits","text","before"]
abbrev _root_.Jad:List PySem.Str:=["self","reader","count","before"]
abbrev _root_.Jae:List PySem.Str:=["text","before"]
abbrev _root_.Jaf:List PySem.Str:=["lengths"]
abbrev _root_.Jag:List PySem.Str:=["thing"]
abbrev _root_.Jah:List PySem.Str:=["_law_text_here","_law_start","_law_back","_law_size"]
abbrev _root_.Jai:List PySem.Str:=["size"]
abbrev _root_.Jaj:List PySem.Str:=["row","place","size"]
abbrev _root_.Jak:List PySem.Str:=["_law_spot","_law_way","_law_codes_here","_law_text_here","_law_start"]
abbrev _root_.Jal:List PySem.Str:=["self","row"]
abbrev _root_.Jam:List PySem.Str:=["counts","most"]
abbrev _root_.Jan:List PySem.Str:=["_law_row","_law_text_here","_law_start"]
namespace L2
open PySem
inductive V where
 |non|bl (b:Bool)|int (i:Int)|str (x:Str)|byt (b:Array UInt8)|flt (b:UInt64)|ref (a:LV)|ty (n:String)
 deriving DecidableEq
end L2
namespace W16
open PySem
inductive Pc where
 |sg (s:Nat)
 |cp (b z:Nat)
 deriving DecidableEq
end W16
section
local macro_rules|`(mutual $c* end)=>do
 let A:=``Lean.Parser.Term.app
 let n a:=Lean.mkNullNode a
 let f (m:Lean.NameMap (Array Lean.Name×Lean.Syntax)) (s:Lean.Syntax):=s.rewriteBottomUp λ s=>
  let k:=s.getKind
  if s.isIdent then match m.find? s.getId with|some (#[],b)=>b|_=>s
  else if k==A then
   let a:=s[1].getArgs
   let (h,a):=match m.find? s[0].getId with
    |some (p,b)=>(b.rewriteBottomUp λ t=>if t.isIdent then ((p.zip a).toList.lookup t.getId).getD t else t,a.extract p.size a.size)
    |_=>(s[0],a)
   if a.isEmpty then h else if h.isOfKind A then .node .none A #[h[0],n (h[1].getArgs++a)] else .node .none A #[h,n a]
  else if k==``Lean.Parser.Tactic.show&&s[1].isOfKind ``Lean.Parser.Term.byTactic then .node .none ``Lean.Parser.Tactic.paren #[Lean.mkAtom "(",s[1][1],Lean.mkAtom ")"]
  else if k==``Lean.Parser.Command.universe then .node .none ``Lean.Parser.Command.end #[Lean.mkAtom "end",if s[1][0].getId==`s then n #[] else n #[s[1][0],n #[]]]
  else s
 let m:=((c[0]!.raw.find? (·.isOfKind ``Lean.Parser.Term.matchAlts)).getD .missing)[0].getArgs.foldl (init:={}) λ m t=>
  let p:=t[1][0][0]
  let b:=f m t[3]
  if p.isIdent then m.insert p.getId (#[],b) else m.insert p[0].getId (p[1].getArgs.map (·.getId),b)
 return n ((c.extract 1 c.size).map λ x=>f m x)
mutual
example:=λ
|xta ζ=>.a (.v ζ)
|xaf ζ η θ ι μ ν=>NL.by' ζ η θ ι μ ν rfl
|xeW ζ η=>xta ζ (.n η)
|Sc=>.v 1
|IO=>.v 0
|xbO ζ η θ ι=>by obtain⟨_,_,ζ⟩:=η;obtain⟨_,_,θ⟩:=ι
|Fr=>List Nat
|XL ζ=>some (.lst ζ)
|XV ζ=>(ζ:Int)
|xap ζ=>some (.ref ζ)
|xbP ζ η θ=>upd ζ η (.lst θ)
|WF=>.v 2
|xa4 ζ η=>.a ζ (.n η)
|Id=>some o
|xfx ζ η θ=>NL.of0 ζ η θ rfl
|PP=>pv 0
|UV ζ=>some (vN ζ)
|xf1 ζ η=>.a (.m ζ η)
|Ρ ζ=>(ζ).map vN
|xxa ζ η=>wpAny (model ζ η)
|SB=>Array Keyed
|xae ζ η θ ι μ ν ξ=>xaf ζ η θ ι μ (Ez ν ξ)
|NE=>xeW 0 1
|xmf ζ η=>ao (λ _ ζ=>η)
|xcM ζ=>⟨ζ,rfl⟩
|xtb ζ=>am (i:=ζ)
|xc4 ζ η=>by obtain⟨ζ,rfl⟩:=η
|Ψ ζ η=>⟨ζ,η,?_⟩
|xcw ζ=>aa ζ af
|M2=>List V
|xhs ζ η=>List (ζ×η)
|xkF=>λ _ _=>rfl
|No=>pv 1
|xcN ζ=>ζ≤sizeLine
|Ty=>hr.mono Z9
|xaF ζ η θ=>ab (xtb ζ η θ)
|xaS=>.v 3
|xag=>xta 0
|Pi=>xag Sc
|xdp ζ η θ ι μ=>upd ζ η (.ins θ ι μ)
|xaZ ζ=>.a (.n ζ)
|xkG ζ η θ=>some (.ins ζ η θ)
|xfy ζ η=>aa ζ (xcw η)
|xqr=>λ _ _=>False
|xab ζ=>.inl (Mm.of ζ)
|ST ζ η θ=>y' ζ η (ag θ)
|xxb ζ η=>{cls:=.type ζ,data:=η}
|xdq ζ=>ζ->Prop
|Γ=>.ref a
|xal ζ=>autoParam ζ Z0
|Ps=>pv 2
|xSM=>Option LW
|xf2 ζ η=>⟨ζ,rfl,η⟩
|xbH ζ η θ ι μ ν=>by obtain⟨ζ,η⟩:=θ;obtain⟨ι,μ⟩:=ν
|xbh ζ=>ac (aw ζ)
|xa0=>.ref l
|xcx ζ=>(ζ:Str)
|xii ζ η θ=>C' ζ η θ mg base
|xeX ζ η θ ι μ ν=>NL.J' (xaf ζ η θ ι μ ν)
|P3 ζ η=>λ ζ η=>?_
|W1 ζ η θ=>by rw [ζ] at η;cases θ
|xSN ζ=>Inv ζ L8 σ
|Β=>xeW 1 1
|xbB ζ=>by refine wpS_bind ζ
|xkH ζ=>starEach ζ X.env
|xaV=>xta 1
|xeY ζ=>some (.tup ζ)
|xSO=>congrArg Int.ofNat
|Θ=>List Bool
|Tl=>EK _
|xqs ζ=>eval ζ X.env
|xqt ζ=>(List.range ζ).map
|Φ=>xaV WF
|xbU ζ η θ=>by generalize ζ=η at*;refine θ
|xMn=>model prog
|xqu=>Int.ofNat_le.2
|Os=>Mr Z8
|xbV=>.ref p
|xkI ζ η=>putF ζ (.ref η)
|xmg ζ η θ ι μ ν ξ=>xae ζ η θ ι (.n μ) ν ξ
|xtc=>xal ((backTo pos (starEach es X.env)).any (·.1)=false)
|TD=>pv 3
|xjn ζ η=>(List.replicate ζ η).flatten
|xBw ζ η=>((ζ).drop η).take
|xeA=>X.env.cells.lookup x
|χ=>pv 4
|xbc ζ η θ ι=>if ζ=η then θ else ι
|xX4=>sIx items.size
|xck ζ η θ ι=>by obtain⟨ζ,η⟩:=θ;refine ι
|xSP ζ=>aj (o:=ζ)
|xa1 ζ=>xSP (.lst ζ)
|xij=>xSN X
|xjo ζ=>aE (top ζ)
|Ω ζ η θ=>show ζ=η from θ
|xc5 ζ=>λ ζ=>?_
|xtd ζ=>L.getD ζ 0
|xdr=>ts.map V.ref
|xah ζ=>XL (Ρ ζ)
|Ζ=>aA PP rfl
|τ=>NL.K' _ _
|xeb ζ=>(ai ζ).trans
|xkJ=>T.map vN
|xeZ=>ord κ
|xqv ζ η θ ι=>xij ζ {η with heap:=θ,toks:=ι}
|xca ζ=>Ψ _ ζ
|xcl ζ η θ ι μ=>xaF ζ η θ (ab ι μ)
|xeB ζ η θ=>by obtain⟨ζ,η,rfl⟩:=θ
|xxc ζ=>(bs.drop ζ).take
|xqw=>seqObj "list"
|xf3 ζ η=>ak ζ η ad
|xaO=>List Str
|Δ ζ η θ=>Fn K mg ζ η θ f fd
|xaG ζ=>xa4 ζ 1
|xSQ ζ=>.str (txt ζ)
|xqx ζ η=>ai (ae ζ η)
|xcm ζ η=>(ζ++η).length
|xa2=>xta 2
|xbd ζ η θ ι μ=>by obtain⟨ζ,η,θ⟩:=ι;refine μ
|xeC=>B.map vN
|xeD=>.ref f
|xht=>xeW 2 1
|xam ζ=>xii P w K Mq ζ f fd
|xte ζ η=>s.heap.get? ζ=η
|xmh ζ=>.m ζ Sc
|xaq ζ η=>by exact absurd ζ η
|xe0 ζ η=>(ae ζ η).symm
|xcO ζ η θ ι=>ay ζ η θ (xcw ι)
|xGI ζ=>ax (j:=ζ)
|xGJ ζ η=>s.heap.push (xxb ζ η)
|xik ζ η θ ι=>xbc (xcx ζ) η θ ι
|xjp ζ=>some (XV ζ)
|xdJ ζ η θ=>upd ζ η (.tup θ)
|xe1 ζ η=>putF ζ (vN η)
|xbW=>MM κ
|xoe ζ η θ=>by(rcases Fa.mp ζ with η|θ)
|xbp ζ η θ ι μ=>by obtain⟨ζ,η,θ⟩:=ι;exact μ
|xec=>.inl rfl
|xBx ζ=>Binds ζ fd
|xed=>.n 0
|xbq ζ η θ ι μ ν=>by obtain⟨ζ,η,θ,ι⟩:=μ;exact ν
|xfz=>s1.trans s2
|xfA=>λ _=>?_
|xds ζ η=>(ζ).lookup (xcx η)
|xdK ζ=>.int ζ t
|xcP ζ=>Q ζ H'
|xqy ζ=>aT (xc5 ζ)
|xf4 ζ η=>λ ζ=>decide η
|xMo=>xxa X.prog X.w
|xav=>List LV
|xof=>Int.ofNat_lt.2
|xog=>xij H
|xgz ζ η θ=>xbP ζ η (Ρ θ)
|xoh ζ η=>ao (P3 ζ η)
|π ζ η θ=>by rw [ζ] at η;exact θ
|xmi ζ=>{s with heap:=ζ}
|xee ζ η=>⟨ζ,η,rfl⟩
|xoi=>S.map vN
|xjq=>aG X.len
|LT ζ=>XV (ζ:Nat)
|xaw=>some v
|xtf ζ η θ ι μ=>by obtain⟨ζ,η,θ,ι,μ⟩:=z9
|xef=>Mf H
|xil=>K30.C.bt R
|xjr=>kf κ
|xgA ζ η θ ι μ ν=>by show xbO ζ η θ ι;obtain⟨_,_,μ⟩:=ν
|xdL=>.v 4
|xc6=>Option Int
|xxd ζ=>autoParam ζ ZZ
|xGK ζ=>instObj ζ s.heap.objs.size
|xgB ζ=>⟨rfl,ζ⟩
|xe2=>xdq Hp
|xGL=>s.heap.push emptyDict
|xaR=>xaV IO
|xBy=>List.replicate n
|xai=>E5 rfl
|xar=>PE X
|xbQ ζ η=>∀b∈ζ,η
|xdM ζ η θ ι μ=>thn ζ (λ η θ ι=>μ)
|xmj ζ η θ=>λ ζ=>absurd η θ
|Κ=>xef H'
|ρ ζ η=>by refine ζ;refine η
|xax ζ η=>by show ρ (xca ζ) η
|xaW=>List Bd
|Μ ζ=>ζ=false
|xfB=>Value.ref a
|xf5=>some .local
|xkK=>congrArg List.length
|xtg ζ η=>aK ζ η rfl
|xkL=>W13.puts It
|xa5 ζ η θ=>aq ζ η θ (ar _)
|xgC=>R.map vN
|SZ=>xog s
|xa3=>List LW
|xSR ζ=>aN (i:=ζ)
|xbC ζ=>ζ≤1000
|xf6=>SG.kf SG.kInt
|xaA=>xmh 8
|Η=>xhs LV L6
|xim ζ η θ ι μ ν=>xaf ζ η (.n θ) ι μ ν
|xas=>some x
|xqz=>X.env.scope.names.lookup x
|xjs=>cdAt L
|xxe ζ=>xGI ζ rfl
|xoj=>.ref it
|xgD=>.ref C
|xfC ζ η=>xkG ζ dx η
|xdN ζ=>(ET.mp ζ).1
|xbr ζ=>Mj ζ _
|Ξ ζ=>ζ.2.1
|xBz=>kv.toArray.zip its.toArray
|xGM ζ η=>IG ζ η (Obj.mapFields (·.setIfInBounds 0 Value.none))
|xgE=>EC this.symm
|xxf=>Int.ofNat_lt.1
|xcQ ζ η θ ι μ=>ay ζ η θ (xfy ι μ)
|xc7=>xa2 xaS
|xbX ζ η θ=>by(rcases EX.mp ζ with η|θ)
|xgF ζ=>P.length+ζ
|xaP=>some u
|xGN ζ=>RelV ζ u
|xcb ζ η θ ι=>by obtain⟨ζ,η⟩:=θ;exact ι
|xGO ζ=>(pendingOf ζ).size
|xaH=>.n 1
|xok=>.ref s.heap.objs.size
|xin ζ η θ=>aa ζ (xfy η θ)
|xbe ζ=>xa1 (Ρ ζ)
|xaa=>g1 _ _ ?_
|xjt=>xMo X.A
|xqA=>arrOf sq0
|xkM ζ=>Md ζ Rb.length
|xcy ζ η=>(ζ).length≤η
|xbi=>xta 3
|xaI ζ η=>(ζ).length=η
|xfD ζ η=>by refine ζ;clear η
|xol ζ η θ=>by show xfD (xmf ζ η) θ
|xcz ζ=>some (xdK ζ)
|xth ζ η=>scope.names.lookup ζ=η
|xcA ζ η θ=>xbc ζ true η θ
|xxg=>xcP .non
|xc8 ζ η θ=>⟨ζ,η,rfl,θ⟩
|xgG ζ η θ=>⟨_,ζ,η,θ⟩
|xio ζ=>some (.int ζ)
|Τ=>[_]
|xX5=>HT.sIx xs.length
|xti=>W.map vN
|xX6 ζ=>.str (Str.ofString ζ)
|xhu=>xcx "__debug__"
|xom ζ=>some (.builtin ζ)
|xa6 ζ η θ ι μ=>xcl ζ η θ ι (xbh μ)
|xc9 ζ η=>xqy ζ (xc5 η)
|xkN ζ=>.m ζ WF
|xgH ζ=>.m ζ IO
|xGP=>NoAttr K
|xxh ζ η=>by show π ζ this η
|xda=>h'.get? b
|xip=>ns.map V.int
|xkO ζ=>["self",ζ]
|xxi ζ η=>ab (xtg ζ η)
|xbI ζ η θ ι=>⟨ζ,η,rfl,θ,ι⟩
|Wp ζ η θ=>∃f fd,Δ ζ η θ
|xkP=>xcM rfl
|xiq ζ η θ ι=>GJ ζ η (λ _ _ θ=>ι)
|xju ζ=>⟨Z9,ζ⟩
|xon=>.int 0
|xa7=>some c
|xcR=>s1 _ _
|xdb=>tots ps
|xa9=>pv 5
|xqB ζ η θ ι=>by generalize ζ=η at*;generalize θ=ι at*
|xf7 ζ η=>xjt ζ η X.xe
|xdt ζ η=>decide (ζ=η)
|xan=>Fc _
|xfE ζ=>by exact False.elim ζ
|xkQ=>I.hok.fresh Tl
|xtj ζ=>xhs Str ζ
|xcB=>xag WF
|xbJ ζ η θ=>Ez ζ (Ez η θ)
|xoo ζ η θ ι=>by obtain⟨its,ζ,η,θ⟩:=ι
|xat=>xcP xa0
|xir ζ=>xf1 8 ζ
|xaJ ζ=>xf2 _ ζ
|xtk ζ=>X.s₀.heap.objs.size≤ζ
|xqC ζ η θ=>(ζ.2 η θ).trans
|xop=>K w.params
|xb1=>xag Β
|xMp ζ=>Obj.mapSeq (λ _=>ζ)
|xe3 ζ=>xbQ ζ (b<256)
|xb2=>List α
|xoq=>Option Nat
|xor ζ=>S.length+ζ
|xbf=>xhs Nat Nat
|xdu=>Option V
|xxj=>xs.toList.drop i
|xbK=>xkN 8
|xdO ζ=>ζ≤S.length
|xtl=>ag st
|xcc=>xa2 Sc
|xis=>List Keyed
|xgI=>le_trans xeZ
|xcS=>I.tok _
|xtm=>bt R
|xeE ζ η θ ι μ=>by obtain⟨ζ,η,rfl,θ,ι⟩:=μ
|xBA ζ=>(B.take ζ).drop
|xX7=>List.getElem?_eq_some_iff.1
|xbv=>ak aB
|xcn=>.ref x
|xf8=>some .cell
|xos=>FM.mp z
|xxk=>P'.take i
|xxl ζ=>ζ≤xs.length
|xGQ ζ=>ζ≠X.env.locals
|xMq=>.seq its.toArray
|xco=>pv 6
|xSS=>xcx "whole_bytes"
|xqD ζ η=>K.lookup ζ=η
|xqE ζ η θ=>by obtain⟨ζ,rfl,η⟩:=θ
|xeg=>h.get? b
|xGR=>aY st
|xhv ζ=>.a (xeW ζ 1)
|xdc ζ η θ ι μ ν ξ=>⟨ζ,η,θ,ι,rfl,μ,ν,ξ⟩
|Uf ζ η=>by rw [ζ];refine η
|xBB ζ=>xxb "list" ζ
|xbw ζ η θ=>aD (v:=.int ζ) Z7 η (xcM θ)
|Ο=>8*R.length
|xe4=>upd H
|xeh=>s.heap.objs.size+1
|xdv ζ η θ ι μ ν ξ=>NL.P0 ζ η θ ι μ ν ξ rfl
|xhw=>Mv.refl _
|xaB=>g _ _ ?_
|xay=>XV n
|xei ζ η=>.inr ⟨ζ,η⟩
|xeF=>xaG Pi
|xit=>X.take n
|xbD=>Fn K mg
|xbR ζ=>⟨_,ζ⟩
|xBC=>Nat.sub_eq_zero_iff_le.1
|xcp=>most S p
|xiu=>bs.drop p
|xeG=>xju Z9
|LE ζ η=>by rw [ζ];exact η
|υ ζ η=>by show LE (ai ζ) η
|xjv ζ η θ=>by show LE (xqx ζ η) θ
|xxm ζ η=>(OQ.heap.update ζ η).get?
|xBD=>fP co
|xb3 ζ η θ ι=>by subst ζ;show W1 η θ ι
|xhx ζ η θ=>ac (xtb ζ η θ)
|xhy ζ η θ=>xdM ζ η θ z9 ?_
|xej ζ=>ab (aC ζ)
|xcq=>.int i
|xxn ζ=>fO ζ S.length
|xf9=>xdq SortSt
|xdd ζ=>xmf g1 ζ
|xtn ζ η=>some (.frz ζ η)
|Tm ζ η=>ζ=some η
|xbS ζ η θ=>Tm ζ[η]? θ
|xjw ζ η=>Tm (H ζ) η
|xqF ζ η=>Tm (s'.heap.get? ζ) η
|xgJ ζ=>xam ζ Jaa
|xMr=>Nat.not_lt.1
|xqG ζ=>Vals ζ us
|xaT ζ=>by show LE EA ζ
|xBE ζ η=>Tm (h.get? ζ) η
|xGS ζ=>ζ<sizeLine
|xjx=>xGS ys.length
|xga ζ=>occ ζ p
|xgK ζ η θ=>by show xc4 ζ η;exact θ
|xdP ζ=>xaZ ζ IO
|xcd ζ=>c≠ζ
|xmk ζ=>(EX.mp ζ).elim
|xe5=>‹_›
|xBF=>aG T.len
|xMs=>Mv blt
|xqH ζ η θ=>by show xeB ζ η (FQ.mp θ)
|xxo ζ=>Q (.bl ζ)
|xdw ζ η=>xbP ζ l η
|xX8 ζ=>xGJ "list_iterator" (.fields ζ)
|xcr ζ η θ=>by refine ζ;show Uf η θ
|xaX=>kp _ _
|xgL ζ=>ζ≤B.length
|xMt ζ=>A'.length+ζ
|xiv=>xMt M.length
|xml ζ η=>xaG (xa4 ζ η)
|xdQ=>xa2 IO
|xmm ζ=>XV (ζ).length
|xdR=>xaG xed
|xbx ζ η θ ι=>by(rcases FJ ζ η with θ|ι)
|xxp ζ=>tots (puts ζ)
|xto=>sc.names.lookup x
|xX9 ζ=>λ _ _ _ _ _ _ _ q=>ζ
|xmn ζ=>ζ<L.length
|xqI=>eqv blt
|xYa=>List.replicate L.length
|xdS=>["row"]
|xde ζ=>⟨ζ,?_⟩
|xgb ζ η θ=>by have:=ζ;show xxh η θ
|xot=>.dK Mn
|xgM ζ η θ ι μ=>by refine ζ;obtain⟨η,θ,ι⟩:=μ
|xmo ζ=>ζ<xs.length
|xhz ζ=>ζ≤bs.length
|xMu=>I1.hok.fresh Tl
|xhA=>λ _=>rfl
|xmp=>EC hl.symm
|xGT=>L.map vN
|xfF=>.v 5
|xtp ζ η=>ST ζ Jaa η
|xe6 ζ η=>by show xoe ζ rfl η
|xjy ζ η θ ι μ ν=>xSO (ED (xfx ζ η θ) (xfx ι μ ν))
|xkR=>EC e.symm
|xjz ζ=>by show ζ;decide
|xe7 ζ=>by show xjz (xcN ζ)
|xcT ζ=>xeW 0 ζ
|xfG ζ η θ ι μ ν ξ=>by obtain⟨ζ,η,θ,ι,μ⟩:=ν;exact ξ
|Υ=>by intro z;cases z
|xek=>V.int 0
|xcU=>XV 0
|xdf ζ=>.a ζ Sc
|xou ζ η=>List.replicate (ζ+η)
|xce ζ η=>Ω ζ η rfl
|Ε ζ η θ=>λ ζ η θ=>?_
|xgN ζ η=>xte ζ (some η)
|xBG ζ η=>congrArg (λ ζ=>η)
|xfH=>xag xaS
|xeH=>xaG NE
|xqJ=>aS xaB
|xdT=>EJ rfl
|xYb=>((s.heap.push (seqObj "list" #[] 0)).update s.heap.objs.size (Obj.mapSeq (·++its.toArray))).push
|xtq ζ=>(Qs.take ζ).count
|xjA=>["reader"]
|xjB=>none_of s1
|xbE=>xSQ bs
|xac ζ=>ζ=none
|Χ ζ=>xac (H ζ)
|Ι=>Χ l
|xjC=>E1 ?_
|xiw ζ=>ζ<S.length
|xmq ζ=>L.length≤ζ
|xBH ζ=>S.length<ζ
|xix ζ=>xf1 2 ζ
|xmr ζ=>(ζ).Pairwise xbW
|xxq ζ η=>by show ρ (EG ζ) η
|xaz=>H' l
|xST ζ=>Walk ζ W.length
|xkS ζ η θ ι=>Due ζ η (.thing θ ι)
|xms=>X.env.qual++"<lambda>"
|SL ζ=>ζ=true
|Ν ζ=>1≤ζ
|xhB ζ=>xs.length-ζ
|xMv=>KK κ
|xfI=>pairs B
|xSU ζ=>xkI "signs_check" ζ
|xdx ζ=>xfC C ζ
|xmt ζ η=>xac ((ζ).lookup η)
|xaC=>p.1
|xe8=>aQ af
|xcC ζ=>by show xfD ζ g1
|xhC=>cn Q
|xxr ζ=>ζ≠s.heap.objs.size
|xiy=>Option LV
|xMw ζ=>W.length≤ζ
|xBI ζ=>X.length-ζ
|xel ζ=>.a ζ WF
|xov=>xor T.length
|xba ζ η=>by rw [<-ζ];exact η
|xe9 ζ η θ ι=>λ ζ η=>absurd θ ι
|xgO=>List Env
|xfa=>List Pc
|xow=>xcN xs.length
|xGU=>xqt C.length
|xaK ζ η θ ι=>by have ζ:=η;rw [θ] at ι
|xmu=>chk 16 45
|xaD=>xcd p
|xtr ζ=>call (.builtin ζ)
|xts ζ=>(L.take ζ).count
|xgc ζ=>⟨dx,ζ⟩
|xBJ ζ=>.int (kf ζ)
|xxs ζ η θ=>SL (codeIn ζ η θ)
|xBK=>Nat.not_lt.2
|xBL ζ=>(List.range ζ).filter
|xkT=>["before"]
|xgP=>kf x
|xkU=>none_of s0
|xkV=>G.map vN
|xcD ζ=>xf3 aB ζ
|xgQ ζ η θ ι μ ν ξ=>xmg ζ (xaV η) θ ι μ ν ξ
|xcs=>xcR e
|xao ζ η=>by refine F.ok ζ η;intro _
|UF=>H a
|xfJ=>xag Φ
|xBM ζ η θ=>cutV ζ η (some θ)
|xtt=>.bool true
|xqK=>B.take i
|xxt=>R.take i
|xaQ=>xap a
|xgR=>.ref t
|xb4=>LT n
|xdU=>.n 3
|xaL ζ η θ=>MF K ζ η θ f fd
|xbb=>s5 _ _
|xdV=>Fk e
|xBN=>standAt apos.atName
|xbT=>xoh R1 g1
|xxu=>Int.ofNat_inj.1
|xGV=>pf false
|xfb=>ak a8
|xBO ζ η=>(xs.extract ζ η).toList
|xBP=>IsCode L
|xtu=>C9.cdAt L
|xBQ ζ η θ ι=>by obtain⟨_,ζ⟩:=η;obtain⟨_,θ⟩:=ι
|xGW=>run a
|xtv=>xMv xs
|xbY ζ η θ ι=>⟨ζ,η,θ,rfl,ι⟩
|xBR ζ=>.seq (ζ).toArray
|xkW ζ η θ ι=>aR ζ η θ (aO ι)
|xMx ζ η=>xxb ζ (.fields η)
|xhD=>L.map (sgl wt)
|xmv ζ η=>xfx Τ ζ η
|xMy=>.builtin "object.__class__"
|xkX ζ=>SL (ζ).isSome
|xYc ζ=>wpAny _ X.A.in1 ζ _ _
|xmw=>Rb.map vN
|xjD=>EQ _
|xSV ζ=>tots (pP ζ)
|xjE ζ=>.ref (os ζ)
|xgS ζ η θ ι μ ν=>bh ζ η θ ι μ (xcw ν)
|xjF ζ=>xSP (.tup ζ)
|xem=>xgH 8
|xxv ζ=>two (xmu ζ)
|xGX=>["_law_spot","_law_codes_here"]
|xby ζ=>Nat->ζ
|xbz=>xby Nat
|xox=>K.In s.heap
|xcf=>XL xkJ
|xMz ζ=>λ _ _ z=>ζ
|xjG ζ η=>by show LE (Fm.mp ζ) η
|xfK ζ η=>decide (ζ<η)
|xmx ζ η=>λ _ ζ=>nomatch η
|xaY=>H' c
|xiz=>.dT []
|xkY ζ=>bD (C:=ζ)
|xtw=>Y.map vN
|xSW=>List.mem_append.1
|xqL=>["_law_row"]
|xgd=>List Fr
|xtx=>xaZ 1000
|xa8 ζ=>by exact .inl ζ
|xdy ζ=>⟨_,rfl,rfl,_,rfl,ζ⟩
|xhE ζ=>ζ<X.length
|xxw ζ=>ζ<s.heap.objs.size
|xdW ζ=>xtp Jaa ζ
|xty ζ η θ ι μ=>by obtain⟨ζ,η⟩:∃θ,ι:=μ
|xoy ζ=>κ.blt (xtv ζ)
|xqM ζ=>b8 (bL ζ)
|xmy ζ=>(Ic ζ).symm
|xeI=>OU κ
|xqN ζ=>some (V.ref ζ)
|xeJ=>xmh 2
|xau ζ η=>by refine F.F.ok ζ η;intro _
|xGY ζ η=>aP (FM.mpr ζ) (Fh η)
|xaM ζ η=>xbS ζ i η
|xkZ ζ η=>xf1 ζ (.n η)
|xb5=>EL h
|xBS=>tail.drop m
|xmz=>xmi h'
|xgf ζ=>xxd (Μ ζ)
|xgT=>xbi xdL
|xen ζ η θ=>⟨ζ,P3 η θ⟩
|xtz ζ η θ=>by obtain⟨_,_,_,ζ⟩:=η;exact θ
|xk0 ζ η=>xhy ζ η s1
|xBT=>b.toList.drop ib
|xbj=>nB T
|xeK=>tl T
|xSX ζ=>xe1 "blocks" ζ
|xeo ζ=>xxi PP ζ
|xk1 ζ η θ=>Tm ((ζ).get? η) θ
|xjH ζ η θ ι=>by refine ζ;obtain⟨η,θ⟩:=ι
|xGZ=>D.nx σ
|xtA ζ η θ ι=>codeAny ζ η (.call θ ι)
|xmA ζ=>.cons ζ .nil
|xmB ζ=>EW ζ e1.symm
|xMA=>SM.Mv SG.kInt.blt
|xgg=>.a xht
|xdg ζ η θ ι μ=>by have ζ:η:=θ;generalize ι=μ at*
|xG0 ζ=>Ω false true ζ
|xb6 ζ η=>∀x∈ζ,η
|xmC=>EU _
|xG1=>.dT Mn
|xoz=>ai Pj.symm
|xfc=>xcT 3
|xgU=>G6 Z9
|xqO ζ=>(ζ,.local)
|xoA ζ=>.m ζ xaS
|xqP ζ=>ac (aC ζ)
|xhF ζ=>xac (H1 ζ)
|xBU ζ=>W.length+ζ
|xtB ζ=>wpAny _ _ ζ _ _
|xgh=>xGW L
|xBV ζ=>ζ=ps.length
|xMB=>Builtin.Tuple.tupleExact _
|xBW=>O6 κ
|xmD=>by simpa using this
|xtC=>bY Mn
|xtD ζ=>W13.M5 ζ It
|xoB=>["number"]
|xep=>nb A'
|xdh=>xta 4
|xbs=>xcM _
|xhG=>xaV xht
|xqQ=>xcx "blocks"
|xqR=>xcx "course"
|xqS=>xbC T.length
|xbg=>xbr 1
|xb7=>q.2
|xxx=>xor T'.length
|xmE=>xMs kf
|xxy=>xac X.A.handled
|xBX=>["_law_spot","_law_size"]
|xBY=>L.drop xgh
|xcg=>s2 _ _
|xct=>ML _ _
|xdi ζ=>by show xjz (ζ<1000)
|xoC ζ=>⟨ζ,[]⟩
|xMC ζ=>T.length≤ζ
|xmF ζ=>B.length≤ζ
|xcu=>2*L.length
|xiA=>by simpa using hb
|xtE ζ η=>fq ζ (.builtin η)
|xG2=>λ _=>none
|xBZ ζ η θ ι=>holding ζ (getMethod η θ ι)
|xxz ζ=>tots (pcP ζ)
|xB0=>pendingOf sq0
|xB1 ζ=>ζ+As.flatten.length
|xtF=>List W13.Itm
|xB2 ζ=>st.heap.objs.size+ζ
|xB3=>B.take 3
|xxA=>.type "list"
|xbk=>[xbV]
|xhH ζ η=>decide (ζ≤η)
|xMD ζ η=>Builtin.Range.rangeSize ζ (LT η)
|xfL=>xdP 1
|xfM ζ=>xf1 ζ WF
|xmG ζ=>At κ ζ pe
|xtG=>xBV vs.length
|xbZ=>s3 _ _
|xtH=>["thing","most"]
|xME=>Nat.lt_sub_iff_add_lt'.2
|xG3 ζ=>Rs.flatten++ζ
|xtI ζ η=>L.filter (xf4 ζ η)
|ω=>H c
|xbt=>q.1
|xmH ζ=>tots (pR ζ)
|xtJ ζ η θ ι=>by obtain⟨⟨ζ,η⟩,hC,θ⟩:=ι
|xcv=>XV 1
|xbL=>[Γ]
|xoD=>txt bs
|xfN ζ η θ ι μ=>xim Τ ζ η θ (.n ι) μ
|xmI ζ η θ=>Tm (findIn ζ xgD η) θ
|xk2 ζ η=>EH ζ (EC η)
|xgV ζ η=>Ez ζ (EC η)
|xqT ζ=>xac (X.mg ζ)
|xxB=>["before","most"]
|xmJ=>xxa prog w A
|xSY ζ=>ζ==sysModules
|xgW ζ η θ ι μ ν=>by obtain⟨ζ,η,θ,ι,μ,ν⟩:=h
|xYd=>xa1 ((Z'.map (λ z:LV×Bd=>(((z.2.1:Nat):Int),V.ref z.1))).map (·.2))
|xoE=>xbi WF
|xfd ζ=>(xe3 ζ)
|xoF ζ η θ ι μ ν=>⟨ζ,rfl,η,θ,ι,μ,ν⟩
|xoG ζ=>none_of ζ nl
|xB4 ζ=>h1.push (seqObj "tuple" its.toArray ζ)
|xmK ζ=>xby (xby ζ)
|xbu ζ η=>⟨_,ζ,η⟩
|xxC=>congrArg some
|xtK=>kv.zip its
|xk3=>List Itm
|xgi=>pv 7
|xqU ζ η=>(dig ζ η).take
|xxD=>four T.length
|xtL ζ η θ ι=>by have ζ:=η;obtain⟨_,_,θ⟩:=ι
|xtM ζ=>by show xbB ζ;dsimp only
|xdz=>ak aU
|xjI=>xgH 2
|xiB=>xix IO
|xbM ζ=>ζ.2.2
|xqV ζ=>Ξ (xbM ζ)
|xhI ζ=>I.hok ζ _
|xB5=>xcx "many_signs"
|xjJ=>xgB ?_
|xtN=>xkO "size"
|xB6 ζ=>List.replicate ζ a
|xgj ζ η=>by show xxq ζ (EG η)
|xmL ζ=>ζ≤L.length
|xeq ζ=>by show xjz (xcU<ζ)
|xcV=>vN s
|xdj ζ=>EF ζ Z9
|xG4=>["_law_text_here"]
|xoH ζ η θ ι=>by obtain⟨ζ,η⟩:=θ;cases ι
|Α=>Str->xSM
|xk4 ζ=>xf3 bi ζ
|xk5 ζ=>ζ->xdq LX
|xad=>xk5 LW
|xdX ζ η θ ι=>(NL.no ζ η θ ι rfl).elim
|xqW=>(xqA).toList
|xdA=>8*B.length
|xqX ζ=>aJ bx ζ ad xkF
|xcW ζ η θ ι=>xik ζ η _ (θ::ι)
|xxE ζ=>xac (failedOf ζ)
|xqY=>aZ I q
|xdY=>xqY Z6
|xcE=>s6 _ _
|xG5 ζ=>Heap.SameBut ζ s.heap
|xxF=>Cls K
|xdZ=>XL xs
|xtO=>xtj NameKind
|xtP ζ η=>Tm (h'.get? ζ) η
|xk6 ζ=>xac (mg ζ)
|xB7=>xBD wt bg
|xiC=>xB7 fn
|xSZ ζ=>ζ==Value.none
|xxG ζ=>xSZ (Value.ref ζ)
|xG6 ζ η=>.BoolOp ζ η pos
|xxH ζ η=>.Subscript ζ η pos
|xmM ζ=>(false,xqs ζ)
|xG7=>a.toList.drop ia
|xgX=>.ref o
|xfe ζ η θ ι μ ν=>ay ζ η θ (xin ι μ ν)
|xbN=>Txt K mg
|xcF ζ=>ζ≠p
|xqZ=>S.pos xhC
|xmN ζ η=>cutV ζ (xjp η)
|xk7 ζ=>.cons ζ ih
|xMF=>.type "StopIteration"
|xgY ζ η θ=>by show xax ζ η;refine θ
|xbA ζ=>xmf g ζ
|xgZ ζ=>xf1 64 ζ
|xB8=>bootBuiltins x
|xG8=>congrArg Nat.succ
|xB9=>congrArg V.int
|xCa=>QH Tb
|xCb=>bindName X.env
|xxI=>xcN Mn.length
|xxJ=>xca rfl
|xoI ζ η θ ι μ ν=>by show xol ζ η θ;show xol ι μ ν
|xCc=>.Name x
|xg0 ζ η θ=>a9 EY rfl ζ (xSR η θ)
|xS0=>MY CO CK
|xG9 ζ=>s.heap.objs.size≤ζ
|xxK ζ=>ζ=its.length
|xiD ζ=>xa4 ζ 8
|xq0 ζ=>LT (ζ).length
|xgk ζ η θ=>by refine ζ;show LE η θ
|xiE ζ=>xtB ζ s
|xb0=>h.1
|xtQ=>.error e
|xmO=>cw C
|xHa=>Str.ofString ""
|xer=>XV i
|xeL=>xap f
|xYe=>xal ((backTo pos (starEach (e:: []) X.env)).any (·.1)=false)
|xHb ζ η=>Μ (behindInMarks ζ η)
|xq1=>xxf this
|xxL ζ=>A.under (.builtin "type.__call__" ζ)
|xtR ζ η=>xml (xag ζ) η
|xfO=>St->xe2
|xff ζ=>xaZ ζ Sc
|xCd ζ=>V.int.inj (EL ζ)
|xd0=>xjD e
|xk8 ζ=>ζ<a.size
|xeM=>XL ys
|xCe ζ=>aQ (xcw ζ)
|xhJ ζ η θ=>(ζ).map (λ η=>θ)
|xS1 ζ=>Builtin.Str.strSliceIndices (xjp ζ)
|xjK ζ=>xca (xbh ζ)
|xtS=>xbi IO
|xxM ζ η=>xcM ⟨ζ,.inr η⟩
|xk9=>xdy xqJ
|xCf=>["_law_cell","_law_k"]
|xcG=>vN n
|xMG=>.fields vs
|xeN=>H' b
|xd1=>Fu _
|xiF=>FG _ _
|xla=>sgl wt
|xS2=>pyNext xoj
|xxN=>xkO "text"
|xq2 ζ η=>aJ aI ζ η xkF
|xq3=>SL X.calm
|xxO=>.bl false
|xlb ζ η θ=>∀ζ∈η,xBW θ
|xg1=>Fw _ rfl
|xxP ζ η=>xmI ζ "__init__" η
|xhK=>sm _ _
|xxQ ζ=>autoParam ζ ZX
|xxR ζ=>HA ζ I.kIn
|xxS ζ=>Mj ζ X.A
|xCg=>List.lookup x
|xq4=>.sg s
|xtT=>aj nl
|xYf=>Nat.not_le.1
|xCh=>putK Mn
|xCi=>Value.ref b
|xHc=>List Key
|xoJ=>List Int
|xlc=>rl T
|xCj ζ η θ ι μ=>by obtain⟨ζ,η⟩:=θ;dsimp only at ι μ
|xxT ζ η=>B.take (max ζ η)
|xoK=>Array xSM
|xoL=>.ref e
|xHd=>(xil).drop
|xdB ζ η=>λ ζ η=>xaa
|xiG=>.n 8
|xxU ζ η=>SL (makesIn ζ η)
|xYg=>PD κ left key arr
|xCk ζ=>(xX8 ζ).objs.size
|xCl=>arrOf st'
|xg2 ζ η=>(ζ,V.ref η)
|xhL ζ=>ζ<xs.size
|xxV ζ=>Gq (EC ζ)
|xjL ζ η=>κ.blt (xjr ζ) (xjr η)
|xg3 ζ η θ ι μ=>ac (aF (xa5 ζ η θ) (ac ι) μ)
|xld ζ=>EF (EC ζ)
|xiH ζ=>LT (ζ+1)
|xxW ζ η=>(cpy ζ b η).length
|xaU ζ=>ζ[i]?
|xfg=>xaU xs
|xes=>Fg _ _
|xHe=>AllBare s'.gens
|xiI=>.int j
|xq5=>E6 _
|xq6 ζ=>ζ=xs.length
|xMH=>putF f
|xYh=>s.heap.update a
|xtU ζ η=>["self",ζ,η]
|xq7=>X.drop m
|xiJ=>krf 12
|xiK=>Good L
|xMI ζ=>congrArg (List.take ζ)
|xS3=>.builtin "object.__init__"
|xMJ ζ=>aJ aI ζ ad xkF
|xle=>xMJ PP
|xjM ζ η=>ab ζ (xbh η)
|xmP=>xBF PP
|xhM ζ η=>by show xgb ζ η this
|xmQ=>xdf NE
|xiL=>256^B.length
|xiM=>L.length=272
|xxX=>xgG _ xqr xqr
|xmR=>xiD NE
|xCm ζ=>aF ζ (ac aM) az
|xaN=>H b
|xMK=>s.heap.IsSliceOf sl
|xtV ζ=>(ζ).map V.ref
|xtW=>MA κ
|xq8 ζ=>by simpa [EE] using ζ
|xfP=>kv.1
|xmS ζ=>NQ ζ H
|xfQ=>XL xeC
|xoM=>.a NE
|xmT=>List L5
|xML ζ=>I1.kept (t':=ζ)
|xfR=>Fz _ _
|xhN=>far p
|xoN=>fW d
|xq9=>MT.of ht
|xMM=>rel.val k
|xjN=>pv 8
|xxY=>Y.drop pl
|xCn=>xcx "waiting"
|xcH=>K30.Txt K mg
|xS4 ζ η=>.Call (.Attribute ζ η apos)
|xcI ζ η θ ι μ=>xae ζ η θ IO Sc ι μ
|xcJ=>Ν b
|xCo=>xMz z
|xS5=>MS X L8
|xHf=>["singles","most"]
|xeO ζ η θ ι μ=>⟨ζ,η,θ,rfl,ι,μ⟩
|xbl ζ η θ ι μ ν ξ=>(xmg ζ η θ ι μ ν ξ)
|xxZ ζ=>Value.int ζ t
|xtX=>.ref c'
|xYi ζ=>congrArg (List.map ζ)
|xx0=>["_law_row","_law_wide"]
|xoO ζ=>xf3 bA ζ
|xMN=>(xfz).trans
|xmU ζ=>xfy ζ ad
|xtY=>xX6 "copy"
|xCp ζ=>xbQ fp ζ
|xra ζ η=>xe4 ζ (.own η)
|xrb ζ η=>xjw ζ (.own η)
|xeP ζ η θ ι μ ν ξ=>by obtain⟨ζ,η,θ⟩:=ι;have μ:ν:=ξ
|xMO ζ=>ζ+Y.length
|xtZ=>xMO X.length
|xt0=>bitsP ps
|xoP=>bq EY
|xiN ζ η θ ι μ ν ξ=>by obtain⟨ζ,η,θ,ι,μ,ν,ξ⟩:=h
|xx1=>S.take p
|xx2=>IL.mp this
|xmV ζ=>ax (dE ζ)
|xHg ζ η=>xs.toList.take (ζ+η)
|xx3=>["bundle"]
|xHh=>us.map V.ref
|xHi=>.type "tuple"
|xCq ζ=>notedBy (xMn ζ)
|xjO=>.ref r
|xmW ζ=>xtd (th ζ)
|xHj=>xqw its.toArray
|xmX=>ae e
|xd2 ζ η θ=>xcO ζ hr η θ
|xmY ζ η θ ι μ=>by obtain⟨ζ,η,θ,ι⟩:=id μ
|xmZ ζ=>xcP (vN ζ)
|xgl=>XL xoi
|xgm=>xir WF
|xjP ζ η θ ι μ ν=>by obtain⟨ζ,η,θ⟩:=ι;have μ:=ν
|xfS ζ η=>xbP H ζ η
|xx4=>model X.prog X.w
|xfT ζ η θ=>(if ζ then η else θ)
|xaj ζ η=>by exact⟨ζ,η⟩
|xch ζ=>ζ<256
|xlf ζ η θ=>show ζ∈η from θ
|xCr ζ=>by obtain⟨_,_,ζ⟩:=z9
|xHk=>pos C
|xm0 ζ=>by show xtf ζ H1 I1 r1 q1
|xMP ζ η=>I.fpOk ζ (I.hok.fresh η)
|xrc ζ=>xf2 ζ rfl
|xbm ζ η θ=>by rw [z,ζ] at η;cases θ
|xx5=>xel Pi
|xx6 ζ η θ=>(ζ).filter (xf4 η θ)
|xeQ ζ η θ ι=>⟨_,ζ,η,θ,ι⟩
|xoQ=>xcw PP
|xCs ζ η=>(Rr ζ η).flatten
|xMQ ζ=>EG (wpAny_standAt ζ)
|xHl=>.type "int"
|xx7=>.inr rfl
|xMR=>wpAny_newList ?_
|xrd ζ=>aL ζ ?_
|xt1=>BP.val R
|xx8 ζ=>.inr (txt ζ)
|xlg=>.ref d
|xiO=>xX4 0 lo
|xg4=>xtd q
|xoR ζ=>xe0 ζ nl
|xhO ζ η θ=>by rw [ζ];show ρ η θ
|xdk=>xxe 1
|xdC=>xGP C
|xdl=>xam 1
|xt2=>h.get? a
|xdm ζ η=>Ε ζ η e
|xd3=>Χ b
|xg5=>fr _ _
|xCt ζ=>autoParam ζ ZW
|xCu=>cl.lookup x
|xMS=>Nat.lt_one_iff.1
|xCv=>["bundles"]
|xMT=>S.drop W.length
|xHm=>xij H'
|xjQ ζ η=>by show xaq (EJ ζ) η
|xMU=>putF "many_signs"
|xjR=>xir IO
|xx9 ζ η θ=>bo ζ η scope θ fp
|xgn ζ=>by show xgK t' ry ζ
|xt3 ζ=>ζ≤T.length
|xiP ζ η=>h ζ (xmC η)
|xMV=>List.replicate xb7
|xlh ζ=>xBx K ζ []
|xCw ζ η θ=>fnOf ζ η (a7 st) xGR xtl θ kV
|xS6=>Nz Ce CO CK
|xjS ζ η=>⟨o,ζ,η⟩
|xli=>HH _
|xm1=>Ib _
|xHn=>Gz hit.typeIs
|xHo=>X.base.get? b
|xHp=>I.base.free b
|xS7 ζ=>(items.toList.drop ζ).take
|xet=>G5 _ _
|xHq=>ixN xs.length
|xS8 ζ=>(s1.heap.push ζ).objs.size
|xg6=>c.1
|xCx=>EZ.mp h.s1
|xCy=>EZ.mp h.s2
|xMW ζ η θ=>(ζ).eraseIdxIfInBounds (η+θ)
|xya=>Y'.take l
|xyb=>Y'.drop l
|xyc=>EC this
|xiQ=>ed L
|xyd=>.ref cd
|xdD ζ η θ ι μ ν ξ=>xaF ζ η θ (xaF ι μ ν ξ)
|xlj=>Q .non
|xd4=>LT b
|xoS=>xjs q
|xt4 ζ η θ=>upd ζ η (.own θ)
|xfh ζ η=>xdp ζ p CO dx η
|xlk ζ η=>xa5 ζ η ad
|xMX=>["_law_cell","_law_size"]
|xhP ζ η=>(ζ+η).toNat
|xt5=>xCc pos
|xre ζ η=>xS0 ζ η ck
|xfi=>P3 b hb
|xm2=>al S p
|xHr ζ=>IsRangeIter ζ it
|xMY=>λ _ _ _=>False
|xrf ζ=>eval ζ env
|xCz=>ps.zip us
|xrg ζ=>S.length-ζ
|xCA ζ=>Walk ζ p
|xCB=>N8.refl _
|xm3 ζ=>(none,ζ)
|xt6=>codes L
|xMZ=>h1.symm.trans e
|xoT ζ=>ζ->Bool
|xgo=>P3 l nl
|xll ζ η θ=>.a ζ (xhv η θ)
|xcX=>g2 _ _ ?_
|xm4 ζ η=>xa4 (.n ζ) η
|xlm ζ=>xb6 ζ (xch x)
|xCC ζ=>xmJ ζ Q E
|xci ζ η=>by unfold ζ;rw [η]
|xt7=>Array LW
|xHs ζ η=>tupleKind (bX ζ η)
|xHt=>fs.lookup f
|xS9=>s.heap.FunFrames X.base
|xM0=>.type "object"
|xTa=>.ref s1.heap.objs.size
|xhQ=>val B
|xHu ζ η=>(As.flatten.length,ζ,η)
|xM1=>SG.ord SG.kInt
|xye=>C9.Good L
|xyf=>["piece"]
|xM2=>plainId_quiet Hv
|xCD=>.tbl #[]
|xM3=>s₁.heap.get? b
|xm5=>four n
|xCE=>r.map vN
|xrh=>xaV xaS
|xhR=>xeY xs
|xd5=>xGN v
|xYj ζ η θ=>tb {ζ with nx:=η,ct:=θ,bk:=D.nx}
|xln=>xir xaS
|xm6=>xeW 3 1
|xHv ζ η θ ι=>codeAny_mono ζ (Ε η θ ι)
|xri ζ η=>SL (blt ζ η)
|xCF ζ=>(LT ζ).toNat
|xt8=>EL h1
|xg7 ζ η=>by have:=ζ;rw [η] at this
|xm7=>start N vs
|xrj=>xoM Β
|xCG ζ=>xk4 (xoO ζ)
|xyg ζ η=>min 66 (run ζ (L.drop η))
|xd6=>vN b
|xg8 ζ η=>by refine ζ;show xm0 η
|xm8=>s0 _ _
|xfj=>s4 _ _
|xgp=>h _
|xlo=>xgp _
|xoU ζ=>(F7.mp ζ)
|xM4=>M'.k.trans hk
|xdE ζ η θ ι μ=>xeX [_,_] ζ η θ ι μ
|xt9=>.inr xkP
|xlp=>xcR ha
|xrk ζ η=>BP.num (xBw xtm ζ η)
|xfk ζ η θ=>xaf [_,_] ζ Sc η Sc θ
|xfl=>Nat×Nat
|xrl=>HU _
|xYk=>IsTup s.heap
|xeR=>k _
|xTb=>I.mod.glob.keeps I.bk
|xHw=>False.elim z
|xCH=>pure false
|xjT=>PA X
|xoV ζ=>(ζ).stop i
|xTc ζ η=>Builtin.Slice.slicePlaces ζ η 1
|xM5 ζ=>subscripted ζ false
|xTd=>b.extract ib
|xM6=>SM.Mv SG.ltI
|xg9=>b.1
|xrm=>V.ref q
|xoW=>hP L
|xCI=>W13.Walk L
|xeu=>xap l
|xHx=>xqt 272
|xCJ ζ=>xkI "things" ζ
|xHy ζ η=>Txt.slice ζ (xjp η)
|xYl=>κ.blt (xjr key)
|xoX ζ=>xYl (xtv ζ)
|xrn=>tots xkL
|xev=>xxe 0
|xM7 ζ=>envOfC qual ζ s.heap.objs.size
|xHz=>Value.ref xeh
|xhS ζ η θ=>by have:=ζ;rw [η,θ] at this
|xlq ζ η=>by show LE (ES ζ) η
|xfm ζ η=>xdp ζ p C dx η
|xHA ζ η θ=>xGY ζ ⟨η,.inl (xaJ θ)⟩
|xro ζ η=>ζ≤(η).length
|xha ζ η=>xbS L ζ η
|xCK ζ=>dot c ζ c.length
|xrp=>pcAt S p
|xjU=>by show xc4 t rx
|xhb ζ=>xbP H4 l5 ζ
|xrq ζ=>.a ζ xaS
|xM8 ζ=>ha L8 ζ σ
|xM9 ζ=>HR ζ hit.typeIs
|xyh ζ η=>FL (EM ζ η)
|xNa=>Loc X.env.scope
|xiR=>PSs X
|xNb=>Option NameKind
|xiS=>aS ?_
|xiT=>F4 Z9
|xHB ζ=>(ζ).symm.trans z
|xNc=>["_law_script"]
|xyi ζ=>R.length≤ζ
|xm9 ζ η θ=>by unfold ζ;show LE η θ
|xua ζ=>backTo pos (xkH ζ)
|xoY ζ η=>xdx (fC ζ η)
|xiU=>SL (keepIn K xeD)
|xrr=>(lcAt S q).2
|xHC=>xac xeN
|xHD ζ=>xxR ζ True.intro
|xHE=>C' X.prog X.w X.K X.mg X.base
|xlr ζ η θ ι=>Mt ζ η p d (cL θ ι)
|xna=>Gs _
|xHF ζ=>cS (hq.keep ζ)
|xeS=>z.1
|xCL=>Gl X
|xNd ζ η=>swapsWith ζ η pos.line
|xCM ζ η=>λ _ _ _ _ _ st ζ=>η
|xNe ζ=>A.units+ζ
|xls=>Hf _ Z9
|xTe ζ=>Hl (I:=ζ)
|xCN=>C.map vN
|xHG ζ=>num (u.take ζ)
|xHH ζ=>cn (Qs.take ζ)
|xHI ζ η=>wpS_bind (aX ζ η)
|xTf=>xs.toList.Pairwise xbW
|xyj=>xjr key
|xeT=>b.2
|xoZ=>xkN 2
|xHJ=>xkO "wide"
|xnb ζ η θ=>xbJ ζ (EC η) θ
|xyk=>.ref xeh
|xyl=>Mm.of i'
|xjV ζ η=>xbP H2 ζ η
|xdn=>by show xe7 2
|xrs ζ=>EG (E1 ζ)
|xeU=>h.2
|xrt ζ=>EG (G7 ζ)
|xnc ζ η θ=>xg0 (bS ζ) η θ
|xjW=>LT m
|xub=>t σ H
|xnd ζ η=>xdE NE Sc ζ Sc η
|xo0=>xeR _
|xym=>LR bs L st e
|xyn ζ=>σ.length=ζ
|xHK ζ η=>Mj ζ (A.deeper η)
|xNf=>.ref sl
|xo1 ζ=>Fq ζ Z9
|xyo ζ=>X.A.units+ζ
|xuc ζ=>B.length-ζ
|xud ζ=>B.length+ζ
|xlt ζ=>ζ<b.size
|xHL ζ η θ=>by obtain⟨⟨old,ζ⟩,η⟩:=θ
|xue=>EC QD
|xHM=>["many_signs","signs_check"]
|xHN=>["_law_script","_law_k"]
|xo2 ζ η=>dz (xfy ζ η)
|xyp ζ=>show ζ from r
|xlu ζ=>xf3 aU ζ
|xuf=>xa2 NE
|xug=>xjq PP
|xuh=>xjq No
|xui=>xaV xc7
|xTg ζ=>ζ=.function
|xHO=>xTg scope.kind
|xHP ζ η θ=>by obtain⟨_,_,ζ⟩:=η;refine θ
|xuj=>.inl xeG
|xHQ=>xdw H1 []
|xyq ζ=>Rb.length+ζ
|xCO=>Le blt kf
|xHR ζ=>(xtD ζ).length
|xuk ζ=>(ζ).count p
|xne ζ=>Pv ζ σ H
|xjX ζ=>xq2 PP ζ
|xCP ζ=>xCm (xqM ζ)
|xul=>xmX np
|xum=>xmX nx
|xTh ζ η=>xq5 (xq5 (bK ζ η))
|xHS=>sb.extBut b
|xTi=>s.heap.IsListIter it
|xCQ ζ η=>seqItems? ζ>>=η
|xun=>.str x
|xNg=>I.base.there b
|xHT ζ η=>by simp only [List.lookup,ζ,η]
|xHU=>Decidable c
|xTj=>ys.toList.map (·.1)
|xo3=>stAt L
|xjY=>cb ?_
|xHV=>Mv.mem O
|xHW=>Mv.trans ?_
|xTk ζ=>ζ++Eb.reverse
|xYm ζ=>h4.update ζ (Obj.mapSeq λ _=>out.map (·.2))
|xuo=>row L
|xHX=>Pp.map th
|xyr=>["head"]
|xup=>nb F'
|xfU ζ η θ ι μ ν ξ=>(ED ζ (xae η θ ι μ IO ν ξ))
|xdF ζ η θ ι μ ν=>xae ζ η θ ι WF μ ν
|xhT=>LT i
|xjZ=>xef H2
|xru ζ η θ ι=>NL.no ζ η θ ι rfl
|xNh ζ η θ=>by obtain⟨_,_,_,ζ⟩:=η;show xfE θ
|xfn=>xtj V
|xCR=>.bl true
|xCS=>L.drop p
|xj0=>blk T j
|xHY=>Ν T.length
|xo4=>xMw 192
|xj1=>Mv κ.blt xjr
|xCT=>My X.prog X.w
|xfo=>xte b Id
|xgq=>xiH i
|xj2=>xoN r k
|xrv ζ η θ=>xcQ ζ Mw η θ ad
|xHZ=>Option xfl
|xys ζ=>aX (i:=ζ)
|xhc=>st _ _
|xyt=>Ox P w
|xCU=>Rn κ a0
|xCV=>I.freeC x
|xH0 ζ=>.Attribute ζ f
|xCW ζ=>.str ⟨ζ⟩
|xCX ζ=>(ζ).getD none
|xH1 ζ=>a.extract ζ na
|xH2 ζ=>b.extract ζ nb
|xyu ζ=>ζ<Rs.length
|xNi=>sm.trans s3
|xCY=>Q.count q
|xCZ=>["signs"]
|xNj ζ=>tryCatch ζ _
|xH3 ζ=>by(rcases u with _|_|_|_|ζ)
|xo5=>mk bg
|xC0=>.lst xs
|xlv ζ η θ=>by show xeB ζ η (cz θ)
|xNk=>call xeD
|xo6 ζ η θ ι=>by obtain⟨ζ,η,θ,ι⟩:=h
|xuq=>.int hi
|xyv ζ η θ ι=>by show xoo ζ η θ (I.tuple ι)
|xnf ζ η=>by show LE (E5 ζ) η
|xrw ζ=>Tm ζ true
|xyw ζ η=>xBG ζ (some η)
|xC1=>xBD wt true
|xNl ζ η=>κ.negTrans ζ (xtv η)
|xyx ζ=>us.length=ζ
|xlw ζ η=>(ζ).toList=η
|xj3 ζ=>by(rcases ζ with rfl|rfl)
|xC2=>xrc none
|xcY ζ η θ ι μ ν ξ=>(ED ζ (xaf η θ ι μ ν ξ))
|xur=>by simpa using h1
|xj4=>hb b
|xH4 ζ η θ=>(I.hok ζ η θ).stay
|xYn=>Calls.Name_function_global I.ok.kind
|xH5=>X.wish E
|xrx=>hf b hb
|xTl=>[s1.heap.objs.size]
|xC3=>P.zip vs
|xfV=>Gi _ _
|xTm ζ=>V.str (Str.ofString ζ)
|xry=>kf y
|xC4 ζ η=>by dsimp only at ζ;subst η
|xTn=>Data.seq vs.toArray
|xH6 ζ=>(ES ζ).trans
|xH7=>hT.same s1
|xfW=>Md a b
|xC5 ζ η θ ι μ ν=>by(injection ζ with η;injection θ with ι μ ν)
|xus=>.ref b
|xfX=>xap p
|xhd=>xap d
|xNm=>.type "dict"
|xrz=>ar _
|xut=>vN 0
|xiV ζ η θ ι μ=>by show xbU (xgz ζ η θ) ι μ
|xng=>Ξ h
|xNn=>pendingOf N7
|xyy ζ=>Ρ (sld ζ)
|xnh ζ=>.a ζ xdL
|xhU ζ η θ ι μ ν=>by show xck ζ η θ (F.F.ok ι μ);intro ν
|xTo ζ η θ=>SL (Builtin.Range.small ζ η θ)
|xH8=>b.drop s
|xrA=>xoA 8
|xyz ζ η=>xtC (kk ζ η)
|xrB ζ η=>Mm K ζ η xs
|xC6=>Mm.of hB
|xTp=>xxK its.toArray.size
|xlx ζ η θ=>by show ρ ζ η;clear θ
|xTq ζ=>EJ (MU.mpr ζ)
|xbn ζ η θ ι μ ν=>(xaf ζ η θ ι μ ν)
|xly=>x.d c
|xC7=>.tbl ps
|xNo=>I.base.keep b
|xlz ζ η θ ι μ ν ξ=>by obtain⟨ζ,η,θ,ι,μ,ν⟩:=hf it ξ
|xTr ζ=>cellsFrom ζ scope.names
|xlA=>sIx n
|xlB=>EH 14
|xni ζ=>xYg (base+ζ)
|xlC=>EM hj
|xNp=>pb.facts tw
|xNq=>["_law_spot"]
|xNr=>["_law_bale"]
|xuu ζ=>ζ=S.length
|xNs=>Y.Pairwise xbW
|xrC ζ=>xee _ ζ
|xhe ζ η θ ι μ ν=>by have ζ:=η;show xbO θ ι μ ν
|xlD=>XL xgC
|xlE=>XL xti
|xlF=>xir Sc
|On ζ=>λ z=>ζ
|xC8 ζ=>SL (X.fn ζ)
|xTs ζ η=>PW.pt (dH ζ (dD η))
|xuv=>EG xjC
|xo7=>xaZ 64
|xNt=>(xMM).isSome_eq
|xlG=>kindOf sq0=oneType'
|xlH=>xHm s'
|xhf ζ=>xCC ζ s
|xiW ζ η θ ι μ ν=>by show xbB (HV (xTe ζ η θ ι μ) ν)
|xuw ζ=>On (hb ζ)
|xhg ζ η=>vN (ζ+η)
|xTt=>X.s₀.heap.get? b
|xew=>e::es
|xhh ζ η=>(none,ζ,η)
|xTu=>a.toList.take na
|xTv=>b.toList.take nb
|xTw=>SM.eqv SG.kInt.blt
|xrD ζ η=>(ζ++η).Perm
|xhV=>cJ 0
|xyA=>gO hu
|xH9=>K30.C.NM G
|xTx=>T.drop W.length
|xrE=>two c
|xC9 ζ=>ζ++Rs.flatten
|xTy ζ=>Kc (wpAny_bindName ζ)
|xrF=>xii P w K Mq
|xyB=>xaG xht
|xNu=>xmh 64
|xnj=>xdK i
|xrG=>LT j
|xnk ζ η=>xmj h ζ η
|xYo=>xom "getset_descriptor.__get__"
|xIa ζ η θ ι=>.Call (.Name ζ η) θ ι pos
|xgr ζ η=>by show xjv e ζ η
|xgs=>xcd d
|xIb=>xYa V.non
|xbF=>H p
|xrH=>xxv R
|xhi ζ η θ ι=>by show xty ζ rfl η θ ι
|xrI=>xmG sq0
|xux ζ=>xby (xdq ζ)
|xyC=>xiB Sc
|xyD=>xqX χ
|xyE=>xqX TD
|xlI=>(xeZ).irr _
|xyF=>xmC hy
|xTz=>relabel scope X.env
|xTA=>xcx "signs_check"
|xdG ζ=>by exact .inr ζ
|xDa ζ η θ ι=>bu ζ Z7 η θ (xcw ι)
|xIc ζ=>Value.str ζ t
|xNv=>frs X.stack
|xId ζ=>.Constant ζ j
|xIe ζ η=>W ζ m' η σ3
|xo8 ζ=>(ζ).yld i
|xYp=>wpAny_newFunctionEnv_cells S.kind
|xTB ζ=>RR ζ s3.heap.objs.size
|xfp=>k l
|xuy ζ=>ζ*S.length
|xfq ζ=>ζ≤12
|xNw=>s4.trans s5
|xYq=>Builtin.Builtins.bindParams "min"
|xIf ζ=>ns.length≤ζ
|xo9=>xoh R2 g2
|xTC ζ=>Builtin.bitAnd (XV ζ)
|xj5=>xc9 h1 h1
|xlJ=>xkI "course" x []
|xnl=>P3 l1 n1
|xDb ζ=>xBx ζ ps
|xhj ζ=>.inl ⟨rfl,_,Mm.of ζ⟩
|xIg ζ=>tailR T.length (xmu ζ)
|xrJ ζ η θ ι=>xbY (.bl ζ) η θ ι
|xIh=>xtU "text" "before"
|xDc ζ=>ac (xtg PP ζ)
|xpa ζ=>xfS l1 ζ
|xnm ζ η θ=>by show ρ ζ η;refine θ
|xIi=>xdw H4 (ys++[y])
|xuz=>.int 1
|xnn=>ai hb
|xyG=>.cell v
|xNx=>I.pin p
|xTD ζ=>{s with toks:=ζ}
|xyH=>List L7
|xDd=>J.stop i
|xDe=>Sem Bool
|xNy=>bindL kindOf
|xNz=>bindC kindOf
|xTE=>HT.sIx its.length
|xhW=>x.1
|xyI ζ η θ ι μ ν ξ=>by obtain⟨ζ,η,θ,ι,μ,ν⟩:=I.lstM ξ
|xno=>ES h2
|xDf=>hr.hd Z9
|xIj ζ=>(G2.mp ζ).1
|xNA ζ η=>xs.toList.drop (ζ+η)
|xYr=>a.extract ia
|xNB=>ps.map V.ref
|xIk=>MT.of i'
|xDg=>hB.sm.2
|xTF=>kla_fn "<lambda>"
|xIl ζ η=>by obtain⟨_,_,Tk,ζ⟩:=η
|xDh ζ=>(ζ,.cell)
|xDi ζ=>(ζ).trans ih
|xhk=>UV n
|xhl=>UV b
|xuA ζ=>Ez ζ this
|xNC=>xcN ys.length
|xDj=>Mm.of Of
|xND=>xbC bs.length
|xlK=>x.2
|xIm=>.int c
|xpb ζ η=>by show LE ζ (FS η)
|xnp=>xqG xs
|xnq=>xX4 items.size hi
|xNE=>xGS Mn.length
|xNF ζ η=>SL (hasDictIn ζ η)
|xNG=>Ν Pp.length
|xnr=>.a Β
|xIn ζ η=>wpS (xMn w) A E s ζ η sq0
|xd7 ζ=>xIn ζ Q
|xpc=>xtC k
|xDk ζ η=>(ζ).push (xqw #[] η)
|xDl ζ η θ=>xcW "blocks" ζ η θ
|xhm=>xxF C
|xhn=>xcF b
|xgt ζ η=>by show xax ζ (xdd η);clear g1
|xyJ=>Bool->xe2
|xuB=>xhK e
|xIo ζ=>Mm.of (xhK ζ)
|xns=>OA mg base
|xuC=>ak cj ad
|xrK=>xm8 e
|xhX ζ η θ ι=>by show W1 ζ η θ;exact ι
|xuD=>s.toks+1
|xuE ζ η θ=>xCw ζ η dV dc pm an θ ct
|xho=>Md 0 0
|xhp=>sp vs H Q E
|xTG ζ=>s.heap.IsList ζ items
|xyK ζ=>by have ζ:=rv.length
|xTH ζ η=>{ζ with heap:=s3.heap.push η}
|xyL ζ=>S.length=ζ
|xNH=>Option Bool
|xNI=>s3.trans s4
|xyM ζ=>u.length<ζ
|xNJ ζ η=>Yj ζ (rest.take η)
|xTI ζ=>wpAny_updateSeq ζ rfl
|xyN ζ=>u.length=ζ
|xNK ζ η=>{s with heap:=ζ,toks:=η}
|xNL=>xkO "tail"
|xlL ζ η θ ι=>by show xqE ζ η θ;cases ι
|xDm ζ η=>SL (isFn ζ η)
|xNM=>K30.C.bt xqK
|xyO ζ η=>num ((b.drop ζ).take η)
|xnt ζ=>dot c ζ N
|xfY ζ=>ζ≤64
|xuF=>xca xCo
|xuG ζ η=>SL (xqI kf ζ η)
|xj6 ζ η θ=>(ζ).take (η-θ)
|xuH=>xoW Pp
|xhY ζ=>by show LE EB ζ
|xNN ζ η=>(MJ ζ η).length_eq
|xgu ζ η θ ι=>⟨ζ,H,η,θ,ι⟩
|xnu ζ η θ ι=>xgu (.int ζ) η θ ι
|xb8 ζ=>by rw [ζ];simp
|xyP ζ=>EG (Jf ζ)
|xhZ=>p.2
|xNO ζ=>I.base.slot ζ o
|xnv=>PS X
|xIp ζ η θ=>xnv (.Assign ζ η θ)
|xYs ζ=>wpAny_pyIter_range (IsRange.new ζ)
|xYt=>Around.frames_deeper e0.frames
|xh0=>y.1
|xYu=>codeAny_call_function hr.depth
|xTJ ζ=>seqIndex_neg (JS ζ)
|xh1=>H4 l
|xIq=>numAt ys
|xh2=>H2 c
|xuI ζ η=>EF ζ (EC η)
|xNP ζ=>(S.map ζ).sum
|xh3=>H2 l
|xNQ=>EC RI.symm
|xIr=>["lengths","place","ahead"]
|xNR=>["bale","place","many_signs"]
|xDn=>.ref c
|xTK=>List.replicate z
|xIs=>⟨#[]⟩
|xh4=>xeb n
|xIt=>xcx "rest"
|xIu ζ η=>Mn.any (xf4 ζ η)
|xyQ=>xBy Ur
|xuJ ζ η=>xar ζ (tC η)
|xuK ζ η=>c7 (xSR ζ η)
|xuL ζ η=>aP ζ (Fh η)
|xpd ζ η θ ι=>by have ζ:=η;generalize θ=ι at*
|xuM=>xe4 a
|xh5=>xgJ 1
|xYv ζ=>SL (Builtin.Range.rangeFitsLong ζ)
|xbo ζ=>λ b hb=>ζ
|xpe ζ η θ=>⟨rfl,ζ,η,θ⟩
|xrL ζ=>xmv ζ NE
|xuN ζ η θ ι=>aF (xa5 ζ η θ) ι az
|xuO=>StateT SortSt Sem
|xlM=>.m 8
|xuP=>xmG st'
|xyR ζ=>xbZ (xcg ζ)
|xuQ=>X.mg x
|xuR ζ η θ=>xoF _ ζ _ rfl η θ
|xh6=>z.2
|xIv ζ=>T.take (64*ζ)
|xIw=>h'.get? e
|xyS ζ=>xf1 ζ xaS
|xuS ζ η=>PW.pt (dY ζ (di η))
|xTL ζ=>xcx (Str.ofString ζ)
|xuT=>xaU X.N
|xyT ζ=>R.drop (ζ-ok)
|xfr=>Pv (i+1)
|xuU=>xhs Key V
|xh7=>xlo z
|xNS ζ=>putF "finished" (.bl ζ)
|xuV ζ η=>(ζ++η).drop
|xTM ζ=>ha pos L8 ζ σ
|xTN=>(xTz).names.lookup
|xyU=>My P w
|xuW=>xIv j
|xnw=>XV k
|xuX=>by simpa using e
|xNT=>EF I.ok.bsz
|xcZ=>[x]
|xuY=>by simpa using h
|xrM ζ=>Meth ζ C
|xpf=>h2.1
|xpg=>ES h1
|xIx ζ=>σ3.length=ζ
|xNU=>Tx.map vN
|xIy ζ=>none_of ζ n5
|xph ζ η θ ι μ ν ξ=>by have ζ:=η;obtain⟨θ,ι,μ,ν⟩:=ξ
|xuZ=>by simpa using z
|xpi=>Fl hk
|xYw=>Nat.eq_zero_of_le_zero hB
|xpj=>dig 0
|xNV=>aj nq
|xNW=>s5.trans s6
|xIz ζ=>Pre.length+ζ
|xNX=>K30.Ck.WD K
|xlN ζ=>xeW 1 ζ
|xDo=>xa1 []
|xDp=>xag xht
|xpk=>xam 32
|xpl=>xam 31
|xd8 ζ η θ=>(xgz ζ η θ)
|xDq=>xjq χ
|xNY=>xbC B.length
|xIA ζ=>S.length≤ζ
|xh8 ζ=>NV X (compareOp ζ)
|xDr=>xbi Sc
|xDs=>xgH 64
|xpm=>Fh xkP
|xpn=>xcR hp
|xNZ=>(xit).reverse
|xTO ζ η=>Tm (s₁.heap.get? ζ) η
|xgv ζ=>xxo ζ H
|xpo=>XL xGT
|xpp=>xkH es
|xYx=>Builtin.Tuple.tupleItemsOf xgR
|xDt=>FL xdV
|xIB ζ=>xMx "range" ζ
|xrN ζ=>λ _ h=>ζ
|xDu=>xdh xfF
|xN0=>xmE xs
|xpq=>(lcAt S p).2
|xrO ζ=>Q (some ζ) sq0
|xu0=>Eb++D0.reverse
|xu1 ζ η=>Fh (xxM ζ η)
|xDv=>wpS_lift (Ij xjJ)
|xDw=>xMJ xco
|xpr=>xqD Tb none
|xps=>xlh ps
|xlO ζ η θ=>xfN IO ζ IO η θ
|xfs ζ=>by show LE e ζ
|xDx=>sld R
|xN1=>.a Pi
|xh9=>xrB H a
|xTP ζ=>xGJ "range" (.fields ζ)
|xpt=>xkH xew
|xpu ζ η θ ι=>xar (xIa ζ η θ ι)
|xu2 ζ η=>xeo ζ (xDc η)
|xrP ζ η θ=>Binds K (xuE ζ η θ)
|xiX ζ=>ζ≤2000
|xrQ ζ η θ=>xuR ζ (xab η) θ
|xYy=>bh No TB.cl Pu
|xYz=>PySem.Within mA
|xYA=>X.s₀.heap.FunFrames X.base
|xTQ=>Vis X.env.scope
|xiY=>PT X
|xTR=>attributeBase e
|xN2=>Kf.mp nd
|xYB=>Builtin.Slice.sliceAdjust lo
|xTS=>s.heap.update p
|xTT=>EC hlen.symm
|xTU=>s.heap.IsList p
|xYC ζ=>tail_any ζ slot_dict_getitem.lookup
|xTV=>ms.map V.int
|xN3=>B.drop n
|xIC ζ=>(IS ζ).mpr
|xrR=>EJ Z5
|xpv=>fR d t
|xID=>by simp;assumption
|xTW ζ η=>(SM.MJ ζ η).length_eq
|xTX=>hp.subset hb
|xu3=>Oy 0
|xTY=>λ {m n}=>KN.mp
|xN4=>u.drop t
|xpw=>nb A
|xTZ=>ys.map V.str
|xiZ=>xap C
|xi0=>UV s
|xpx=>XV b
|xj7 ζ η=>xdJ H2 ζ η
|xi1=>vN c
|xi2=>xGN y
|xT0=>xkO "lengths"
|xIE=>.n 256
|xN5=>B.take n
|xT1=>xbD "_law_check"
|xIF=>Mm.of hl
|xYD ζ η=>backToKw ζ (keywordEach η X.env)
|xj8 ζ η=>xdp ζ p Ce dx η
|xi3=>Χ p
|xlP=>xBI 1
|xIG=>At bs p
|xyV=>xIG 6
|xyW=>xoA 2
|xrS=>xBU n
|xyX=>hidT s₁.heap H
|xN6 ζ η θ ι μ=>Me ζ η θ "BitReader.take" ι μ f fd
|xN7=>N.map xG2
|xi4=>xe3 R
|xu4=>xbM h
|xi5=>c.2
|xi6=>xmM e
|xex ζ=>l≠ζ
|xN8=>xxV V8.symm
|xlQ ζ η=>(ζ-η).toNat
|xi7=>xlm T
|xj9 ζ=>(xqu ζ)
|xu5=>xj9 (xmv xed IO)
|xi8=>te σ H
|xka=>xCL x
|xN9 ζ η=>aP ζ (wpS_bind η)
|xOa=>xyp False
|xi9=>TW T W
|xyY=>xBB (xMq n)
|xu6=>xuM o
|xkb=>xm2 b m
|xT2 ζ η=>fP ζ η false false
|xja=>dO _ _ _
|xjb=>NR H x W
|xjc=>dQ _ _ _ _
|xjd=>gZ _ _ _ _
|xDy=>E.sum c
|xyZ ζ η θ=>by refine ζ;simp only [η,θ]
|xOb ζ η θ=>by obtain⟨_,_,_,_,ζ⟩:=η;exact θ
|xDz=>wpAny M
|xey=>[b]
|xDA=>txt xey
|xDB=>J.yld i
|xT3 ζ=>ζ=s1.heap.objs.size
|xDC=>T.obj _
|xYE=>wpAny_sequenceKey ht.typeIs
|xYF ζ η=>(List.replicate ζ η).flatten.toArray
|xT4 ζ=>d.params.defaults=ζ
|xOc ζ=>autoParam ζ ZV
|xDD=>this.1
|xDE ζ η=>out.push ζ[η]
|xy0 ζ=>ζ≤xs.size
|xy1 ζ=>xs.toList=ζ
|xDF ζ=>u.length-ζ
|xOd=>spCInit C
|xy2 ζ=>runP ζ Pp
|xDG=>fC_no _
|xT5 ζ=>Rs.flatten.length≤ζ
|xDH=>cdAt L1
|xOe ζ=>xkI "waiting" ζ
|xYG=>xom "object.__setattr__"
|xIH ζ η=>xdt ζ (V.int η)
|xrT ζ η=>by show Uf (ES ζ) η
|xDI ζ=>Tm ζ .free
|xrU ζ=>ζ≠Tb
|xrV ζ η θ ι μ=>by show xqH ζ η θ;rw [ι] at μ
|xDJ ζ=>Due ζ rest
|xDK=>xqO ".0"
|xOf ζ η θ ι=>by obtain⟨_,_,ζ⟩:=η;show xao θ ι
|xDL ζ=>(ζ).count q
|xnx ζ=>Ez ζ xiF
|xII ζ η θ ι μ ν=>cxOf ζ η θ ι μ base ν qual
|xDM ζ=>callWith pos ζ first
|xlR ζ η θ ι μ ν=>xbl ζ η θ ι 2000 μ ν
|xDN ζ η θ ι=>xcW "course" ζ (xg2 η θ) ι
|xDO ζ η=>(ζ).flatten++η
|xny ζ=>xre ζ co
|xYH ζ=>["signs","back","size",ζ]
|xIJ=>xYH "end"
|xDP ζ=>RB C ζ r d b
|xnz ζ=>ho L8 ζ σ
|xDQ ζ=>I.turned ζ f0 f1 f3 f4 f5
|xcj ζ=>by rw [ζ];lia
|xy3 ζ η=>E1 (hQ ζ η)
|xT6=>X.env.kindOf x
|xOg=>.Compare a
|xYI=>wpAny_pyNext_range_item st
|xIK=>T.keep _
|xOh=>plainGet K
|xbG=>by simp at h
|xYJ=>Str.ofString "__getitem__"
|xT7=>seqIndex_of h0
|xT8=>sliceBounds lo
|xy4=>K.In h
|xDR=>.ref q
|xOi=>IntsAre kv
|xy5=>EJ z
|xy6=>Gd t1
|xIL=>X.drop x
|xrW=>Mf H2
|xkc=>no _
|xYK ζ=>(Nat.le_div_iff_mul_le ζ).mpr
|xOj=>["things"]
|xT9=>.type "module"
|xIM=>BP.val A
|xOk=>spLeft C
|xrX=>dX hb
|xIN=>Mm.of YY
|xOl=>K30.C.Za K
|xkd=>XV 8
|xke=>vN p
|xy7=>xjo 125
|xrY=>ae hp
|xkf=>vN m
|xUa=>Y'.Pairwise xbW
|xpy ζ η θ ι=>∀ζ∈η,xbW θ ι
|xIO=>xcx "way"
|xIP ζ η=>decide (ζ∈η)
|xrZ=>xef H1
|xDS ζ η=>Μ (blt ζ η)
|xr0=>xGO N7
|xIQ=>(xqA).size
|xUb=>xkO "reader"
|xkg=>xon 0
|xUc=>xbD "are_whole"
|xr1 ζ η=>⟨rfl,ζ,η⟩
|xkh=>xcd r
|xpz=>num (b.take 3)
|xki=>xBH e
|xr2=>xdx fs
|xIR=>L.take p
|xnA=>xGV T
|xIS=>Fm.mp hb
|xIT=>foldedSetIterable iter X.env
|xr3 ζ η=>by subst ζ;show xa8 η
|xDT=>.m 64
|xUd=>EC hsz.symm
|xDU ζ η=>dig (xtu ζ η)
|xOm ζ η θ=>xcW "many_signs" ζ η θ
|xd9 ζ=>by show xol g ζ g
|xr4=>It->xe2
|xy8 ζ η=>xbh (xfb ζ η)
|xUe=>NJ.trans xtT
|xDV=>EF xfR
|xy9 ζ η=>fO ζ η ck g
|xu7=>rem T Rs
|xr5=>xhs κ V
|xIU=>(xrp).size
|xkj=>xmS r H'
|xIV=>cL ps
|xpA=>XV m
|xIW ζ=>(Fx ζ).symm
|xkk=>xyt H h
|xOn=>xbD "is_whole" cm Jab
|xr6=>KV Mn vs
|xOo=>Gn _ _
|xpB=>xOo Mb
|xkl=>Pm _ _
|xkm=>k3 _ _
|xje ζ η θ=>xym ζ η θ p' S'
|xr7=>W i m ys σ' H'
|xgw ζ=>(ζ:Nat)
|xr8 ζ=>xjp (xgw ζ)
|xaE ζ η=>by have:=ζ;exact η
|xnB=>g i j
|xza ζ=>o.data=ζ
|xDW=>k b ob
|xYL=>wpAny_pyIter_rangeiter st
|xYM=>es.toList.any (·.refKey)
|xu8 ζ=>Inv ζ []
|xYN=>lim.keeps x.toInCall.keep
|xOp=>.type T
|xYO=>numsOf its.toArray.toList
|xOq ζ η θ ι=>by(rcases ζ with⟨rfl,η⟩|⟨θ,ι⟩)
|xft=>s _ _
|xYP=>Builtin.Range.rangeSize i
|xIX ζ=>ζ<ns.length
|xu9=>val A
|xIY ζ=>ζ^bs.length
|xIZ ζ=>HO.ins ζ dx
|xfu ζ=>out++ζ
|xOr=>Y.drop k2
|xYQ=>List.length_eq_one_iff.1
|xYR ζ=>(As.flatten.length,ζ)
|xYS=>Nat.le_min_of_le_of_le m2
|xDX ζ=>kf (φ ζ)
|xva=>EI Ny
|xI0 ζ=>valueAt ζ k
|xOs=>.own c'
|xDY=>["first","inside"]
|xOt=>["row","many_signs"]
|xUf ζ=>xkI "whole_bytes" ζ
|xkn ζ=>by exact(ζ).elim
|xvb=>xkM a0
|xko ζ=>by show xfD ζ g2
|xdH ζ=>ζ->xxg
|xYT=>xom "object.__class__"
|xOu ζ η=>Wp "need_row" ζ η
|xDZ ζ=>NV X (binaryOp ζ)
|xkp=>by show xe6 hb hb
|xOv=>Fm.mp z
|xzb ζ η=>.a ζ (xgg η)
|xvc ζ η=>(lc S p ζ η).2
|xkq=>xvc xcp j
|xD0 ζ=>xbi (xdh ζ)
|xc0 ζ η θ ι μ=>xdc _ rfl ζ η θ ι μ
|xI1 ζ=>xs.length=ζ
|xD1 ζ η θ ι μ=>cM Fy ζ η θ ι (xcw μ)
|xkr ζ η θ=>⟨_,rfl,ζ,rfl,η,θ⟩
|xD2=>LT xg9
|xD3 ζ=>xdy (aS ζ)
|xlS ζ=>xdw H ζ
|xI2 ζ=>xCT ζ s.heap
|xia ζ=>xhg p ζ
|xI3=>["signs","size","end"]
|xUg ζ=>(xTP ζ).objs.size
|xI4 ζ=>.ListComp elt ζ scope pos
|xD4=>At c
|xYU=>args_listiter_next _
|xUh ζ=>ζ<h.objs.size
|xOw ζ=>⟨o.slots,ζ⟩
|xD5=>by simpa using hu
|xUi=>Data.fields _
|xpC ζ=>(ζ).go i
|xI5=>.inl e
|xOx ζ=>ζ==items.size
|xUj=>Int.not_lt.1
|xI6=>sub e
|xUk=>EC e2.symm
|xlT=>aH z
|xI7 ζ=>(G2.mp ζ).2
|xUl=>Nat.lt_min.2
|xD6 ζ η θ=>by have ζ:η:=θ;dsimp-zeta only
|xYV ζ=>PyProof.Rows.callWith_kw (e:=ζ)
|xD7 ζ=>by simp [pairs] at ζ
|xUm=>Ui.trans s4
|xUn=>Nat.le_min.2
|xI8=>md ry
|xI9=>u1 hr
|xJa ζ η=>tots (cP ζ η)
|xJb=>ES hb
|xUo=>s2.trans s3
|xzc ζ η θ ι=>hC.keep (λ ζ η θ _=>ι)
|xOy=>Z.map vN
|xD8=>.v 6
|xJc=>XV 272
|xD9=>.n 2
|xks ζ η θ ι μ ν=>by obtain⟨ζ,η⟩:=θ;have ι:μ:=ν
|xEa=>xmh 3
|xEb ζ η=>xqy ζ (λ _=>η)
|xJd=>xjq Ps
|xlU=>LT p
|xEc ζ=>LT (Ξ ζ)
|xpD=>xgF j
|xYW=>xom "object.__init__"
|xUp=>xkO "block"
|xUq=>xkO "signs"
|xUr=>xkO "other"
|xUs ζ=>Heap.ExtBut ζ s.heap h'
|xUt=>some .free
|xJe=>xga []
|xpE ζ=>xa4 Pi ζ
|xEd=>xcT 2
|xUu ζ=>xac (fs.lookup ζ)
|xgx=>H x
|xEe ζ η=>L.take (ζ+η)
|xzd=>os i
|xEf ζ η=>.bl (xfK ζ η)
|xOz ζ=>(xSW ζ).elim
|xlV=>xGZ H
|xJf=>xaV xoE
|xJg=>xaG xjI
|xpF ζ=>(T.take (64*ζ)).drop
|xJh=>xiD xeF
|xvd ζ η θ=>xiE (xcA ζ η θ)
|xJi=>xa2 xtS
|xJj=>xYf Np
|xlW=>xar a ta
|xJk=>xBB (.seq vs.toArray)
|xOA=>xtU "number" "size"
|xze ζ η=>BindsTo ζ fd (xoC η)
|xlX=>Rows K mg
|xEg=>xMn w
|xJl=>xmC hx
|xpG=>xiQ j
|xve ζ η θ=>xoP (xa5 ζ η θ)
|xJm=>xCG No
|xJn=>xrq xcB
|xJo=>["signs","place","back","most"]
|xJp=>EC hl
|xEh ζ=>xof (xo1 ζ)
|xlY=>xne i
|xEi=>MH κ a b out
|xEj ζ=>xfk NE NE ζ
|xvf=>xni i
|xEk ζ=>xrd (On ζ)
|xzf ζ η=>xCm (xTs ζ η)
|xpH=>xrv GT Tk PP
|xEl=>xlN 8
|xlZ=>xex d
|xEm ζ=>xgB (xDQ ζ)
|xEn ζ=>g1 _ _ (xaJ ζ)
|xEo ζ η θ=>t {nx:=λ _ ζ=>η,rt:=θ}
|xvg ζ η θ=>xkr ζ (xbR (Mm.of η)) θ
|xl0=>QK _ _
|xJq=>Tn w p
|xOB=>fu _ _
|xr9=>xOB Z8 Z8
|xl1=>cK κ a b
|xl2=>wpS (xMn w) A E s
|xl3=>c8 _ _ _ _
|xOC=>I.ok.bs b
|xOD=>.Tuple es
|xvh=>Vy lo
|xOE=>IsPart vl
|xOF=>IsPart vu
|xYX=>.type "BaseException"
|xzg ζ η θ=>by unfold ζ at η;split at θ
|xvi=>Rp.1
|xUv ζ=>ζ<xs.toList.length
|xUw ζ=>seqEpoch_at ζ rfl
|xYY ζ=>(List.nodup_append.mp ζ).1
|xYZ=>List.Sublist.count_le _
|xsa ζ η θ ι μ=>by obtain⟨ζ,η,θ,rel,ι⟩:=μ
|xvj=>F8 hx
|xOG=>["block"]
|xY0=>Nat.ToInt.div_congr rfl
|xY1=>Nat.ToInt.mod_congr rfl
|xOH=>hC.off kp
|xOI=>MT.of ht6
|xOJ=>["_law_way","_law_count","_law_inside"]
|xOK=>K30.Cds K
|xvk=>UV ah
|xOL=>Option SB
|xUx ζ η=>{cls:=ζ,data:=.fields η}
|xvl ζ η=>by show xbB (aX ζ η)
|xvm=>xeY ys
|xJr ζ η=>xeY ((ζ).map η)
|xvn=>XL xdr
|xvo=>xam 33
|xOM=>Option xoq
|xEp=>xbv No
|xvp=>xcd ck
|xvq=>h.Ns mainGlobals mg
|xjf=>λ z=>nomatch z
|xjg ζ=>LT (p+ζ)
|xUy=>(lcAt S q).1
|xvr=>putF "blocks" xon []
|xvs=>xMC 64
|xON=>(xcv).toNat
|xvt=>dig n
|xvu=>xCa H'
|xjh ζ=>by show xol g1 ζ g1
|xzh ζ η=>aT xfA (xnk ζ η)
|xvv=>Vals xs its
|xvw ζ η θ ι=>by obtain⟨ζ,η,θ,rfl⟩:=ι
|xJs=>aL Z9
|xvx=>xac xg6
|xvy=>xoT κ
|xJt ζ=>by show xjU;show xgn ζ
|xOO ζ η θ=>xys ζ η (wpS_bind θ)
|xOP=>I.kept (t':=s.toks)
|xvz=>Vals OP ds
|xUz=>xaX e n1 n2
|xvA ζ=>xS6 ζ p co ck
|xvB=>Lt blt kf
|xpI ζ η θ=>⟨ζ,rfl,η,θ⟩
|xvC=>xDb X.K ds
|xvD=>ED hi (xMr Mb)
|xEq=>EW TQ hn
|xJu ζ η θ=>aD (v:=ζ) η θ rfl
|xzi ζ η θ=>xJu (.ref ζ) η θ
|xc1 ζ=>ζ≤n
|xb9 ζ η θ ι=>by have:ζ=η:=θ;subst this;exact ι
|xEr ζ=>(ζ).get? b
|xUA=>env.kindOf x
|xY2=>s.heap.Ns X.env.locals
|xEs=>Sem LW
|xEt=>Q true
|xEu=>J.go i
|xEv=>Turn P
|xnC=>WB K a
|xEw ζ=>(ζ,first)
|xUB=>List Keyword
|xEx ζ=>ζ≠.free
|xUC=>Hm hlen.symm
|xUD=>PySem.call f
|xY3=>h'.Ns s.heap.objs.size
|xUE=>intKind_is _
|xUF=>EC h.symm
|xOQ ζ=>("rest_size",ζ)
|xJv=>[.none]
|xOR=>dbl of
|xOS=>X.take k
|xUG=>SM.Mv.refl _
|xOT ζ=>rv.get (i:=ζ)
|xUH=>ks.map kV
|xUI=>s0.trans s01
|xEy=>pin Z6
|xpJ=>hb x
|xnD=>V3 R
|xEz=>vN 184
|xUJ=>A2.map vN
|xUK=>L1.map vN
|xnE=>UV p
|xsb=>xqs o
|xEA=>xjo 116
|xzj=>xtd s
|xUL=>methodObj xeD
|xOU ζ η=>RL.filter (λ ζ=>η)
|xnF=>xMo A
|xnG=>LT q
|xnH=>xbr 2
|xnI=>xbr 3
|xEB=>(xop).In
|xEC=>xtm t
|xJw=>xbw 272 hm tm
|xJx=>xbw 12 hm tm
|xpK=>ai n
|xhq ζ η θ ι μ=>xae ζ η θ NE Sc ι μ
|xnJ=>xga R
|xUM=>xac A.handled
|xED ζ η=>xBD ζ η false
|xpL=>kf i
|xzk ζ η=>xBM ζ none η
|xOV ζ η=>xb6 ζ (W13.VF η)
|xJy=>xmC hb
|xEE=>xBW key
|xJz=>Ρ xB3
|xJA=>xqw #[] e1
|xJB=>cutV xs
|xzl ζ η=>show xk8 ζ from η
|xOW ζ η=>xlb ζ xs.toList η
|xdI ζ η=>∀p∈ζ,η
|xUN ζ=>pyNext (.ref ζ)
|xEF=>Fg _ 1
|xvE=>xMH v
|xEG=>xlh Jaa
|xUO=>Pv xs.length ys
|xUP=>Pv i ys
|xEH=>λ _ _ q=>q
|xzm ζ η=>by show xci ζ (E5 η)
|xJC=>xHx ln
|xnK=>RelV x v
|xUQ=>xcx "things"
|xEI=>Ox X.prog X.w
|xJD=>sld X
|xnL=>g x σ H
|xnM=>xo0 xec e
|xEJ ζ η θ=>xDa ζ X.list η θ
|xnN ζ η=>bE (D:=xxX) (lo:=ζ) (n:=η)
|xsc ζ η θ ι=>∃f fd,Me K ζ η θ ι Jaa f fd
|xib=>by exact .nil
|xnO=>WN T Rs
|xOX=>xBw xtm t
|xvF=>xOX s
|xnP=>CodeHd base c Tb
|xOY ζ η=>EG (G8 ζ η rfl ?_)
|xnQ=>xha q s
|xnR=>xDP H
|xnS=>xx9 X N cl s H
|xsd ζ η=>V.int (ζ%η)
|xUR=>its.toArray.size*k.toNat
|xJE=>EG ?_
|xnT=>NK u W T ps
|xnU ζ η=>(Ω u ζ η)
|xzn ζ=>ζ∉X.fs
|xOZ ζ=>Q (.bool ζ)
|xO0=>mA name
|xzo ζ=>min ζ n
|xUS=>xzo v.toNat
|xUT ζ η θ=>operate ζ (getItem η θ)
|xY4 ζ η θ=>(Heap.get?_update_other ζ η θ).trans
|xJF ζ=>by show ζ;decide+kernel
|xez ζ=>∀H',ζ
|xO1=>by exact Nat.one_pos
|xzp ζ=>b.size-ζ
|xzq=>a.size+b.size
|xO2 ζ=>{s' with heap:=ζ}
|xO3=>pairs r
|xY5=>(Z'.map (·.2)).Perm
|xY6=>hZ.symm.subset hz
|xJG ζ=>ζ<C.length
|xY7 ζ=>HI.mp (hLp.symm.subset ζ)
|xse ζ=>CL ζ xs
|xO4 ζ=>none_of ζ n3
|xO5 ζ η=>s.testBit (ζ-η)
|xsf ζ=>P1 ζ ah
|xO6 ζ=>Mm.of (K:=ζ)
|xO7 ζ=>xcN (ζ).length
|xO8 ζ=>xkI "group" ζ
|xvG ζ=>xjs ζ (j+1)
|xvH=>xvG p
|xJH ζ=>ζ+R.length
|xkt ζ=>xqx e ζ
|xsg ζ=>xjw ζ xot
|xO9 ζ=>Ν (ζ).length
|xpM=>by show xbB (wpS_get ?_)
|xsh ζ=>xBJ ζ t2
|xsi ζ=>xjw ζ xG1
|xku ζ=>Q (.int ζ) H
|xzr ζ=>xbM (xbM ζ.2)
|xJI ζ=>xtR ζ 200
|xsj ζ η=>bitsP ζ++η
|xEK=>B.take (xcu-2)
|xPa ζ=>F'.drop (64*ζ)
|xEL=>xPa xup
|xkv ζ=>Ms C ζ r d R
|xPb ζ=>On (r.hd ζ)
|xsk ζ=>bF Z7 X.range (xcw ζ)
|xpN=>by show xaq (xG0 hs) Fb
|xsl=>A'++T
|xvI=>A'++M
|xzs=>Y++tail'
|xpO=>by show xcj EA
|xJJ ζ=>Mk K ζ f
|xl4=>xy9 b m
|xEM=>g1 _ _ xxJ
|xsm ζ=>aH ζ hp
|xkw ζ=>xiE (field xoj ζ>>=_)
|xic ζ η θ=>xsc C ζ η θ
|xzt ζ=>fj ζ hg hm
|xzu ζ=>xM8 s H ζ I h
|xfZ ζ=>ζ[j]?
|xUU=>xfZ pe.toList
|xvJ=>xfZ σ
|xzv=>y.d c
|xzw=>x.p j
|xUV=>Value.ref e
|xUW=>I.ok.noex b
|xpP=>GZ _
|xzx=>Q ()
|xfv=>[a]
|xzy=>IY hp
|xUX=>Data.cell v
|xzz=>hb _
|xPc=>jt I.hok
|xEN=>XT b
|xY8=>args_tuple_getitem _
|xPd=>max 0
|xY9=>ns.map WData.int
|xJK ζ=>FW (F9 ζ)
|xzA=>.cp b
|xzB=>val R
|xJL ζ=>FY (E4 ζ)
|xUY ζ=>(P.map ζ).sum
|xPe=>rlF n
|xzC=>ES pE
|xUZ=>hx.same s1
|xJM ζ=>FU (FN ζ)
|xJN ζ=>Ih (HL ζ)
|xvK=>hn _
|xpQ=>a.1
|xZa=>wpAny_pyIter_enum he
|xU0 ζ=>(R.map ζ).map
|xJO ζ=>V4 (RM ζ)
|xZb=>by unfold Builtin.Range.rangeFitsLong
|xU1=>u.drop k
|xU2=>BP.num u
|xU3=>HO.lst z
|xPf=>hB.sm.1
|xU4=>T.take i
|xU5=>fI.at nI
|xU6=>ff.at nf
|xU7=>ok_cinit FI
|xzD=>fD iM hb
|xU8 ζ=>some (V.int ζ)
|xzE=>Gv Mb
|xZc=>S'.drop W.length
|xU9=>K30.C.Mk2 K
|xzF=>eJ hb
|xzG=>blk F i
|xPg=>["text"]
|xPh=>["bale"]
|xzH=>lay w
|xVa ζ=>some (V.str ζ)
|xVb=>bs.drop p'
|xPi=>K30.XN K
|xPj=>K30.VZ K
|xVc=>K30.Ck.CH K
|xVd=>K30.Ck.V2 K
|xVe=>K30.Ck.Zd K
|xzI=>.w Sc
|xVf=>XV T.length
|xsn=>vN i
|xPk=>Mm.of hS
|xVg=>le_of_lt xeZ
|xzJ=>ak eI
|xl5 ζ η θ=>xcO ζ Mw η θ
|xVh=>XV W.length
|xZd=>a.toList.Pairwise xbW
|xZe=>b.toList.Pairwise xbW
|xzK=>xog s'
|xVi=>LT S.length
|xVj=>xgF X.length
|xzL=>xtj LV
|xpR=>xxl i
|xpS ζ=>by show W1 ζ e e
|xpT=>by show xpS en
|xPl=>xxn b ck1 g1
|xpU ζ η=>by show xgK rfl ζ η
|xzM=>xxp Pp
|xpV=>xmn q
|xJP ζ=>EG (JL ζ)
|xPm=>xaJ rfl
|xpW=>Ν s
|xVk=>Ν L.length
|xzN=>xdx []
|xpX=>xBP u
|xzO ζ η θ=>aR ζ η (aO θ)
|xzP=>xSV Pp
|xzQ ζ η θ=>xtx (xkZ ζ η θ)
|xZf=>xhF s1.heap.objs.size
|xPn=>W13.M5 a
|xEO ζ η=>xag (xfM ζ η)
|xpY=>EH 8
|xzR=>(lcAt S p).1
|xJQ ζ=>EF (E4 ζ)
|xJR=>xcE QB
|xEP=>xqs e
|xpZ=>xcF e
|xp0=>Hq A s.heap
|xJS=>M2->xe2
|xp1=>xxS k
|xp2=>r.length+3
|xzS=>xCh k v
|xVl=>xxV ZJ.symm
|xJT=>cpy B b
|xVm=>xYi Prod.fst
|xzT=>te σ3 H3
|xp3=>xxc p
|xzU=>Ν xg4
|xEQ=>x≠"__name__"
|xJU ζ η=>xjn (ζ).toNat η
|xp4=>EP X L8 σ Q
|xER ζ=>λ i j=>.int ζ
|xJV ζ=>.a (xag ζ)
|xJW=>xua []
|xzV=>bG Ζ
|xVn=>xcx "held"
|xVo=>xC1 false
|xzW=>xS5 H'
|xp5=>xS5 H
|xPo=>SM.eqv SG.ltI SG.ky
|xVp ζ η=>call_meets ζ (xrC η)
|xp6=>xrC _
|xzX ζ η=>xGU (λ ζ=>vN η)
|xp7=>xrF 1
|xJX=>xaX e z
|xp8=>xfp _
|xES=>a.size-1
|xzY=>xN0 ys
|xPp=>xac (xaU items)
|xnV ζ η=>xbI _ _ ζ η
|xJY=>(xtm).drop t
|xJZ=>(xlc).take i
|xzZ=>xUs it
|xl6 ζ η θ=>xeX Τ ζ IO η IO θ
|xp9=>MT K H
|xVq=>["_law_j","_law_number"]
|xJ0=>xk2 8 hlen
|xz0=>xez (xdH Κ)
|xJ1=>Pre++W
|xkx ζ η=>xah (ζ++η)
|xz1=>Inv X MZ σ
|xz2=>N σ' H'
|xPq=>xPd total
|xqa=>sT _ _
|xJ2=>xxn b c g1
|xET=>xJT n
|xEU=>xuo j p
|xZg=>a.toList.drop xES
|xJ3=>xnV rfl ?_
|xz3=>xEi na nb
|xVr=>he L8 s σ H
|xvL ζ η θ ι=>xk0 (xVr ζ η θ) ι
|xJ4=>xTM s H _ I h
|xEV=>by unfold pyNext
|xVs ζ=>Value.float ζ t
|xVt ζ=>h.objs.size≤ζ
|xqb ζ=>by rw [ζ];decide
|xVu ζ=>wpAny_Name ζ hd
|xvM ζ η θ=>⟨σ,ζ,η,θ⟩
|xEW ζ η θ ι=>thn ζ (λ _ η θ=>ι)
|xVv ζ=>ζ<recursionLimit
|xVw ζ=>I1.laid (t':=ζ)
|xVx ζ=>F.run ζ X.stack
|xl7 ζ=>h ζ E7
|xZh ζ=>typeLookup ζ "__getitem__"
|xZi=>s.heap.IsStrIter it
|xPr=>Its y
|xEX=>txt b
|xZj=>if_false_right.mp h
|xEY ζ=>R.length=ζ
|xso ζ=>ζ+b.toNat
|xJ5 ζ=>ζ<R.length
|xZk=>Int.lt_irrefl a
|xZl=>SortSt.mk' oneType'
|xPs ζ η θ=>by obtain⟨ζ,_,η⟩:=Hk.mp θ
|xJ6 ζ η θ=>jT ζ η (base:=θ)
|xPt=>Kg hu
|xJ7=>["reader","codes"]
|xZm=>X.mg "__builtins__"
|xVy ζ=>ζ≠mainGlobals
|xPu=>oo hu
|xZn=>XV its.toArray.size
|xEZ=>vN ah
|xPv=>xa2 Pi
|xPw=>xmh 16
|xPx=>xjq Ζ
|xPy=>xaG xc7
|xvN ζ η θ ι=>aa ζ (xin η θ ι)
|xPz=>xbi Φ
|xPA=>xkN 64
|xvO ζ η θ ι=>EG (xiq ζ η θ ι)
|xPB=>tC xon
|xPC=>.n 12
|xPD ζ η=>Ez ζ (NL.J' η)
|xqc ζ η=>xqC hs ζ η
|xvP ζ=>∀x∈scope.names,ζ
|xVz ζ η=>(ζ).app (Mv.refl η)
|xPE=>xBF Ps
|xJ8 ζ=>xm (xX9 ζ)
|xid ζ η θ ι=>xjy Τ ζ η Τ θ ι
|xPF=>xcT 13
|xPG=>xcT 14
|xZo=>Χ s.heap.objs.size
|xvQ ζ η θ ι=>xST ζ η (xcm θ ι)
|xPH=>S.cw xhC
|xPI=>xel Β
|xPJ=>xcD χ
|xPK=>xcD Ps
|xE0=>xga xxt
|xPL ζ η=>xaL "number" ζ η
|xvR ζ η θ ι μ=>xgS ζ TR.cl η θ ι μ
|xE1 ζ η=>aF ζ (xbh η)
|xPM=>xtx Sc
|xPN=>bL Ζ
|xJ9 ζ=>xog (xmi ζ)
|xVA ζ=>xMA ζ out.toList
|xPO=>xgg IO
|xPP=>xG0 fx
|xPQ=>xdh xaS
|xPR=>xoC xbL
|xsp=>NL.M3 _ _ rfl
|xsq=>xmK (M2->xfO)
|xPS=>xk4 No
|xPT=>xqX PP
|xPU=>xiD xbK
|xZp=>(xCl).toList.Pairwise
|xZq=>xq6 its.toArray.size
|xPV=>xbh ad
|xE2 ζ η=>aQ (xfy ζ η)
|xPW=>xjR Sc
|xie ζ η θ ι μ=>∀(ζ:η) (θ:ι) (H':Hp),μ
|xPX=>xYh (xMp #[])
|xPY=>.n 64
|xE3 ζ η=>xf7 (xqs ζ) η
|xPZ=>xln xfF
|xqd ζ η=>xHA hz ζ η
|xvS ζ=>by show xc4 t ζ;rfl
|xP0=>xrq Φ
|xP1=>xlu Ps
|xP2=>xnh xx5
|xnW=>by show xcC (ao (xdB R1 g1))
|xE4 ζ η=>aT (xnk ζ η)
|xl8 ζ=>autoParam (¬m=ζ) ZY
|xP3=>xpa xtw
|xE5 ζ η=>xDk (xX8 ζ) η
|xP4=>xTD xuD
|xVB ζ=>MC ζ A ts bs
|xqe=>xVB H
|xz4 ζ=>cst ζ W T
|xP5=>xlM NE
|xP6=>EG (JW ?_)
|xsr ζ η θ ι=>cu MI ζ η Z7 θ ι .nil
|xP7=>xN1 xht
|xP8=>xN1 xc7
|xP9=>xDT Pi
|xZr=>xUs s.heap.objs.size
|xKa ζ=>xof (xEj ζ)
|xvT ζ η=>ζ≠some η
|xQa=>xgZ IO xNu
|xif ζ η θ ι μ=>xcY ζ η Sc θ Sc ι μ
|xQb=>xvE fs
|xQc ζ η=>OV K H ζ (.type η)
|xQd ζ η=>xic "number" ζ η
|xVC ζ=>xzt ζ boot_range
|xQe=>xzz Z6
|xQf=>kq I.hok eb
|xVD=>λ _=>0
|xvU=>E5 h
|xvV=>ES h
|xVE=>.fields us
|xVF ζ η=>h.DictOf (bX ζ η)
|xVG=>I.stkSub b
|xVH=>I.ok.cab x
|xz5=>tn i
|xZs=>letOwnedTupleGo tg
|xVI=>Hm hl.symm
|xKb=>pure x
|xss=>hs i
|xky=>[u]
|xKc=>xNk xky
|xKd=>by simpa using h2
|xVJ=>Un.kept hk
|xQg ζ η=>T.map (λ ζ=>η)
|xQh=>exp rs
|xVK=>spMove C
|xVL=>hx.same s0
|xKe=>.ref u
|xVM ζ η=>(Pc.cp ζ η).size
|xkz=>h k
|xKf=>by simpa using hy
|xvW ζ=>FW ζ hz
|xKg=>Gd Vt
|xQi ζ=>ζ=As.length
|xZt=>Nat.le_max_right _
|xQj ζ=>ζ*RP.length
|xKh=>by simpa using h0
|xZu=>MV (Z'.map (·.2))
|xVN=>Itm.rep r
|xZv ζ=>List.count_le_length (a:=ζ)
|xst=>cf e
|xsu=>b9 e
|xQk ζ=>Mn.length+ζ
|xE6=>kV k
|xVO=>MT.of htt7
|xQl ζ=>ζ+Rb.length
|xVP=>hD.uniq hn
|xVQ=>kp.tr ML
|xKi=>.ref h
|xZw ζ=>bitsP (W13.Itm.puts ζ)
|xKj=>two (n/65536%65536)
|xKk=>blk F'
|xsv=>xta 5
|xE7=>XV j
|xVR=>.ref fa
|xsw=>xap r
|xsx=>vN y
|xZx=>xcx "__classdict__"
|xvX=>P3 l5 n5
|xvY=>P3 p hp
|xvZ=>P3 j hj
|xVS ζ=>by show xbB (wpS_modify ζ)
|xQm ζ=>xeY (itm ζ)
|xQn ζ=>I.laid ζ Tl
|xKl=>xjo 114
|xQo ζ=>xe1 "wide" ζ
|xVT=>xcx "begun"
|xQp=>xds xpv "take"
|xsy=>Q xbV
|xVU=>xMo X.A.in1
|xE8=>xgF k
|xsz=>xGN x
|xv0 ζ=>xa1 ζ n1
|xkA ζ η θ ι=>xdp ζ η θ ι []
|xv1=>xX5 0 lo
|xKm ζ=>(xX7 ζ).1
|xZy=>xbD "are_of_things"
|xVV=>some v'
|xQq ζ=>Tm l.most ζ
|xsA=>xam 2
|xVW=>Mm.of ha
|xVX=>puts Pp
|xkB=>by show xe7 1
|xsB=>Χ c
|xVY=>.ret xtt
|xz6=>xjD q
|xKn ζ=>.inl (.inl ζ)
|xdo ζ=>∃m',ζ
|xv2 ζ=>(ζ).Pairwise (Le blt kf)
|xVZ=>xqT "range"
|xv3 ζ=>(cU ζ nl).symm
|xv4 ζ=>xqV ζ.2
|xz7=>by show xeq 256
|xsC=>xcF l
|xsD=>xCa H
|xv5 ζ=>xdy (aT ζ xfA)
|xv6=>xg2 xSS d
|xkC ζ η θ ι=>aF (xa5 ζ η θ) (ac ι) az
|xV0=>xML s1.toks
|xV1=>out.toList.Pairwise (SG.MM SG.kInt)
|xQr ζ=>kla_obj "<lambda>" ζ params
|xV2=>codeAny xx4
|xsE=>xg5 e
|xZz=>I.hok.fresh xm1
|xv7 ζ=>xlk bd ζ
|xKo=>(xB4 0).objs.size
|xKp=>xX5 xs.length hi
|xKq ζ η=>upd (xfm ζ η)
|xz8=>fC n s
|xsF=>fC d e
|xV3=>xCL "range"
|xsG=>Mj k
|xv8=>xTh hb e
|xsH=>[xut]
|xV4 ζ=>.inr (.inl ζ)
|xv9 ζ=>.a ζ IO
|xQs=>["signs","back","size"]
|xwa ζ=>ak fG (xCe ζ)
|xsI=>xjT xew t
|xZA=>xYz (fs.map (·.1))
|xsJ=>ES e
|xV5=>OldK s₁.heap s'.heap
|xQt ζ=>W 0 m [] ζ xHQ
|xwb ζ=>QP ζ ts ps
|xgy ζ η=>by have:ζ:=η;subst this
|xwc=>xuR _ rfl ?_
|xKr ζ η=>by have ζ:=hr.units;refine xca η
|xji ζ η θ=>by have ζ:η:=Ty;refine xca θ
|xE9=>xEC 6
|xsK=>xUP H
|xwd=>xOY ho hd
|xKs=>two (n%65536)
|xwe=>V2 K mg CK CO
|xZB=>Inv X L8 σ' H'
|xwf=>xZB s'
|xwg ζ=>At bs (p+ζ) 8
|xFa=>xwg 6
|xsL=>xJJ C
|xKt=>E1 (xaJ (E1 h))
|xsM=>Rm _ _
|xsN=>NJ _ _
|xwh=>LT (64*j)
|xsO=>xyU H h a
|xsP=>V1 K mg B D G' CW C0 C1 C2 C3 CK Mz CO C G Ce
|xsQ=>nU _ _ _ _
|xcK ζ η θ ι μ ν=>(ED (xfx ζ η θ) (xfx ι μ ν))
|xc2 ζ η θ=>by unfold ζ;rw [η,θ]
|xFb ζ η θ=>EG (JK ζ η θ)
|xFc ζ η θ=>EG (Jm ζ η θ)
|xV6 ζ=>{ζ with slots:=sl}
|xV7 ζ=>isTrue ζ X.env
|xFd=>hc L8
|xFe=>wi σ
|xZC ζ η=>λ ζ s3⟨z,H3,I3,r3,k,e,q3⟩=>η
|xKu ζ=>iZ (us:=ζ)
|xQu=>e0.bs b
|xKv=>E5 Z5
|xZD=>.seq its'.toArray
|xZE=>pre_splitW Yt
|xFf=>Mf H1
|xV8 ζ=>x.cps.size≤ζ
|xZF ζ η=>Builtin.«list.sort» ⟨ζ,η⟩
|xV9 ζ=>I.step (ch:=ζ)
|xwi ζ=>by unfold ζ at h⊢
|xQv=>Good ps
|xKw ζ=>bG ζ T.cl
|xQw=>Ord blt
|xQx=>O.neg _
|xZG=>Nv.k.trans hk
|xQy=>O.tot _
|xZH=>OR.k.trans hk
|xZI=>OR.f.trans hf
|xZJ ζ=>h.sq0.app (Mv.refl ζ)
|xZK=>pe.toList.map two
|xFg ζ=>min ζ Oj
|xFh ζ=>J9 ζ rfl
|xQz=>.refl _
|xZL ζ=>(h.trans ζ).cons_inv
|xQA=>Lu.mp h
|xFi=>Py sg
|xFj=>bO MR
|xFk=>ba.1
|xFl=>bb.1
|xFm=>num u
|xKx ζ=>atKey ζ k
|xFn=>aH Tz
|xFo ζ=>Px ζ pos
|xWa ζ=>ζ≠builtinsNs
|xZM=>defaultsOf params
|xZN=>congrArg Nat.pred
|xhr=>T w p
|xQB=>CK.Tn n
|xFp=>vN 66
|xZO=>mk3.take W.length
|xZP=>Sum.inr.inj e
|xQC=>hle hjs
|xFq=>xap l5
|xQD=>xaZ 1712
|xZQ=>I2.hok.fresh Tl
|xnX=>[xbV,Γ]
|xFr ζ=>(ζ).length<1000
|xnY ζ=>ED ζ (xfx Τ xed IO)
|xFs=>xdK lo
|xFt=>xbC T0
|xFu ζ=>xcy ζ 300
|xnZ ζ=>xdt ζ 1
|xFv=>Ez τ
|xwj ζ η=>MF K "__init__" ζ η f fd
|xZR ζ=>xwj "CodeReader.__init__" ζ
|xZS ζ=>xwj "BitReader.__init__" ζ
|xFw=>xir xdL
|xQE=>List xoq
|xQF=>List xis
|xQG=>.inr xeG
|xFx=>xqG vs
|xsR ζ=>by obtain⟨_,_,FI,bI,MI⟩:=ζ
|xFy=>xcd co
|xQH ζ=>by refine wpAny_call ζ
|xz9 ζ η=>by show Uf (E5 ζ) η
|xn0=>(blk T j).length
|xFz=>xix Sc
|xFA=>xix WF
|xFB=>xix xaS
|xFC ζ η=>xxs ζ η qual
|xqf ζ η θ ι μ ν=>xgQ ζ η θ ι 2000 μ ν
|xFD=>WA xhD
|xn1 ζ=>xYc ζ _
|xFE=>xby LV
|xFF=>Ν xb7
|xFG ζ=>xmE ζ all
|xFH=>xct Ot N9
|xZT=>(xB0).setIfInBounds
|xFI=>EH 64
|xjj ζ η θ ι μ ν=>⟨ζ,η,θ,rfl,ι,μ,ν⟩
|xQI=>xk5 Bool
|xKy ζ=>xG6 .And ζ
|xQJ=>.int xer
|xFJ=>xby xfO
|xFK=>xmK xfO
|xFL=>IntsAre vs ns
|xFM=>xm3 ()
|xFN=>xhs xHc V
|xFO=>ak cB ad
|xn2 ζ=>Q (vN ζ) H
|xFP=>K30.Rows K mg
|xZU ζ=>xM9 ζ entry_listiter_next
|xFQ=>vN xrr
|xFR=>xCp xHC
|xFS=>bG PP T0.cl
|xn3 ζ=>Ms C ζ p d R
|xsS ζ η θ ι μ=>xbn ζ η θ ι μ this
|xFT=>g x σ H'
|xn4 ζ η θ=>bW (D:=xxX) (K:=ζ) (a:=η) (xs:=θ)
|xFU ζ=>W ζ m' σ'
|xQK=>xBK (xmv xed IO)
|xKz ζ=>ζ+r.length
|xFV ζ η=>ta σ H (λ ζ H1=>η)
|xQL=>xqI kf xgP
|xFW=>xyS 14
|xQM=>xyh xdV I.ok.above
|xQN=>EW TQ lC
|xFX=>xYD pos []
|xFY=>W i m σ
|xFZ=>W 0 m σ
|xn5 ζ η θ=>xYj ζ η θ σ2 H2
|xF0=>RB C H' r d
|xF1=>Q none xmz
|xQO=>xlS xti
|xwk ζ η θ ι=>ci ζ hr Z7 η θ ι .nil
|xF2=>vN xUy
|xF3=>tt σ3 H3
|xF4 ζ η=>E7 (a:=ζ) (l:=η)
|xn6=>xtW a b out ia ib
|xF5=>OV K H Γ
|xn7 ζ=>Mt ζ H p d N
|xF6=>xOn fW QO
|xF7=>xnU xfB rx
|xKA=>FnD K mg
|xQP=>EW QL hn
|xF8=>TOk L Pp
|xQQ=>dt t.wb t.tb
|xF9=>Rds K mg
|xn8 ζ=>xFV x ζ
|xGa=>xct xUz n1 n2
|xWb=>Mg blt kf all
|xGb=>Mh blt kf all
|xGc=>KT H Mn xs
|xQR=>fnOf name qual params body scope
|xGd=>hb L8 s1 σ H1
|xl9=>by rintro rfl
|xWc=>Sum.inl a
|xWd=>Sum.inl b
|xWe=>Sum.inr a
|xWf=>Sum.inr b
|xWg=>K.In base
|xZV=>I.ok.funs.mem hb
|xZW ζ=>λ _ _ _ _ _ _ ζ=>h.elim
|xZX=>intBits_le_64 h1
|xwl=>fK r
|xWh=>T7 s.heap
|xZY=>c.names.lookup x
|xZZ=>tupleItemsOf_ ht
|xZ0=>wpAny_typeOf hTs
|xwm=>XM X
|xZ1=>Obj.mapSeq f
|xWi=>mg d.name
|xKB ζ η=>WR ζ η scope
|xZ2=>λ _ _ _=>Ai
|xQS=>.int 8
|xQT ζ η=>.cons ζ η .nil
|xwn=>ES c
|xQU ζ=>by simp [List.getD,ζ]
|xKC ζ η=>EM (HX ζ η)
|xwo=>mg x
|xwp ζ η θ ι=>by rintro ζ η⟨θ,rfl,ι⟩
|xWj=>BP.val B
|xwq=>H' p
|xZ3 ζ η θ ι μ=>by obtain⟨ζ,⟨_,_,η⟩,⟨_,_,θ⟩,⟨_,_,ι⟩,⟨_,_,μ⟩⟩:=Y
|xZ4=>getElem?_pos arr
|xZ5=>xs.toList.take i
|xQV ζ=>ζ=A'.length
|xKD=>Gy Mb
|xKE ζ η=>R.take (ζ-η)
|xZ6=>l.eraseIdx i
|xQW=>EH _ (xDV (EF RW MG))
|xAa=>ln p
|xAb=>Zc K a
|xWk=>KW.mpr h0
|xwr=>oE L
|xws=>oH L
|xZ7=>C.keeps I.bk
|xZ8=>toString ".loop"
|xWl ζ η=>by simp only [ζ,decide_true,η]
|xWm=>fS.at nS
|xma ζ=>F w p ζ s
|xwt=>Y7 R
|xWn=>.done rfl
|xZ9=>mg "BLOCK_SIGNS"
|xKF=>hd H2
|xWo=>V.int 184
|xWp=>K30.Wys K
|xWq=>K30.Shs K
|xWr=>K30.Raw K
|xWs=>K30.Run K
|xWt=>K30.Cpy K
|xWu=>K30.Shr K
|xwu=>UV m
|xwv=>UV q
|xWv=>xcM s.toks
|xKG ζ η=>⟨ζ,η,Tl⟩
|xWw=>.ref wt
|x0a=>putF "rest_size"
|xWx=>xcx "wide"
|xww=>Q xa0
|xWy ζ η=>C.filter (xf4 ζ η)
|x0b ζ=>Builtin.bitXor (XV ζ)
|x0c ζ=>Builtin.bitXor (LT ζ)
|xwx=>LT 0
|xWz=>xX6 "sign"
|xQX=>["bits","lengths"]
|xWA ζ η=>Wp "need_size" ζ η
|xWB ζ η=>Wp "are_whole" ζ η
|xmb ζ=>xtm (t+ζ)
|xwy=>xGQ b
|xGe=>xbw 3 hle tl
|x0d=>xbD "need_window"
|xQY ζ=>by show LE K30.C.Mu ζ
|xsT ζ η=>xbP H3 ζ η
|xQZ ζ η θ=>Mm.of (xaX ζ η θ)
|xKH=>xmm xoi
|xfw ζ=>by(rcases ζ with z|z)
|xsU ζ η=>Ε h' ζ η
|xGf=>xtd (253+y)
|xWC=>.cons rfl
|xGg=>pcAt S q
|xWD ζ η=>bindArgs ζ (xoC η)
|xwz=>EH 2
|xwA=>[xcV]
|xWE ζ η=>xcW "whole_bytes" "rest_size" ζ η
|xAc ζ η=>by cases ζ;show xc4 t η
|xGh=>xHd t
|xwB=>cpy S b
|xwC=>K30.WC K mg
|xwD=>xoS s
|x0e=>List.replicate k
|xwE=>xCA S
|xak ζ=>by rw [ζ];rfl
|xWF ζ=>MU.mp (EL ζ)
|xWG=>xTd b.size
|xGi=>xM7 scope f cd
|xWH=>xHV h.symm
|xQ0=>xCU st' L
|xWI ζ η=>xNj (holding ζ η)
|xsV ζ η θ ι=>by show xbU ζ η θ;clear ι
|xQ1 ζ η θ ι=>by obtain⟨_,_,ζ⟩:=η;have θ:=ι
|xKI=>I1.fpOk Tl xMu
|xqg ζ=>by show xgr nl ζ
|xWJ=>xYr a.size
|xQ2=>xqI kf k
|xwF=>Mm X.K H
|xGj=>xyT k
|xWK=>Walks.list (prog:=X.prog)
|xWL=>xh8 .NotEq
|xWM=>by show xfs True.intro
|xWN ζ=>xYy GP NO (xmU ζ)
|xwG=>xrU e
|xAd ζ η=>LoQ κ ζ η sq0
|xAe ζ η=>HiQ κ ζ η sq0
|xWO=>xza .plain
|xQ3 ζ η=>xft ζ (.inr η)
|xWP=>NB K "__init__" "Check.__init__" sCInit
|xwH=>xJq n
|xQ4=>Ds κ X
|xwI=>P1 [] 0
|xwJ=>xc1 k
|xQ5=>Pre++S
|xwK=>xar b tb
|xsW ζ η=>TL L ζ η Mn
|xWQ=>lc S p m
|xGk=>xWQ n
|xsX ζ=>by(rcases ζ with rfl|rfl|rfl)
|xWR=>Tm o.dict builtinsNs
|xGl=>xz4 i
|xQ6 ζ η=>xj9 (xlO ζ 1000000 η)
|xWS=>xz5 s.heap
|xf0 ζ=>Q ζ H
|xwL=>xar e te
|xQ7=>.m 3 Β
|xig=>[184,66,1]
|xwM=>g x σ' H2
|xKJ=>app B x
|xQ8=>.w IO 2
|x0f ζ=>xwj "Reading.__init__" ζ
|x0g ζ=>xwj "Presser.__init__" ζ
|xwN=>z≤18
|xGm=>xdm c o
|xwO=>Rd H a
|xwP=>fH a b c
|xwQ=>Oo _ _
|xwR=>Jd X G a
|xKK=>253+z
|xwS=>eW CX X E
|xwT=>xHE CX k f fd ps sp
|xwU ζ η θ=>by show LE (HD _ _ _ ζ η) θ
|xwV=>c4 _ _ _
|xwW ζ η=>wpS M A E s ζ η sq0
|xwX=>fz _ _ _ _
|xwY=>ja _ _ _ _
|xQ9 ζ=>ED (F9 ζ)
|x0h=>assignEach elts
|x0i=>Paired.length r
|xRa ζ=>.dict ζ ep
|xRb ζ=>h.Ns1 ζ mA
|x0j=>s.heap.IsCell c
|x0k=>storeName X.env
|xGn=>b::rest
|x0l=>h.IsListIter it
|x0m ζ=>wpAny_pyIter_list ζ ?_
|xWT ζ=>F.run ζ outer
|xRc ζ=>Jy (pl:=ζ)
|x0n=>N.take P.length
|x0o=>codeAny_func ?_
|xWU ζ=>IsTup.new ζ _
|x0p=>call_list_seq p
|x0q=>r.append r2
|xRd=>cT rv
|x0r=>intItems ys
|xAf ζ=>by unfold ζ;split
|xKL ζ η θ=>B.foldl (λ ζ η=>θ)
|xRe ζ η=>(ζ++η).foldl
|xRf ζ=>ζ*T.length
|xKM ζ η=>jD ζ (jY η)
|x0s=>Int.ofNat_le.1
|xAg ζ=>Wz ζ ts
|x0t ζ η=>Nat.succ_lt_succ (EM ζ η)
|xKN ζ η θ=>by(rcases ζ with z|⟨η,θ⟩)
|xRg ζ=>Ih (JH ζ)
|xRh=>XZ ()
|x0u=>b.toList.take 1
|xRi ζ=>Y.length-ζ
|x0v ζ=>(l.map ζ).eraseIdx
|xWV ζ=>Bs.flatten++ζ
|xKO ζ η=>EJ (show ζ from η)
|xRj ζ=>(ζ).keep s5
|xRk=>aj nt
|x0w=>rawInt pos.line
|x0x=>J2.turn fS2
|x0y=>Data.fields #[]
|x0z=>PySem.W.WalkO q
|xRl ζ=>bG ζ TB.cl
|xWW=>["row","before"]
|xGo=>["state","byte","wide"]
|x0A=>V.int.inj z
|xWX ζ η=>((ζ).mono η).imp
|xRm ζ=>T.length+ζ
|x0B=>Uh.trans s5
|xKP=>["bale","end"]
|xWY ζ=>ζ≤A2.length
|x0C=>K30.C.u1 hr
|xAh ζ=>xam ζ ps
|x0D=>xjp x.length
|x0E ζ η=>X.env.scope.names.lookup ζ=η
|xAi ζ=>xth ζ xf5
|xRn=>xcR hw
|xn9 ζ=>ζ=.non
|xWZ ζ=>(Str.ofString "key",ζ)
|xwZ=>[xWZ xeD]
|xjk=>by intro y;cases y
|x0F=>xbD "_law_taken"
|xjl ζ=>by show υ n ζ
|xW0 ζ=>.int ζ s.toks
|xjm=>H l
|x0G=>κ.keyOf xaC
|xRo ζ=>CodeHd ζ c
|xoa ζ=>ζ->Nat
|xGp=>xk0 xJ4 us
|xw0 ζ η θ ι=>∀ζ∈η,xeI θ ι
|xGq ζ η θ=>Tm (nsIn ζ mainGlobals η) θ
|x0H=>failedOf O2
|xRp=>xcE hp
|xAj ζ=>xf1 ζ Sc
|xcL ζ η=>by subst ζ;exact η
|xc3 ζ=>by show xcL e ζ
|xW1 ζ=>tailR S.length (xmu ζ)
|xRq=>xhK hp
|xKQ ζ η=>EF ζ (E4 η)
|xW2=>xtU "code" "length"
|xKR ζ=>⟨#[],ζ⟩
|xRr=>envX qual scope s.heap.objs.size
|xqh ζ=>xjS e ζ
|xW3 ζ η θ=>List.foldl ζ η (List.replicate θ its.toArray)
|xRs=>s'.heap.update c (xMp #[])
|x0I=>Int.lt_trans xt8
|xRt ζ=>xbb (xfj ζ)
|xRu ζ=>xcg (xcR ζ)
|xGr=>(xHk).map (sgl xmO)
|xRv ζ=>xYk ζ items
|xAk=>(xGL).push (xGK C)
|x0J=>xjV s2.heap.objs.size []
|xAl ζ=>xnd IO ζ
|xRw ζ=>bw ζ Z7 X.len
|xGs ζ η=>ζ+(η).length
|xqi=>vN (xrk t s)
|xRx=>xTk D0
|xRy=>xhc MD
|xW4 ζ=>xyz ζ u.length
|xmc ζ η θ ι=>by have ζ:=η;show ρ θ ι
|xAm ζ=>((bb.2).take ζ).count
|xRz ζ=>.a (xiB ζ)
|xRA=>xNx hp
|xRB ζ=>xqY (congrArg not ζ)
|xRC ζ=>xbv (xuC ζ)
|x0K=>rest.take s
|xRD ζ=>EC (ζ).symm
|xRE=>xrL IO
|xAn ζ=>xa1 ζ n5
|xRF=>LT xyV
|xeV ζ η θ ι μ=>Me K ζ η θ ι μ f fd
|xw1=>by show xcj EB
|xW5 ζ=>xfu (ζ).reverse
|xw2 ζ η=>xD1 FX F5 bC ζ η
|xqj ζ=>xa4 ζ 0
|xRG=>On (e (h1.trans z))
|xRH ζ=>xJs (Fh ζ)
|xRI=>A'++xcZ
|xAo ζ=>xk0 (xzu _) ζ
|xAp ζ=>hi L8 ζ σ
|xqk ζ=>xjo ζ 1
|xql ζ=>xjo ζ 0
|xAq ζ=>xkY ζ nx TN
|x0L ζ=>xwj "Opener.__init__" ζ
|x0M ζ=>xwj "BitRow.__init__" ζ
|x0N ζ=>xwj "Course.__init__" ζ
|xRJ=>by show xsR Z.init
|xRK=>mixN xb4 xrG
|xGt ζ η θ=>xcA ζ (te σ3 H5 η) θ
|xGu ζ η θ=>aL (On (hz xos)) (cW (Fh ⟨ζ,.inr η⟩) θ)
|xRL=>xjV wt []
|xqm ζ=>NM C ζ p d e L
|xea ζ η=>ζ->xdq η
|xAr ζ=>xea Hp ζ
|xRM=>E.le c
|xKS=>E8 Z6
|xAs ζ η=>by(injection ζ with η _)
|xW6=>u.keep b
|xRN=>hidT h H
|x0O=>AllBare s.gens
|x0P=>Array GenState
|xAt=>hl i
|xW7=>id I.loc
|xAu=>PW X
|xAv ζ=>h L8 ζ σ
|xKT=>hd σ
|xRO=>rule i
|x0Q=>looks_findIn X
|xW8=>FM.mpr h
|xW9=>IF.mpr h
|xXa=>CE outer
|xXb=>CX outer
|xXc=>Jg I.kIn
|xKU=>Wv xs
|xKV=>IxR X
|xXd=>HT.sIx n
|x0R=>compEnvC scope
|x0S ζ=>(ζ).env.cells.lookup x
|xKW=>tt σ
|x0T ζ=>wpAny_getItem_of ζ hm
|x0U=>h.IsStrIter it
|xRP=>num bs
|xXe=>kitOne K
|xKX=>ES vY
|xKY=>aH hp
|xAw=>H' a
|xRQ=>["body","head","window"]
|xKZ=>EI l1
|xK0=>EL hc
|xK1=>ki hO
|xXf=>Nj.mp hk
|xXg=>X.drop n
|xK2=>NA Rs
|xAx ζ=>(ζ:xaO).Nodup
|xAy=>[av]
|xRR=>nV rfl
|xkD=>q<272
|xXh=>L.length<272
|xAz=>E5 e
|xAA=>aH e
|x0V=>W13.PF tok.six
|xRS=>.cp bk z
|xXi=>MT.of Vz
|xK3=>EH 13
|x0W=>rawInt pos.col
|x0X=>X.base.get? bm
|x0Y=>.Lambda params
|x0Z=>h h'.objs.size
|x00=>toString "min"
|x01=>OQ.heap.get? b
|xXj ζ=>.inr (hd ζ)
|xK4=>hN.1
|xRT=>mixN c
|x02=>pure Flow.next
|x03 ζ η=>y.imp ζ (λ⟨y1,y2⟩=>η)
|xRU ζ η=>u.map (λ ζ=>η)
|xK5=>vN p1
|xXk=>V.int 66
|xK6=>Zu T j
|xXl=>K30.Yi K
|xAB=>xap o
|xK7=>xap l3
|xK8=>xaZ 12
|xK9=>xab Ot
|xLa=>cZ xeZ
|xAC=>XV p
|xAD=>vN a
|xRV=>.int k
|xAE=>xcP v
|xLb=>xef H4
|xRW ζ=>E1 (xgB ζ)
|xAF=>xbr 4
|xXm=>(xBz).size
|xRX=>RelV v
|xLc=>xgB xaa
|xAG=>xio c
|xih ζ η θ ι=>⟨ζ,λ η θ=>ι⟩
|xLd=>df xan
|xRY ζ η θ=>xbJ ζ η (NL.J' θ)
|xAH=>xBA n m
|x04=>xbD "weight_of"
|x05=>xbD "need_size"
|x06 ζ=>by show LE Array.size_setIfInBounds ζ
|xmd ζ η=>xhx 2 ζ η
|xXn ζ η=>xbS ζ η Value.none
|xRZ ζ=>z8 (xX9 ζ)
|x07 ζ=>List.replicate ζ none
|xAI=>xmo i
|xAJ=>Χ d
|xLe=>Χ ck
|xAK=>xiw p
|xR0=>xmq 300
|xLf=>xgc i'
|xLg=>SL (keepIn K xgD)
|xLh=>xSV xxk
|xXo=>nomatch e
|xXp=>(xBS).drop
|xXq=>.cons xbs
|xR1=>xfM 256
|xLi=>base.Ns mainGlobals mg
|xXr=>V.str xoD
|xAL=>xfd W
|xAM=>xfd R
|xAN=>xe3 B
|xAO=>xfd B
|xLj=>BP.val (C.take i)
|xXs=>xk6 "min"
|xLk=>xcF ck
|xAP=>xcF g
|xXt=>L.map (sgl xmO)
|xR2 ζ=>xag (xff ζ)
|xAQ=>xaZ 8
|xR3=>Ez xiF xsp
|xAR=>xar o ta
|xLl=>max 1
|xLm=>xMN s3
|xLn ζ η=>if ζ then η else 0
|xAS=>xch b
|xLo=>LT xiO
|xLp=>xoR VR
|xLq=>xoR TC
|xob=>64*i+T.length
|xR4=>Walk L
|xLr=>ak cB
|xXu ζ=>xf7 ζ (EP X L8 σ Q)
|xqn ζ=>xXu ζ s
|xR5 ζ=>s2.heap.push (xBB (xBR ζ))
|xXv=>MU.mp xt8
|xXw ζ=>g (.int ζ) σ
|xXx ζ=>(xHx ζ).sum
|xAT=>xmS r
|xLs ζ η=>SL (NL.le ζ η c.length)
|xAU=>xNe 1
|xXy=>Hf _ xrl
|xXz=>Hf _ xgU
|xqo ζ η θ=>xkW a6 ζ (aO η) θ
|xAV=>I.cell x c
|xw3 ζ η θ ι μ=>bw ζ Z7 η θ (xfy ι μ)
|xAW=>xCO x
|xR6 ζ=>ab (xCP ζ)
|xLt=>Ug.extBut a o'
|xLu ζ η=>xDW (Ug.extBut b ob ζ η)
|xLv=>K30.C.Mks K mg
|xAX=>MH κ a b
|xLw=>xdx xj2
|xLx=>xeY (k.map kV)
|xR7 ζ=>xaV (xoA ζ)
|xAY=>dig (xoS m) m
|xLy=>xrd (On (hz xos))
|xLz=>xhf xS2
|xLA=>tots (xoW xxk)
|xLB=>xrF 35
|xLC=>xfp H2
|xqp ζ η=>xbQ ζ (b≤η)
|xAZ=>ys++[y]
|xsY ζ=>xIe ζ xAZ xIi
|xA0=>Cls X.K C
|x08=>xDh "_law_code"
|x09=>xDh "_law_size"
|xR8=>xIm t''
|xXA=>closureFor scope X.env
|xA1=>xSR 0
|xqq ζ η θ=>xuN bd ζ η θ
|xLD=>xDo nl
|xw4 ζ η θ ι μ ν=>xII ζ η θ ι μ ν scope
|xLE=>xx9 X N cl s3 H3
|xoc ζ η=>by simp at ζ;exact η
|xA2 ζ=>NB K x ζ st dV
|xGv ζ η=>xqv ζ s h' η
|xA3 ζ=>xGv ζ t'
|xXB=>xaG (.n 16777216)
|xLF=>xfb Ps
|xGw=>xu7 j
|xLG=>xza xMG
|xA4=>k b u
|xA5=>(xG3 xeK)
|xR9 ζ=>xar (xI4 ζ)
|xA6=>xD4 N
|xXC=>xaG (xdf xfH)
|xSa=>MT X.K H
|xA7=>b≤255
|xXD=>xjX (xEp χ)
|xXE=>xgZ IO Sc
|xGx ζ η θ=>xpI ζ (xbR (Mm.of η)) θ
|xA8=>V0 L e
|xLH=>NB.i l9 c9 k9
|xLI=>PI X tg
|xSb=>xzx st'
|xXF=>FN (FU hx)
|xXG=>xTq (Fx z)
|xSc=>qz I.hok e
|xSd=>qe I.hok e
|xSe ζ=>aS (xaJ ζ)
|xGy=>UV (j+1)
|xA9=>UV (i+1)
|xGz ζ η θ=>xDZ ζ (rI η (xER θ))
|xLJ ζ η=>xDZ ζ (RM (xER η))
|xGA ζ η θ=>xqs (xS4 ζ η θ [] pos)
|xGB ζ η θ=>xar (xS4 ζ η θ [] pos)
|xXH=>xa2 (xiD xaA)
|xSf=>N8 sq0 st'
|xSg=>spT u B
|xSh ζ η θ=>if ζ then some η else θ
|xod ζ η=>by show xoo ζ η hz (I.list hq)
|xXI=>λ _ _ q=>xz6
|xLK=>.a Φ
|xLL=>xQt (xBy none)
|xLM=>by have hlen:=r'.length
|xSi=>A σ' H'
|xBa=>A v H'
|xSj=>B σ' H'
|xBb=>B v H'
|xLN=>xvP (xlK≠.cell)
|xLO=>hint+la
|xBc=>e≠ck
|x1a=>xKA "pieces_of"
|xSk=>xWb out
|xSl ζ η=>(d8 ζ η).symm
|xsZ ζ η=>⟨ζ,?_,η⟩
|xXJ=>instObj C dx
|xLP=>xtd (253+z)
|xLQ=>xQ0 Rs
|xSm ζ=>xqP (xWN ζ)
|xSn ζ=>xej (xWN ζ)
|xLR=>xQ4 D0 Eb
|xXK ζ=>xf0 (.str ζ)
|xLS ζ η=>EF ζ (Hb η _)
|xXL=>(X.mg "__name__").getD .none
|xBd=>WD K mg
|xBe=>Yh K mg
|xLT=>xyg ah q
|xBf ζ η=>xqD f (some ⟨oc,od,.func ζ,η⟩)
|xGC ζ=>xBf ζ osl
|xLU=>xbo xrx.1
|xLV ζ η=>xqP (xw2 ζ η)
|xXM=>xaJ (aS (xeR (NJ.trans xNV)))
|xLW ζ η=>EG (Ij (EG (JM ho hd ζ η)))
|xLX=>Un fs ex
|xXN=>σ.set i xaw
|xLY=>tb σ H1
|xGD ζ η θ=>QJ P w ζ η base θ outer
|xBg=>su _ _
|xBh=>Uh _ _
|xLZ=>chk 8 29
|xL0=>Tbs K mg
|xBi=>Yf R W
|xBj=>RK _ _
|xBk=>s7 _ _
|xBl=>Μ (xSY a)
|xXO=>xo7 (xgZ Sc WF)
|xBm ζ=>ζ->Hp->xdq VK
|xw5=>xBm M2
|xL1=>O8 (xIV 0) xdb
|xL2=>PI X Mc iter wi
|xXP=>xJI (.m 16 Β)
|xSo=>ji Co.F S0.Zb R0.W.cl T.m T.b GT
|xGE=>p≠d
|xBn=>Ww K mg C
|xL3=>ka ho hd Z6
|xL4=>cs C0 C1 C2 C3
|xBo=>xtT _ _ e
|xL5=>xBm xc6
|xL6=>xbD "need_row" ca Jag fN TJ
|xL7=>xbD "ones" gz Jai fO Y4
|xBp ζ=>VZ K mg B D ζ CW C0 C1 C2 C3
|xBq=>sj _ _ _ _
|xL8=>qw Cp Ce CO CK
|x1b=>Value.bytes b
|x1c=>Paired.mapP r
|xL9 ζ=>ζ∈X.ex
|xXQ ζ=>λ _ _ _ e=>ζ
|xs0 ζ=>t ζ σ
|x1d=>.UnaryOp .Not
|x1e=>I.list_inj hy
|x1f=>IsRangeIter _
|xme=>r x
|x1g=>r.append hd
|x1h ζ=>h ζ s.heap.objs.size
|x1i=>codeRec_of KX
|xSp ζ η=>if c then ζ else η
|xSq ζ η=>js.map (λ ζ=>η)
|x1j=>I.hok.kept hk
|xMa ζ=>PE ζ elt
|xXR ζ=>ζ<x.cps.size
|xMb ζ=>by(injection h with ζ)
|xXS ζ=>gl ζ T.range
|xMc ζ=>runP ζ P
|xMd ζ=>io ζ key
|x1k=>pendingOf st'
|xMe ζ=>λ ζ=>rfl
|xSr=>jp ()
|xSs ζ=>ζ<Y.length
|x1l=>Nat.max_le.2
|xXT ζ=>(ζ,r.length)
|x1m=>Z'.map (·.1)
|x1n=>Z'.map (·.2)
|x1o=>sm.trans s5
|x1p=>Xx.trans s6
|xSt ζ η=>Mn.map (λ ζ=>η)
|x1q=>Paired.snoc r
|xs1 ζ=>Oh ζ a
|x1r=>Int.le_refl _
|x1s ζ=>Builtin.bitAnd ζ 255
|xXU ζ=>ζ≤b.length
|xSu ζ=>ζ≤F.length
|x1t=>K30.C.bt Rb
|xw6=>3≤z
|x1u=>xqw kv.toArray
|xXV ζ=>some (xSQ ζ)
|xs2=>xcm P X
|xXW ζ=>xxb "tuple" ζ
|x1v=>X.Pairwise xbW
|x1w=>l.Pairwise xbW
|xXX ζ=>I.write ζ xec
|x1x=>xbC its.length
|xSv=>xdN h1
|x1y=>xbD "in_pairs"
|xs3 ζ=>by show LE ER ζ
|xBr=>xtn o u
|xs4 ζ=>xBE a ζ
|xBs ζ=>by show xc4 rfl ζ
|xs5 ζ=>by show Uf e1 ζ
|xSw ζ η=>xaL "read" ζ η
|xSx ζ η=>xaL "tell" ζ η
|xSy=>xbb hp
|xXY ζ=>xMx "slice" ζ
|xSz ζ=>⟨?_,ζ⟩
|xGF ζ η=>by obtain⟨ζ,e⟩:=η
|xSA ζ η=>xcW "whole_bytes" "rest" ζ η
|x1z=>xSZ Value.none
|xSB=>xxz xq4
|xs6 ζ=>num (xxc p ζ)
|x1A=>xdC "finished"
|xSC=>xm8 ha
|xw7 ζ η=>⟨Mc,iter,ζ,η⟩
|xXZ ζ=>putF "begun" (.bl ζ)
|xBt ζ=>xfk IO IO ζ
|x1B ζ=>xM6 ζ (Z'.map (·.2))
|xGG ζ=>xc8 _ ζ rfl
|xkE ζ η=>xub (λ ζ H1=>η)
|xX0 ζ=>getItem ζ xNf
|xMf=>Wp "is_whole" cm Jab
|xs7 ζ=>xCp (xS5 ζ b)
|xSD=>Ρ bb.2
|xs8 ζ=>autoParam (¬x=ζ) ZY
|xSE=>xhj TH
|x1C ζ=>a.setIfInBounds ζ xhW
|xw8 ζ η=>xnt (λ ζ=>η)
|xMg=>xT2 Wu wt1
|xMh ζ=>256^(ζ).length
|xBu=>b≠e
|xMi ζ=>blt ζ xgP
|x1D=>xYR X.length
|xX1 ζ η=>xe1 "many_signs" ζ (xSX η [])
|xGH ζ η θ=>xSU ζ (xX1 η θ)
|x1E=>xUh sysModules
|xSF=>xj4 (FO MR)
|xMj ζ=>(IJ ζ).mp rfl
|xMk ζ=>xc8 rfl rfl ζ
|xSG=>(xxj).take k
|x1F ζ=>by show xzm Builtin.Range.rangeSize ζ
|xBv=>xvA H g wt
|xSH=>xga xEK
|xSI=>xPe xBY
|xs9 ζ=>xjo ζ 2
|xMl ζ η θ=>by show xhS ζ η θ;exact this
|xSJ=>hint+of
|x1G ζ=>xwj "Head.__init__" ζ
|xMm ζ=>⟨o,ζ⟩
|xw9=>Ε x H' y
|x1H=>A.deeper xGi
|xX2 ζ=>ζ="finished"
|xSK=>xfm H (xB7 true)
|xX3 ζ=>xqp ζ 1000000
|xSL=>xGG xg1
namespace NL
inductive E where
 |v (i:Nat)
 |n (k:Nat)
 |a (x y:E)
 |m (k:Nat) (x:E)
 |w (x:E) (k:Nat)
def At:Fr->xbz
 | [],_=>0
 |x::_,0=>x
 |_::l,i+1=>At l i
def E.d (c:Fr):xoa E
 | .v i=>xD4 i
 | .n k=>k
 | .a x y=>xly+xzv
 | .m k x=>k*xly
 | .w x k=>xly*k
def E.k:xoa E
 | .v _=>0
 | .n k=>k
 | .a x y=>x.k+y.k
 | .m k x=>k*x.k
 | .w x k=>x.k*k
def E.p (j:Nat):xoa E
 | .v i=>xbc i j 1 0
 | .n _=>0
 | .a x y=>xzw+y.p j
 | .m k x=>k*xzw
 | .w x k=>xzw*k
def dot (c:Fr)(f:xbz):xbz
 |0=>0
 |i+1=>dot c f i+f i*xD4 i
theorem Af:∀(c:Fr) (i:Nat),c.length≤i->xD4 i=0
 | [],_,_=>rfl
 |_::_,0,h=>absurd h (Nat.not_le.2 xrl)
 |_::l,i+1,h=>Af l i (Kr h)
theorem t8 (c)(f g:xbz):∀N,xw8 j (f j+g j)=xnt f+xnt g
 |0=>rfl
 |N+1=>by
  show xw8 j (f j+g j)+(f N+g N)*xA6=_;rw [t8 c f g N,Io,Nat.add_add_add_comm];rfl
theorem sN (c)(k:Nat)(f:xbz):∀N,xw8 j (k*f j)=k*xnt f
 |0=>rfl
 |N+1=>by
  show xw8 j (k*f j)+k*f N*xA6=k*(xnt f+f N*xA6);rw [sN c k f N,Iq,FV]
theorem oM (c)(k:Nat)(f:xbz):∀N,xw8 j (f j*k)=xnt f*k
 |0=>(Ju k).symm
 |N+1=>by
  show xw8 j (f j*k)+f N*k*xA6=(xnt f+f N*xA6)*k;rw [oM c k f N,Io,Nat.mul_right_comm]
theorem pL (c):∀N,xnt xVD=0
 |0=>rfl
 |N+1=>by show xnt xVD+0*xA6=0;rw [pL c N,Ju]
theorem t7 (c)(i):∀N,xw8 j (xbc i j 1 0)=xLn (i<N) (xD4 i)
 |0=>rfl
 |N+1=>by
  show xw8 j (xbc i j 1 0)+(xbc i N 1 0)*xA6=_;rw [t7 c i N];rcases Lk i N with h|h|h
  ·rw [xvU,ES (FL h),Ju,E5 (HY h)];rfl
  ·subst h;rw [ES xli,xai,Nat.one_mul,E5 xna,Ge]
  ·rw [ES (Nat.lt_asymm h),ES (Ja h),Ju,ES (xBK h)]
theorem E.sum (c:Fr):∀x:E,xly=x.k+xCK (λ j=>xzw)
 | .v i=>by
  show xD4 i=0+xCK (λ j=>xbc i j 1 0);rw [t7,Ge];by_cases h:i<c.length
  ·rw [xvU]
  ·rw [xvV,Af c i (xMr h)]
 | .n k=>by show k=k+xCK xVD;show xak pL
 | .a x y=>by
  show xly+xzv=x.k+y.k+xCK (λ j=>xzw+y.p j);rw [xDy x,xDy y,t8,Nat.add_add_add_comm]
 | .m k x=>by
  show k*xly=k*x.k+xCK (λ j=>k*xzw);rw [xDy x,sN,Iq]
 | .w x k=>by
  show xly*k=x.k*k+xCK (λ j=>xzw*k);rw [xDy x,oM,Io]
def le (x y:E):xby Bool
 |0=>Nat.ble x.k y.k
 |i+1=>le x y i&&Nat.ble (x.p i) (y.p i)
theorem yg (c)(f g:xbz):∀N,(∀i,i<N->f i≤g i)->xnt f≤xnt g
 |0,_=>Tl
 |N+1,h=>Ez (yg c f g N λ i hi=>h i (HY hi)) (KI _ (h N (Gs N)))
theorem AD (x y:E):∀N,SL (le x y N)->x.k≤y.k/\∀i,i<N->x.p i≤y.p i
 |0,h=>⟨Kz h,xe9 i hi hi (KQ i)⟩
 |N+1,h=>by
  have h:SL (le x y N&&Nat.ble (x.p N) (y.p N)):=h;rw [JQ] at h;show xck h1 h2 (AD x y N xb0) (xen h1 i hi);show xbx i N q q
  ·exact h2 i q
  ·show LE (xQ9 hi q) (Kz xeU)
theorem E.le (c:Fr)(x y:E)(h:xLs x y):xly≤xzv:=by
 rw [xDy x,xDy y];show xcb h1 h2 (AD x y _ h) (Ez h1 (yg c _ _ _ h2))
def by' (c:Fr)(l r x y:E)(h:l.d c≤r.d c)(k:xLs (.a x r) (.a y l)):xly≤xzv:=
 K7 (xLS (xRM (.a x r) (.a y l) k) h)
def P0 (k:Nat)(c:Fr)(l r x y:E)(h:l.d c≤r.d c)(q:xLs (.a (xaG (.m k x)) r) (xf1 k (xaG y) l)):xly≤xzv:=by
 have h2:=K7 (xLS (xRM (.a (xaG (.m k x)) r) (xf1 k (xaG y) l) q) h);have h3:k*xly<k*(xzv+1):=h2;exact F9 (Nat.lt_of_mul_lt_mul_left h3)
def of0 (c:Fr)(x y:E)(k:xLs x y):xly≤xzv:=xRM x y k
def no (c:Fr)(l r:E)(h:l.d c≤r.d c)(k:xLs (xaG r) l):False:=
 xli (Fq h (xRM (xaG r) l k))
def K' (a b:Nat):a≤a-b+b:=by
 rcases LN b a with h|h
 ·show LE (Js h) Tl
 ·exact EF h (KY _ _)
def J' {a b:Nat}(h:b≤a):a-b+b≤a:=EC (Js h)
def M3 (a k:Nat)(h:SL (Nat.blt 0 k)):a+1≤k*(a/k)+k:=by
 have h1:=HF a k;have h2:=Hf a (Kz h:0<k);rw [<-Nat.succ_eq_add_one,<-h1];show LE h1 (EM (Fq (EC h1.symm) (HX h2 _)) Tl)
universe NL
namespace QQ
open PySem PyProof.Rows
def Cx2 (h:L4)(a:LV)(vs:xt7):Prop:=xXn vs 2\/∃b ob us,vs[2]?=xap b/\b≠a/\Tm xeg ob/\ob.data=xVE/\6≤us.size/\xXn us 2
def Hq (A:L3)(h:L4):Prop:=xUM\/∃a o vs,A.handled=xaQ/\xt2=Id/\xLG/\6≤vs.size/\Cx2 h a vs
def Hq.keep {A:L3}{h h':L4}(q:Hq A h)(k:∀a o vs,xt2=Id->xLG->6≤vs.size->h'.get? a=Id):Hq A h':=by
 rcases q with q|⟨a,o,vs,e,g,d,z,c⟩
 ·show xa8 q
 ·refine .inr ⟨a,o,vs,e,k a o vs g d z,d,z,?_⟩;rcases c with c|⟨b,ob,us,e1,n,e2,e3,e4,e5⟩
  ·show xa8 c
  ·show xdG ⟨b,ob,us,e1,n,xDW us e2 e3 e4,e3,e4,e5⟩
def ko:Tm (entryFor table "proto.unchain") Builtin.«proto.unchain»:=entryFor_of_fast (by kernel_rfl)
def qb (hq:Hq A h0)(hk:∀b o,h0.get? b=Id->xfo/\xBu)(he:xgN e oe)(hd:oe.data=xMG)(hz:2<vs.size)
  (h:∀h' o',xtP e o'->o'.cls=oe.cls->xG5 e h'->E xoL xmz):xhf (raiseNew xoL:Sem α):=by
 unfold raiseNew;refine EG (wpAny_handled ?_);rcases hq with q|⟨a,o,us,ea,ga,da,zz,za⟩
 ·show LE q (xrs (wpAny_throw (h s.heap oe he rfl (Heap.SameBut.refl ..))))
 ·rw [ea];show xks ga nae (hk a o ga) ne (SL (xfB !=xUV)) (by simp [bne,nae])
  show xtB (xcA (xfB !=xUV) _ _) _;rw [E5 ne];have fin:xhf (updateField e 2 Γ>>= λ _=>throw xoL):=by
   refine EG (JM he hd hz ?_:xiE (setField xoL 2 Γ));exact wpAny_throw (xlo (Heap.get?_update_self _ he (Obj.isFreed_of_fields (Obj.data_mapFields hd _))) (Obj.cls_mapFields _ _) (IG ..))
  refine xrt (wpAny_runValue (Kh ko ?_));show xiE (field Γ 2>>=_);rcases za with za|⟨b,ob,vb,eb,nb,gb,db,sz,zb⟩
  ·refine EG (G8 ga da za ?_);show xvd (x1z) _ _;show xz9 Z7 (xrs xjC);exact fin
  ·show xck gb nbe (hk b ob gb) (EG (G8 ga da eb ?_));have n1:Μ (xxG b):=rfl;have n2:Μ (xCi==xUV):=by simp [nbe]
   have n3:Μ (xCi==xfB):=by simp [nb]
   simp only [n1,n2,n3,Hj,JP];refine xrs (E1 ⟨Code.quiet_builtin _ Z8,Kh ko ?_⟩);show xiE (field xus 2>>=_);refine EG (G8 gb db zb ?_);show xvd (x1z) _ _;show xz9 Z7 (xrs xjC);exact fin
def cS {prog:LY}(hq:xp0)
  (h:∀h' e,(∀b o,xfo->xda=Id)->(∃o,xIw=Id/\o.cls=xMF)->E' xoL xmz):
  xmJ (newExc xMF []>>= λ v=>(raiseNew v:Sem α)) R E' s:=by
 show xyZ xJE newExc newTuple;show xgj (IA ?_ (by size_fits)) (wpAny_of_eq (by first|rfl|(simp only [firstArgMember];rfl)) ?_);refine IA ?_ (by size_fits);have k2:∀b o,xfo->xEr ((xGJ "tuple" (xBR ([]:xa3))).push (xMx "StopIteration" (#[xok,.none,.none,.none,.bool false,.none]++ownMembersOf xMF [])))=Id:=
  λ b o e=>xjD xd0
 refine qb hq (λ b o e=>xde (k2 b o e)) xg1 rfl (by show LE Array.size_append (EM (show 2<6 by decide) xes)) λ h' o' ge ce sb=>?_
 ·intro z;show xhS xdV z JJ;show xaq this (Ll.mpr xm1)
 ·refine h h' _ (λ b o e=>xHS o (xc5 z) (k2 b o e)) ⟨o',ge,ce⟩;show xhS xdV z JJ;show xaq this (Ll.mpr xm1)
def ka {h:L4}(g:h.get? it=Id)(d:xLG)(z:vs.size<6)(g':xs4 o')(d':o'.data=xVE)(z':6≤us.size):a≠it:=by
 show xl9;show W1 g g' g';show xhX d d' d' (xru Τ (xa4 NE 6) (xdP 6) (Ez z z'))
def Ud {items}(hq:xp0)
  (hit:xTi l i) (hl:xTG l) (hx:xPp)
  (hQ:∀h',xzZ->xF1):xLz:=by
 show xmY o ho hc hd hit;obtain⟨ol,hol,_,nl,X7⟩:=hl;show xEV;refine xyP (xHn Ki (xZU Ki ?_ xYU));show xkw 0;refine xwd;show xvd (xxG l) _ _;rw [ES (show¬(SL (xxG l)) from Fb)];show xkw 1;refine xwd;show xiE (xCQ xa0 _);show xyZ (xFb hol X7 ?_) E2 hx;refine xLW Z6 ?_;have Ug:=xGM (h:=s.heap) it;refine xHF (λ a o' us e d' z'=>xLt (xL3 e d' z') e) (λ h' e k z9=>?_)
 show xbd o' ge ce z9 (xFc (xbu ge ce) JN ?_);exact xy3 _ (λ b ob hb e1=>xLu hb e1)
def qA {items}(hq:xp0)
  (hit:s.heap.IsTupleIter it t i) (ht:s.heap.IsTuple t items) (hx:xPp)
  (hQ:∀h',xzZ->xF1):xLz:=by
 show xmY o ho hc hd hit;obtain⟨ol,hol,_,nl,X7⟩:=ht;show xEV;refine xyP (xHn F.slot_tuple_iterator_next (xM9 F.slot_tuple_iterator_next F.entry_tuple_iterator_next ?_ (F.args_tuple_iterator_next_1 _)));show xkw 0;refine xwd;show xvd (xxG t) _ _;rw [ES (show¬(SL (xxG t)) from Fb)];show xkw 1;refine xwd;show xiE (xCQ xgR _);show xyZ (xFb hol X7 ?_) E2 hx;refine xLW Z6 ?_;have Ug:=xGM (h:=s.heap) it;refine xHF (λ a o' us e d' z'=>xLt (xL3 e d' z') e) (λ h' e k z9=>?_)
 show xbd o' ge ce z9 (xFc (xbu ge ce) JN ?_);exact xy3 _ (λ b ob hb e1=>xLu hb e1)
def Ph {x left step:Int}(hq:xp0)(hit:xHr s.heap x left step)(hleft:left≤0)
  (hQ:∀h',xzZ->xF1):xLz:=by
 have hT:s.TypeIs xoj "range_iterator":=xrC hit;show xEV;refine xyP (Gz hT F.slot_range_iterator_next (HR F.slot_range_iterator_next hT F.entry_range_iterator_next ?_ (F.args_range_iterator_next_1 _)));show xkw 0;refine xOY hit rfl;show xkw 1;refine xOY hit rfl;show xkw 2;refine xOY hit rfl;show xiE (if left≤0 then _ else _);rw [E5 hleft];show xxq (Ij (EG ?_)) (cS hq λ h' e k z9=>?_)
 show xbd o' ge ce z9 (xFc (xbu ge ce) JN ?_);exact xy3 _ (λ b ob hb e1=>xDW e1)
def Oc (hq:xp0)(ht:xRv t)
  (hQ:∀h',xZr->Q items.toList xmz):xhf (unpackItems xgR items.size none):=by
 have nt:xxr t:=by obtain⟨o,ho,_⟩:=ht;exact FL (Fk ho)
 unfold unpackItems;refine xJE;unfold notIterableAtAll;show xyZ (EG (wpAny_specialOf ht.typeIs slot_tuple_iter.lookup xjC)) Hj JP;refine xrt (iter_tuple ht (xrt (draw_tuple nt items.size 0 _ _ xSL (ht.push _) (xmv (xdP 0) IO) (Ε g1 i1 b1))));rw [show List.take items.size (List.drop 0 items.toList)=items.toList by show LE Hy xKS,ES Z6];have k1:∀b o,xxr b->xfo->g1.get? b=Id:=λ b o hb e=>b1.extBut b o hb xd0
 have q1:Hq A g1:=hq.keep λ a o _ e _ _=>k1 a o xDt e
 have t1:IsTup g1 t items:=(ht.push _).extBut b1.extBut nt;refine xrt (qA q1 (show g1.IsTupleIter _ t _ from i1) (show g1.IsTuple t items from t1) Z6 (P3 g2 x2));simp only [Option.isSome_none,Hj,JP];exact xy3 g2 (λ b o hb e=>x2 b o hb (k1 b o hb e))
def QA {x1}(hq:xp0)(ht:xRv t)
  (hn:xaI (x0h env) items.size) (hstar:xac ((x0h env).findIdx? (·.1)))
  (h:∀h',xZr->xCC (assignInOrder ((assignEach elts env).map (·.2)) items.toList) xmz):
  xhf (assign (.Tuple elts x1 pos) env xgR):=by
 show Uf assign_Tuple (xMQ ?_);show xc2 unpack hn hstar;exact xrt (Oc hq ht h)
universe QQ
namespace L2
open PySem PySem.Spec PyProof.Rows
abbrev Key:=Sum Int Str
def lK:Key->xoT LW
 | .inl k,v=>Value.isInt k v
 | .inr x,v=>Value.isStrOf x v
def Ex (w:LZ):Key->Int
 | .inl k=>hashInt k
 | .inr x=>hashStr w x
theorem bJ:∀{k} {v},SL (lK k v)->(∃i t,k=Sum.inl i/\v=xxZ i)\/(∃x t,k=Sum.inr x/\v=xIc x)
 | .inl i,v,h=>by
  show xcb t e (Value.isInt_shape h) (.inl (xc8 i t e))
 | .inr x,v,h=>by
  show xcb t e (Value.isStrOf_shape h) (.inr (xc8 x t e))
def uE (i)(t):SL (lK (.inl i) xnj):=by simp [lK,Value.isInt]
def vq (x)(t):SL (lK (.inr x) (xun t)):=by simp [lK,Value.isStrOf]
def Ct (a b):xdt (xWc:Key) xWd=(a==b):=by
 by_cases e:a=b
 ·subst e;simp
 ·have h:¬(xWc:Key)=xWd:=λ q=>e (Sum.inl.inj q)
  show LE (FZ h) (IF.mpr e).symm
def Cy (a b):xdt (xWe:Key) xWf=xdt a b:=by
 by_cases e:a=b
 ·subst e;simp
 ·have h:¬(xWe:Key)=xWf:=λ q=>e (Sum.inr.inj q)
  rw [FZ h,FZ e]
def A4 (a)(b):Μ (xdt (xWc:Key) xWf):=FZ (λ q=>nomatch q)
def Bg (a)(b):Μ (xdt (xWe:Key) xWd):=FZ (λ q=>nomatch q)
noncomputable def bX (prog) (w):PySem.KeyKind prog w Key where
 is:=lK
 hash:=Ex w
 inj:=λ v a b ha hb=>by
  rcases bJ ha with⟨i,t,rfl,rfl⟩|⟨x,t,rfl,rfl⟩
  ·rcases bJ hb with⟨j,u,rfl,e⟩|⟨y,u,rfl,e⟩
   ·show xAs e e1;rw [e1]
   ·exact xXo
  ·rcases bJ hb with⟨j,u,rfl,e⟩|⟨y,u,rfl,e⟩
   ·exact xXo
   ·show xAs e e1;rw [e1]
 byValue:=λ k v h=>by
  rcases bJ h with⟨i,t,rfl,rfl⟩|⟨x,t,rfl,rfl⟩<;>rfl
 pyHash:=λ hv h=>by
  rcases bJ hv with⟨i,t,rfl,rfl⟩|⟨x,t,rfl,rfl⟩
  ·exact wpAny_pyHash_int h
  ·exact wpAny_pyHash_str h
 eqBool:=λ hu hv h=>by
  rcases bJ hu with⟨i,t,rfl,rfl⟩|⟨x,t,rfl,rfl⟩
  ·rcases bJ hv with⟨j,u,rfl,rfl⟩|⟨y,u,rfl,rfl⟩
   ·show π Ct h (wpAny_eqBool_int h)
   ·show π A4 h (SeqAt.EqAt.int_str i t y u _ _ _ _ h)
  ·rcases bJ hv with⟨j,u,rfl,rfl⟩|⟨y,u,rfl,rfl⟩
   ·show π Bg h (SeqAt.EqAt.str_int x t j u _ _ _ _ h)
   ·show π Cy h (wpAny_eqBool_str h)
 «strs»:=λ k x t v h=>by
  rcases bJ h with⟨i,u,rfl,e⟩|⟨y,u,rfl,e⟩
  ·exact xXo
  ·show xAs e e1
   subst e1;cases v<;>rfl
def oG (prog)(w)(i)(t):SL ((bX prog w).is (.inl i) xnj):=uE i t
def o4 (prog)(w)(x)(t):SL ((bX prog w).is (.inr x) (xun t)):=vq x t
def RelV:xea V LW
 | .non,u=>u=Value.none
 | .bl b,u=>u=Value.bool b
 | .int i,u=>∃t,u=xxZ i
 | .str x,u=>∃t,u=xIc x
 | .byt b,u=>∃t,u=x1b t
 | .flt b,u=>∃t,u=xVs b
 | .ref a,u=>u=xfB
 | .ty n,u=>u=Value.type n
abbrev Vals:xea M2 xa3:=Paired RelV
theorem Vals.length (r:xnp):xI1 us.length:=x0i
theorem Vals.get:∀{xs} {us} {i:Nat} {x},xnp->xfg=xas->∃u,xaU us=xaP/\xsz
 |_,_,_,_,.nil,e=>by simp at e
 |_,_,0,_,.cons r _,e=>by simp at e;show xc3 (xaJ r)
 |_,_,i+1,x,.cons _ t,e=>by
  show xbp u h1 h2 (Vals.get t (by show xuX)) ⟨u,by show xur,h2⟩
theorem Vals.set (r:xsz):∀{xs} {us} i,xnp->Vals (xs.set i x) (us.set i u)
 |_,_,_,.nil=>.nil
 |_,_,0,.cons _ t=>.cons r t
 |_,_,i+1,.cons q t=>.cons q (Vals.set r i t)
def Vals.append (h:xnp)(s:Vals ys ws):Vals (xs++ys) (us++ws):=by
 induction h with
 |nil=>exact s
 |cons r _ ih=>exact xk7 r
theorem Vals.take (n)(h:xnp):Vals (xs.take n) (us.take n):=by
 induction h generalizing n with
 |nil=>cases n<;>exact .nil
 |cons r _ ih=>cases n with
  |zero=>show xib
  |succ n=>exact .cons r (ih n)
theorem Vals.drop:∀{xs} {us} n,xnp->Vals (xs.drop n) (us.drop n)
 |_,_,0,r=>r
 |_,_,_+1,.nil=>.nil
 |_,_,n+1,.cons _ t=>Vals.drop n t
def NX:xea xdu xSM
 |some v,some u=>xd5
 |none,none=>True
 |_,_=>False
def KV:xea xr5 (xhs κ LW):=Paired λ(p:κ×V) (q:κ×LW)=>xaC=xbt/\RelV xhZ xb7
def kV:Key->V
 | .inl i=>xcq
 | .inr x=>xun
inductive HO where
  |lst (xs:M2)
  |tup (xs:M2)
  |dK (Mn:xuU)|dT (Mn:xFN)
  |set (S:xoT Int) (n:Nat)
  |ins (C dx:LV) (fs:xfn)
  |own (x:LV)
  |xd (fs:xfn)
  |met (f x:LV)
  |rng (lo hi:Int)
  |frz (o:L6) (u:HO)
  |tbl (ps:xt7)
  |ext (φ:xdq L4)
abbrev Hp:=LV->Option HO
noncomputable def upd (H:Hp) (a:LV) (o:HO):Hp:=λ b=>xbc b a Id xaN
def i' {H:Hp}:xu6 a=Id:=by show xci upd xai
def ai {H:Hp}(h:b≠a):xu6 b=xaN:=by show xci upd xvV
def dP {H:Hp}{a:LV}{o u:HO}:upd xu6 a u=xuM u:=by
 funext b;unfold upd;split<;>rfl
def aH {H:Hp}(h:UF=Id)(h':xaN=xaP)(d:o≠u):a≠b:=by
 intro e;subst e;show π h h' (d (Fx h'))
def ae {H:Hp}(h:UF=Id)(h':xd3):a≠b:=by
 intro e;show xb3 e h h' h'
section
variable (P:LY)(w:LZ)
def My (H:Hp)(h:L4)(a:LV):xdq HO
 | .lst xs=>xow/\∃its n,xvv/\xs4 xyY
 | .tup xs=>xow/\∃its,xvv/\IsTup h a its.toArray
 | .dK Mn=>xxI/\xBl/\∃vs,xr6/\xVF P w a vs
 | .dT Mn=>xxI/\xBl/\∃xs,
   Paired (λ p q=>xaC=xbt/\H (Ξ q)=xJr xaC kV/\RelV xhZ xb7.2) Mn xs/\
   ∃o es ep,xt2=Id/\o.ExactDict/\xza (xRa es)/\es.toList=xs.map (entryOfKey (xHs P w))/\(xs.map (·.1)).Nodup
 | .set S n=>h.SetOf (intKind P w) a S n
 | .ins C dx fs=>xrb dx a/\xbC fs.length/\dx≠a/\xs4 xXJ/\
   ∃mA,xRb dx/\(∀f,NX xHt (mA f))/\xZA
 | .own _=>∃o,xt2=Id
 | .xd fs=>∃mA,xRb a/\∀f,NX xHt (mA f)
 | .rng lo hi=>∃t u v,xs4 (xIB #[xFs,xuq u,xuz v])
 | .frz o u=>xt2=Id/\My H h a u
 | .tbl ps=>xs4 (xUx .none ps)
 | .met f x=>xs4 (xUL xcn)
 | .ext φ=>φ h/\(∃o,xt2=Id)/\∀h1 h2,φ h1->(∀o,h1.get? a=Id->h2.get? a=Id)->φ h2
def Ox (H:Hp)(h:L4):Prop:=∀a o,UF=Id->xsO o
universe s
section
variable {P:LY}{w:LZ}{H H':Hp}{h h':L4}{a:LV}{o:HO}
theorem My.lt (x:xsO o):xUh a:=by
 cases o with
 |lst xs=>show xOb e x xdV
 |tup xs=>show xtz p x p.lt
 |dK Mn=>obtain⟨_,_,_,_,o,_,_,e,_⟩:=x;exact xdV
 |dT Mn=>obtain⟨_,_,_,_,o,_,_,e,_⟩:=x;exact xdV
 |set S n=>obtain⟨o,_,_,_,e,_⟩:=x;exact xdV
 |ins C dx fs=>obtain⟨_,_,_,e,_⟩:=x;exact xdV
 |own y=>obtain⟨_,e⟩:=x;exact xdV
 |xd fs=>obtain⟨_,⟨_,_,_,e,_⟩,_⟩:=x;exact xdV
 |rng lo hi=>show xtz e x xdV
 |frz ob u=>obtain⟨e,_⟩:=x;exact xdV
 |tbl ps=>exact Fk (Ω xt2 (some _) x)
 |met f y=>exact Fk (Ω xt2 (some _) x)
 |ext φ=>obtain⟨_,⟨_,e⟩,_⟩:=x;exact xdV
def Paired.mapP {l₁:xb2}{l₂:List β}(h:Paired F l₁ l₂)(f:∀a b,F a b->G a b):Paired G l₁ l₂:=by
 induction h with
 |nil=>show xib
 |cons r _ ih=>exact xk7 (f _ _ r)
def My.stay (x:xsO o)(k:∀b u,(b=a\/xrb b a)->xeg=xaP->xda=xaP)
  (ho:∀b,xrb b a->Tm xeN (.own a)) (ht:∀b xs,xaN=xhR->xeN=xhR):xyU H' h' a o:=by
 induction o with
 |lst xs=>show xfG z its n r e x ⟨z,its,n,r,xnM⟩
 |tup xs=>obtain⟨z,its,r,ob,e,c⟩:=x;exact⟨z,its,r,ob,xnM,c⟩
 |dK Mn=>obtain⟨z,y,vs,r,ob,es,ep,e,c⟩:=x;exact⟨z,y,vs,r,ob,es,ep,xnM,c⟩
 |dT Mn=>
  obtain⟨z,y,xs,r,ob,es,ep,e,c⟩:=x;exact⟨z,y,xs,x1c λ p q z=>⟨xeS,ht _ _ (Ξ z),xbM z⟩,ob,es,ep,xnM,c⟩
 |set S n=>obtain⟨ob,es,ep,t,e,c⟩:=x;exact⟨ob,es,ep,t,xnM,c⟩
 |ins C dx fs=>
  obtain⟨d,z,ne,e,mA,⟨od,es,ep,e2,c⟩,r⟩:=x;exact⟨ho _ d,z,ne,xnM,mA,⟨od,es,ep,xo0 (.inr d) e2,c⟩,r⟩
 |own y=>show xcb ob e x ⟨ob,xnM⟩
 |xd fs=>obtain⟨mA,⟨od,es,ep,e,c⟩,r⟩:=x;exact⟨mA,⟨od,es,ep,xnM,c⟩,r⟩
 |rng lo hi=>show xbq t u v e x ⟨t,u,v,xnM⟩
 |frz ob u ih=>show xcb e q x ⟨xnM,ih q⟩
 |tbl ps=>
  have e:xs4 (xUx .none ps):=x;show xtP a (xUx .none ps);exact k a _ xec e
 |met f y=>
  have e:xs4 (xUL (.ref y)):=x;show xtP a (xUL (.ref y));exact k a _ xec e
 |ext φ=>obtain⟨p,⟨o,e⟩,st⟩:=x;exact⟨xhc p λ o q=>xo0 xec q,xMm xnM,st⟩
theorem Ox.lt (x:xkk)(e:UF=Id):xUh a:=(x a o e).lt
def Ox.fresh (x:xkk)(e:xVt a):Χ a:=by
 cases q:UF with
 |none=>rfl
 |some u=>show xaq (EM (x.lt q) e) xli
def Ox.kept (x:xkk)(k:∀b u,xeg=xaP->xda=xaP):xyt H h':=λ a o e=>
 (x a o e).stay (λ b u _ q=>xA4 q) (λ _ q=>q) xEH
def Ox.laid (x:xkk)(k:∀b u,xeg=xaP->xda=xaP)(hp:xVt a)(new:xyU xu6 h' a o):xyt xu6 h':=λ b u e=>by
 have hn:=x.fresh hp;by_cases hb:b=a
 ·show xb3 hb i' e e;exact new
 ·show π xnn e ((x b u e).stay (λ c v _ q=>k c v q) (λ c q=>by show xjv q hn q) λ c xs q=>by show xjv q hn q)
universe s
def Rd (H:Hp)(a:LV)(u:HO):Prop:=UF=xaP\/∃o,UF=xBr
def Rd.ok {P:LY}(r:xwO u)(x:xkk):xsO u:=by
 rcases r with r|⟨o,r⟩
 ·exact x a u r
 ·obtain⟨_,q⟩:=x a _ r;exact q
def Mut:xdq (Option HO)
 |some (.lst _)=>True
 |some (.dK _)=>True
 |some (.dT _)=>True
 |some (.set _ _)=>True
 |some (.ins _ _ _)=>True
 |some (.ext _)=>True
 |_=>False
section
variable {P:LY}{w:LZ}{H:Hp}{h h':L4}{x e:LV}{o':HO}
def Ox.write (ok:xkk)(mu:Mut xgx)(he:e=x\/xrb e x)(k:∀b u,xBu->xeg=xaP->xda=xaP)(heo:∃u,xIw=xaP)
  (new:xyU (xe4 x o') h' x o'):xyt (xe4 x o') h':=λ b u q=>by
 have nown:∀c y,xrb c y->xcd x:=λ c y r z=>by subst z;show π r mu mu
 have ntup:∀c xs,ω=xhR->xcd x:=λ c xs r z=>by subst z;show π r mu mu
 by_cases hb:b=x
 ·show xb3 hb i' q q;exact new
 ·rw [xnn] at q;by_cases TF:b=e
  ·have q':xrb b x:=by
    show xfw he
    ·show xaq (TF.trans z) hb
    ·show LE TF z
   show W1 q q' q';show xcb v hv heo ⟨v,by show LE TF hv⟩
  ·refine(ok b u q).stay (λ c v hc r=>k c v ?_ r) (λ c r=>by show υ (nown c b r) r) λ c xs r=>by show υ (ntup c xs r) r
   rcases hc with rfl|hc
   ·exact TF
   ·show xl9;show xfw he
    ·exact nown c b hc z
    ·show xhX hc z z (hb rfl)
universe s
structure Un (fs ex:xav)(H H':Hp)(h h':L4):Prop where
 keep:∀b o,xeg=Id->xd3->b∉fs->b∉ex->xda=Id
 slot:∀b o,xeg=Id->xd3->b∈fs->b∉ex->∃sl,Tm xda (xV6 o)
 free:∀b o,xeg=Id->xd3->b∉ex->xHC
 there:∀b o,xeg=Id->b∉ex->∃o',Tm xda o'
 tups:∀b xs,xaN=xhR->xeN=xhR
 frzs:∀b o u,xaN=xBr->xeN=xBr
 tbls:∀b ps,xjw b xC7->∃more,Tm xeN (.tbl (ps++more))
section
variable {fs fs' ex ex':xav}{H H1 H2:Hp}{h h1 h2 h':L4}{a x e:LV}{o:HO}
def Un.any (u:xLX H H1 h h1)(q:Tm xeg ob)(n:xd3)(hx:b∉ex):∃sl,Tm (h1.get? b) (xV6 ob):=by
 by_cases hb:b∈fs
 ·exact u.slot b ob q n hb hx
 ·show xaj ob.slots (xW6 ob q n hb hx)
def Un.kept (k:∀b u,xeg=xaP->xda=xaP):xLX H H h h':=
 ⟨λ b ob q _ _ _=>xDW q,λ b ob q _ _ _=>⟨ob.slots,xDW q⟩,λ _ _ _ n _=>n,λ b ob q _=>⟨ob,xDW q⟩,xEH,λ _ _ _ q=>q,λ _ ps q=>xKR (by show xb8 q)⟩
def Un.refl:xLX H H h h:=Un.kept xEH
def Un.laid (k:∀b u,xeg=xaP->xda=xaP)(hp:xVt a)(hn:Χ a):xLX H xu6 h h' where
 keep:=λ b u q _ _ _=>xA4 q
 slot:=λ b u q _ _ _=>⟨u.slots,xA4 q⟩
 free:=λ b u q n _=>by show υ (xyh (Fk q) hp) n
 there:=λ b u q _=>⟨u,xA4 q⟩
 tups:=λ b xs q=>by show xjv q hn q
 frzs:=λ b u xs q=>by show xjv q hn q
 tbls:=λ b ps q=>xKR (by rw [xqx q hn,q];simp)
def Un.write (mu:Mut xgx)(he:e=x\/xrb e x)(k:∀b u,xBu->xeg=xaP->xda=xaP)(heo:∃u,xIw=xaP):xLX H (xe4 x o) h h':=by
 have hx:∀b,xd3->b≠x:=λ b n z=>by subst z;show π n mu mu
 have hb:∀b,xd3->xBu:=λ b n z=>by
  subst z;rcases he with r|r
  ·exact hx b n r
  ·show W1 n r r
 have hm:∀b u,xaN=xaP->¬Mut xaP->b≠x:=λ b u q nm z=>by subst z;show π q mu (nm mu)
 refine⟨λ b u q n _ _=>xA4 (xj4 n) q,λ b u q n _ _=>⟨u.slots,xA4 (xj4 n) q⟩,λ b u q n _=>by show υ (hx b n) n,λ b u q _=>?_,
  λ b xs q=>by show υ (hm b _ q (On z)) q,λ b u xs q=>by show υ (hm b _ q (On z)) q,λ b ps q=>xKR (by rw [ai (hm b _ q (On z)),q];simp)⟩
 by_cases TF:b=e
 ·show xcL TF heo
 ·show xaj u (xA4 TF q)
universe s
noncomputable def trk (h:L4) (H:Hp):xav:=xBL h.objs.size (λ a=>(UF).isSome)
def hidT (h:L4)(H:Hp):L4:=PySem.W.hideAll h (trk h H)
def uv (h)(H:Hp):(xRN).objs.size=h.objs.size:=PySem.W.hideAll_size _ _
def xb (e:xeg=Id)(n:xd3):xEr xRN=Id:=
 PySem.W.hideAll_get _ e λ hm=>by
  have q:xkX xaN:=(HI.mp hm).2;rw [n] at q;simp at q
def z7 (e:xEr xRN=Id):xeg=Id/\xd3:=by
 have e':xeg=Id:=PySem.W.of_hideAll (trk h H) e;refine xde e';cases q:xaN with
 |none=>rfl
 |some x=>
  have hm:b∈trk h H:=HI.mpr ⟨Jo.mpr (Fk e'),by simp [q]⟩;have z:xac (xEr xRN):=PySem.W.hideAll_none (trk h H) hm;show xpS z
structure Mod (K:Frag)(mg:Α)(base:L4):Prop where
 kin:xWg
 glob:xLi
 blt:∃mb,base.Ns builtinsNs mb/\∀x:Str,xEQ->mb x=xB8
 nolimit:base.NoLimit
structure Cx where
 prog:LY
 w:LZ
 K:Frag
 mg:Α
 base:L4
 A:L3
 N:xaO
 s₀:LX
 H₀:Hp
 env:Env
 outer:xgO
 stack:xgO
 ex:xav
 fn:xoT Str
 calm:Bool
 pn:Η
 xe:xad
def BkH (H:Hp)(a:LV)(c:LW):Prop:=c=.none\/∃b ob us,c=xus/\b≠a/\xaN=xtn ob (.own b)/\ob.data=xVE/\6≤us.size/\xXn us 2
def Qt (A:L3)(H:Hp):Prop:=xUM\/∃a o vs c,A.handled=xaQ/\UF=xtn o (.own a)/\xLG/\(vs[2]?=xa7/\6≤vs.size)/\BkH H a c
def frs (l:xgO):xav:=l.filterMap (·.frame)
abbrev Cx.fs (X:Cx):xav:=frs X.outer
def Vis (sc:Scope)(x:Str):Prop:=xto=xf5\/xto=xf8\/xDI xto
def Loc (sc:Scope)(x:Str):Prop:=xto=xf5\/xto=xf8
def Ee (env:Env)(h:L4)(m:Α)(x:Str)(u:LW):Prop:=
 (xUA=xf5/\m x=xaP)\/((xUA=xf8\/xDI xUA)/\∃c,env.cells.lookup x=xa7/\h.IsCell c xaP)
structure Cx.Ok (X:Cx):Prop where
 mod:Mod X.K X.mg X.base
 kind:xTg X.env.scope.kind
 glob:X.env.globals=mainGlobals
 blt:X.env.builtins=builtinsNs
 above:xtk X.env.locals
 inj:∀x y c,xeA=xa7->X.env.cells.lookup y=xa7->x=y
 has:∀x,(xT6=xf8\/xDI xT6)->∃c,xeA=xa7
 cab:∀x c,xC8 x->xeA=xa7->xtk c
 hd:Qt X.A X.H₀
 frames:Tm X.A.frames X.stack
 stk:X.stack=X.outer\/(X.stack=X.env::X.outer/\Tm X.env.frame X.env.locals)
 exf:xbQ X.ex (xwy/\∀x c,xeA=xa7->xcd b)
 bs:∀b o,xHo=Id->xTt=Id/\xac (X.H₀ b)
 bsz:X.base.objs.size≤X.s₀.heap.objs.size
 noex:∀b o,xHo=Id->b∉X.ex
 exfs:xbQ X.ex (xzn b)
 funs:xYA X.outer
 frf:xbQ X.fs (xac (X.H₀ b))
structure Inv (X:Cx)(L8:Η)(σ:List xdu)(H:Hp)(s:LX):Prop where
 ok:X.Ok
 os:s.os=X.s₀.os
 bare:x0O
 base:Un X.fs X.ex X.H₀ H X.s₀.heap s.heap
 loc:∃m,xY2 m/\∀(i:Nat) (x:Str) (v:V),xuT=xas->xaM σ xaw->xTQ x->∃u,xd5/\Ee X.env s.heap m x u
 cell:∀x c,xeA=xa7->∃v,x0j v
 free:Χ X.env.locals
 freeC:∀x c,xeA=xa7->xsB
 pin:xdI (X.pn++L8) (xgN xaC xhZ/\Χ xaC/\xGQ xaC/\xzn xaC/\∀v,(xhZ).data≠ xyG)
 hok:xEI H s.heap
 len:xyn X.N.length
section
variable {X:Cx}{L8:Η}{σ:List xdu}{H H':Hp}{s:LX}{h':L4}
def Cx.Ok.nofr (ok:X.Ok){b:LV}{o:L6}(e:xHo=Id):xzn b:=λ hb=>by
 have:=(ok.funs.mem hb).1;show W1 e this this
theorem Inv.bs (I:SZ):∀b o,xHo=Id->xfo/\xd3:=λ b o e=>
 ⟨xNo o (xOC o e).1 (xOC o e).2 (I.ok.nofr e) (xUW o e),xHp o (xOC o e).1 (xOC o e).2 (xUW o e)⟩
def Inv.bk (I:SZ):∀b o,xHo=Id->xfo:=λ b o e=>(I.bs b o e).1
theorem Inv.mod (I:SZ):Mod X.K X.mg X.base:=I.ok.mod
def BkH.keep {H H':Hp}{c:LW}(h:BkH H a c)(k:∀b o u,xaN=xBr->xeN=xBr):BkH H' a c:=by
 rcases h with h|⟨b,ob,us,e,n,g,r⟩
 ·show xa8 h
 ·show xdG ⟨b,ob,us,e,n,xo0 _ g,r⟩
def Inv.qt (I:SZ):Qt X.A H:=by
 rcases I.ok.hd with q|⟨a,o,vs,c,e,f,d,z,b⟩
 ·show xa8 q
 ·show xdG ⟨a,o,vs,c,e,I.base.frzs _ _ _ f,d,z,b.keep I.base.frzs⟩
def Inv.hq (I:SZ):QQ.Hq X.A s.heap:=by
 rcases I.qt with q|⟨a,o,vs,c,e,f,d,z,b⟩
 ·show xa8 q
 ·obtain⟨g,_⟩:=xhI a f;refine .inr ⟨a,o,vs,e,g,d,xh6,?_⟩;rcases b with b|⟨b,ob,us,e1,n,f1,r⟩
  ·show xa8 ((xeS).trans (xxC b))
  ·obtain⟨g1,_⟩:=xhI b f1;show xdG ⟨b,ob,us,(xeS).trans (xxC e1),n,g1,r⟩
def Inv.kIn (I:SZ):X.K.In s.heap:=I.ok.mod.kin.keeps I.bk
theorem Inv.lt (I:SZ):xxw X.env.locals:=let⟨_,hn,_⟩:=I.loc;hn.lt
def Inv.sz (I:SZ):xtk s.heap.objs.size:=xKQ I.ok.above I.lt
def Inv.nofs (I:SZ){a:LV}(h:xG9 a):xzn a:=λ hb=>by
 obtain⟨_,o,ho,_⟩:=xZV;show xaq (EM (Fk ho) (EF I.sz h)) xli
def Inv.cne (I:SZ):∀x c,xeA=xa7->xGQ c:=λ x c e z=>by
 obtain⟨v,o,ho,hd⟩:=xAV e;obtain⟨m,⟨o',es,ep,V7,hd',_⟩,_⟩:=I.loc;show xbm V7 ho ho;show W1 hd' hd hd
theorem Inv.funs (I:SZ):xS9 X.outer:=by
 have all:∀(l:xgO),(xbQ (frs l) (b∈X.fs))->xYA l->xS9 l:=by
  intro l
  induction l with
  |nil=>intro _ _;trivial
  |cons env r ih=>
   intro hs hl;obtain⟨hk,⟨L,o,hf,hn,ho,hd⟩,hr⟩:=hl;have hL:L∈X.fs:=hs L (by show xc2 frs K0 hf;exact E7);show xcb sl e (xNO L ho (I.ok.frf L hL) hL (On (I.ok.exfs L z hL))) ⟨hk,⟨L,_,hf,hn,e,hd⟩,ih (xbo (hs b (by show xc2 frs K0 hf;exact xJy))) hr⟩
 exact all X.outer (λ _ hb=>hb) I.ok.funs
theorem Inv.stack (I:SZ):xS9 X.stack:=by
 rcases I.ok.stk with e|⟨e,hf⟩
 ·show xfs I.funs
 ·rw [e];obtain⟨m,hn,_⟩:=I.loc;refine .cons (by show xqb I.ok.kind) hf hn ?_ I.funs;exact Heap.get?_none_of_le (xNT I.ok.above)
def Inv.stkSub (I:SZ):xbQ xNv (b∈X.env.locals::X.fs):=xbo (by
 rcases I.ok.stk with e|⟨e,hf⟩
 ·show π e hb xJy
 ·rw [e] at hb;unfold frs at hb;rw [K0,hf] at hb;exact hb)
def Inv.stkFree (I:SZ):xbQ xNv xd3:=xbo (by
 show xoe (xVG hb) e hb
 ·show xfs I.free
 ·obtain⟨_,o,ho,_⟩:=xZV;exact xHp o ho (I.ok.frf b hb) (On (I.ok.exfs b z hb)))
def Inv.step {g':x0P}{t':Nat}{d':Drawn}{ch:xav}(I:SZ)
  (XE:xbQ ch ((xL9 b\/xtk b)/\xwy/\(∀x c,xeA=xa7->xcd b)/\xdI (X.pn++L8) (xaC≠b)))
  (keep:∀b o,xwy->xzn b->b∉ch->xfo->xd3->xda=Id)
  (slot:∀b o,xwy->b∈X.fs->b∉ch->xfo->xd3->∃sl,Tm xda (xV6 o)) (free:∀b o,b∉ch->xfo->xd3->xHC)
  (there:∀b o,b∉ch->xfo->∃o',Tm xda o')
  (tups:∀b xs,xaN=xhR->xeN=xhR) (frzs:∀b o u,xaN=xBr->xeN=xBr) (tbls:∀b ps,xjw b xC7->∃more,Tm xeN (.tbl (ps++more)))
  (ns:∀m,xY2 m->h'.Ns X.env.locals m) (hok:xEI H' h') (hg:AllBare g'):
  xHm {s with heap:=h',gens:=g',drawn:=d',toks:=t'}:=by
 have neL:∀b o,xTt=Id->xwy:=λ b o e=>xQM
 have neC:∀b o,xTt=Id->b∉X.ex->b∉ch:=λ b o e hx hb=>by
  show xfw (XE b hb).1
  ·exact hx z
  ·show xaq (EM xdV z) xli
 have cellK:∀x c,xeA=xa7->∀v,x0j v->h'.IsCell c v:=λ x c e v ⟨o,ho,hd⟩=>by
  have nch:c∉ch:=On (Ξ (XE c z).2 x c e rfl)
  by_cases hc:c∈X.fs
  ·show xcb sl q (slot c o (I.cne x c e) hc nch ho (xCV c e)) (xbu q hd)
  ·exact xjS (keep c o (I.cne x c e) hc nch ho (xCV c e)) hd
 refine⟨I.ok,I.os,hg,⟨λ b o e n hb hx=>?_,λ b o e n hb hx=>?_,λ b o e n hx=>?_,λ b o e hx=>?_,λ b xs e=>tups b xs (I.base.tups b xs e),λ b o xs e=>frzs b o xs (I.base.frzs b o xs e),xdm b ps⟩,?_,xdm x c,?_,xdm x c,xvY,hok,I.len⟩
 ·exact keep b o (neL b o e) hb (neC b o e hx) (xNo o e n hb hx) (xHp o e n hx)
 ·show xbH sl e1 (xNO b e n hb hx) sl' e2 (slot b _ (neL b o e) hb (neC b o e hx) e1 (xHp o e n hx));show xaj sl' e2
 ·show xcb o' e1 (xNg o e hx) (free b o' (neC b o e hx) e1 (xHp o e n hx))
 ·show xcb o' e1 (xNg o e hx) (there b o' (neC b o e hx) e1)
 ·show xbH m1 e1 (I.base.tbls b ps e) m2 e2 (tbls b _ e1);show xaj (m1++m2) (by rw [e2,Array.append_assoc])
 ·show xbd m hn hl I.loc ⟨m,ns m hn,λ i x v e1 e2 e3=>?_⟩;show xbd u r l (xAt x v e1 e2 e3) (Ψ u r);rcases l with l|⟨k,c,e,z⟩
  ·show xa8 l
  ·show xdG ⟨k,c,e,cellK x c e _ z⟩
 ·show xcb v z (xAV e) ⟨v,cellK x c e v z⟩
 ·obtain⟨m,⟨o,_,_,ho,_⟩,_⟩:=I.loc;exact free _ o (On (Ξ (XE _ z) rfl)) ho I.free
 ·show xbq v o ho hd (xAV e) (free c o (On (Ξ (XE c z).2 x c e rfl)) ho (xCV c e))
 ·obtain⟨e,n,ne,nf,d⟩:=xRA;have nch:xaC∉ch:=On (xbM (XE xaC z).2 p hp rfl)
  exact⟨keep xaC xhZ ne nf nch e n,free xaC xhZ nch e n,ne,nf,d⟩
def Inv.un {t':Nat}(I:SZ)(u:Un X.fs [] H H' s.heap h')(hok:xEI H' h'):xA3 H':=by
 obtain⟨m,⟨o,es,ep,ho,r⟩,_⟩:=xW7;show xcb sl hL (u.any ho I.free Z6) (I.step (g':=s.gens) (d':=s.drawn) (ch:=[]) (xmx z z) (λ b o _ hb _ e n=>xW6 o e n hb Z6) (λ b o _ hb _ e n=>u.slot b o e n hb Z6) (λ b o _ e n=>u.free b o e n Z6) (λ b o _ e=>u.there b o e Z6) u.tups u.frzs u.tbls (λ m' hm=>by
  obtain⟨o',es',ep',V7,r'⟩:=hm;show xhX ho V7 V7 (xeQ es' ep' hL r')) hok I.bare)
def Inv.call {g':x0P}{t':Nat}{d':Drawn}(I:SZ)(u:Un xNv ch H H' s.heap h')(hok:xEI H' h')(hg:AllBare g')
  (XE:xbQ ch ((xL9 b\/xtk b)/\xwy/\(∀x c,xeA=xa7->xcd b)/\xdI (X.pn++L8) (xaC≠b))):
  xHm {s with heap:=h',gens:=g',drawn:=d',toks:=t'}:=by
 obtain⟨m,⟨o,es,ep,ho,r⟩,_⟩:=xW7;show xcb sl hL (u.any ho I.free (On (Ξ (XE _ z) rfl))) (I.step XE (λ b o hL hb hc e n=>xW6 o e n (On ((Fa.mp (xVG z)).elim hL hb)) hc) (λ b o _ _ hc e n=>u.any e n hc) (λ b o hc e n=>u.free b o e n hc) (λ b o hc e=>u.there b o e hc) u.tups u.frzs u.tbls (λ m' hm=>by
  obtain⟨o',es',ep',V7,r'⟩:=hm;show xhX ho V7 V7 (xeQ es' ep' hL r')) hok hg)
def Inv.turned {t':Nat}{it:LV}(I:SZ)(k:∀b o,b≠it->xfo->xda=Id)(hn:Χ it)(hL:xGQ it)
  (h1:xL9 it\/xtk it) (h2:∀x c,xeA=xa7->xcd it) (h3:xdI (X.pn++L8) (xaC≠it)):xA3 H:=by
 have nit:∀b u,xaN=xaP->b≠it:=λ b u e z=>by show xbm hn e e
 refine I.step (g':=s.gens) (ch:=[it]) xfi (λ b o _ _ hc e _=>k b o (On (hc (by simp [z]))) e) (λ b o _ _ hc e _=>xOw (k b o (On (hc (by simp [z]))) e)) (λ _ _ _ _ n=>n)
  (λ b o hc e=>xMm (k b o (On (hc (by simp [z]))) e)) (λ _ _ e=>e) (xXQ e) (λ b ps e=>xKR (by show xb8 e)) (P3 m hm) (xdm b u) I.bare
 ·have e:b=it:=by show xiA
  show xc3 ⟨h1,hL,h2,h3⟩
 ·show xfG o es ep ho r hm ⟨o,es,ep,xeR o (K1 hL) ho,r⟩
 ·refine xH4 b u e (λ c v hc q=>k c v ?_ q) (λ _ q=>q) xEH
  show xfw hc
  ·show LE z (nit b u e)
  ·exact nit c _ z
def Inv.tok (I:SZ)(t:Nat):xog (xTD t):=I.un (h':=s.heap) (t':=t) Un.refl I.hok
theorem Inv.kept {t':Nat}(I:SZ)(k:∀b u,xte b xaP->xda=xaP):xA3 H:=I.un (Un.kept k) (I.hok.kept k)
theorem Inv.laid {a:LV}{o:HO}{t':Nat}(I:SZ)(k:∀b u,xte b xaP->xda=xaP)(hp:xG9 a)(new:xCT xu6 h' a o):
  xA3 xu6:=I.un (Un.laid k hp (I.hok.fresh hp)) (I.hok.laid k hp new)
theorem Inv.write {x e:LV}{o:HO}{t':Nat}(I:SZ)(mu:Mut xgx)(he:e=x\/xrb e x)(k:∀b u,xBu->xte b xaP->xda=xaP)(heo:∃u,xIw=xaP)
  (new:xCT (xe4 x o) h' x o):xA3 (xe4 x o):=I.un (Un.write mu he k heo) (I.hok.write mu he k heo new)
def Inv.pins_of {MZ:Η}(I:SZ)(h:xdI MZ (xgN xaC xhZ/\Χ xaC/\xGQ xaC/\xzn xaC/\∀v,(xhZ).data≠ xyG)):xz1 H s:=
 ⟨I.ok,I.os,I.bare,I.base,I.loc,I.cell,I.free,I.freeC,λ p hp=>xmk hp (On (xNx (xpP z))) (h p),I.hok,I.len⟩
def oR {N:xaO}(hN:N.Nodup){i j:Nat}(a:xaU N=xas)(b:xfZ N=xas):i=j:=by
 show xbH h1 e1 (ET.mp a) h2 e2 (ET.mp b);exact(List.getElem_inj hN).mp (e1.trans e2.symm)
def vw {M:Model}{A:L3}(I:SZ)(hN:X.N.Nodup)(hi:xuT=xas)(hx:xNa x)(r:xd5)
  (h:∀s',Inv X L8 xXN H s'->(∃a,xG5 a s'.heap/\(a=X.env.locals\/Tm xeA a))->xzx s') (hf:xCt (xC8 x\/xqz=xf5)):xDz A (x0k x u) Q E s:=by
 show xeP m hn hl xW7 hcls (Μ (X.env.scope.kind== .class||(X.env.scope.kind== .module&&X.env.locals !=X.env.globals))) (by show xak I.ok.kind)
 have hiσ:i<σ.length:=by show LE I.len (xdN hi)
 have cne:=I.cne;have tracked:∀{a} {h'},(∃o,xte a Id/\Χ a)->xG5 a h'->xEI H h':=λ {a h'} ha hs b ob e=>by
  show xHP Ob ha (xH4 b ob e (λ c w' hc q=>xqc c ?_ q) (λ _ q=>q) xEH)
  show xl9;rcases hc with rfl|hc
  ·show xpS Ob
  ·show W1 Ob hc hc
 rcases hx with hk|hk
 ·refine wpAny_storeName_local hk hn (xsU hn' hs) hcls;obtain⟨oL,_,_,hoL,_⟩:=id hn;refine xgp ⟨I.ok,I.os,I.bare,⟨λ b o e n hb hx=>?_,λ b o e n hb hx=>?_,I.base.free,λ b o e hx=>?_,I.base.tups,I.base.frzs,I.base.tbls⟩,xbu hn' (λ j y v' e1 e2 e3=>?_),xdm y c,I.free,I.freeC,xvY,tracked ⟨oL,hoL,I.free⟩ hs,by simpa using I.len⟩ (xbu hs xec)
  ·exact xqc b xQM (xNo o e n hb hx)
  ·show xcb sl e1 (xNO b e n hb hx) ⟨sl,xqc b xQM e1⟩
  ·show xcb o' e1 (xNg o e hx) ⟨o',xqc b xQM e1⟩
  ·by_cases hj:j=i
   ·show xb3 hj hi e1 e1;show xhX (HW hiσ) e2 e2 ⟨u,r,.inl ⟨hk,Z6⟩⟩
   ·rw [JF (K1 hj)] at e2;show xbd u' r' q (hl j y v' e1 e2 e3) (Ψ u' r');rcases q with⟨k,e⟩|⟨k,c,e,z⟩
    ·refine .inl (xde k);have:y≠x:=λ e=>hj (oR hN e1 (e▸hi))
     simp [this,e]
    ·show xdG ⟨k,c,e,z.sameBut hs (cne y c e)⟩
  ·show xcb w' z (I.cell y c e) ⟨w',z.sameBut hs (cne y c e)⟩
  ·show xfG e n ne nf d xRA ⟨xqc xaC ne e,n,ne,nf,d⟩
 ·have hfn:xC8 x:=by
   show xfw hf
   ·exact z
   ·show W1 z hk hk
  show xbH c hc (I.ok.has x (.inl hk)) w' z (xAV hc);refine wpAny_storeName_cell I.ok.kind hk hc z (xsU YW hs);show xbd oc Pz hocd (id z) (h xmz ⟨I.ok,I.os,I.bare,⟨λ b o e n hb hx=>?_,λ b o e n hb hx=>?_,I.base.free,λ b o e hx=>?_,I.base.tups,I.base.frzs,I.base.tbls⟩,⟨m,hn.sameBut hs (K1 (cne x c hc)),λ j y v' e1 e2 e3=>?_⟩,xdm y c',I.free,I.freeC,xvY,tracked ⟨oc,Pz,xCV c hc⟩ hs,by simpa using I.len⟩ ⟨c,hs,.inr hc⟩)
  ·exact xqc b (xyh xdV (xVH c hfn hc)) (xNo o e n hb hx)
  ·show xcb sl e1 (xNO b e n hb hx) ⟨sl,xqc b (xyh xdV (xVH c hfn hc)) e1⟩
  ·show xcb o' e1 (xNg o e hx) ⟨o',xqc b (xyh xdV (xVH c hfn hc)) e1⟩
  ·by_cases hj:j=i
   ·show xb3 hj hi e1 e1;show xhX (HW hiσ) e2 e2 ⟨u,r,.inr ⟨.inl hk,c,hc,YW⟩⟩
   ·rw [JF (K1 hj)] at e2;show xbd u' r' q (hl j y v' e1 e2 e3) (Ψ u' r');rcases q with q|⟨k,c',e,z'⟩
    ·show xa8 q
    ·refine .inr ⟨k,c',e,z'.sameBut hs ?_⟩;show xl9;exact hj (oR hN e1 (I.ok.inj _ _ _ e hc▸hi))
  ·by_cases hcc:c'=c
   ·show xcL hcc (xbR YW)
   ·show xcb w2 z2 (I.cell y c' e) ⟨w2,z2.sameBut hs hcc⟩
  ·obtain⟨e,n,ne,nf,d⟩:=xRA;refine⟨xqc xaC ?_ e,n,ne,nf,d⟩;intro q;rw [q,Pz] at e;have q':oc=xhZ:=Fx e;exact d w' (by show xba q' hocd)
def fZ {M:Model}{A:L3}(I:SZ)(hN:X.N.Nodup)(hi:xuT=xas)(hx:xNa x)(r:xd5)
  (h:∀s',Inv X L8 xXN H s'->xzx s') (hf:xCt (xC8 x\/xqz=xf5)):xDz A (x0k x u) Q E s:=
 vw I hN hi hx r (λ s' I' _=>h s' I') hf
def Inv.call' {s':LX}{ch:xav}(I:SZ)(ho:s'.os=s.os)(u:Un xNv ch H H' s.heap s'.heap)(hok:xEI H' s'.heap)(hg:xHe)
  (XE:xbQ ch ((xL9 b\/xtk b)/\xwy/\(∀x c,xeA=xa7->xcd b)/\xdI (X.pn++L8) (xaC≠b))):xlH:=by
 obtain⟨h',g',d',t',o'⟩:=s';have e:o'=s.os:=ho;show xc3 (I.call (g':=g') u hok hg XE)
universe s
abbrev XK:=LW->xiy->xe2
abbrev St:=List xdu
abbrev VK:=V->xe2
abbrev TE:=xBm St
abbrev TT:=St->xAr (xyJ)
abbrev TA:=St->xAr (xJS)
structure Ends where
 nx:xfO
 rt:VK
 bk:xfO:=xqr
 ct:xfO:=xqr
abbrev TS:=Ends->xfO
inductive EP (X:Cx) (L8:Η) (σ:St) (Q:VK) (u:LW) (s':LX):Prop
 |mk (v:V) (H':Hp) (h0:xlH) (h1:xd5) (h2:xAE):xp4 u s'
inductive TP (X:Cx) (L8:Η) (σ:St) (Q:xyJ) (b:Bool) (s':LX):Prop
 |mk (H':Hp) (h0:xlH) (h1:xcP b):TP X L8 σ Q b s'
inductive AP (X:Cx) (L8:Η) (σ:St) (Q:xJS) (us:xa3) (s':LX):Prop
 |mk (vs:M2) (H':Hp) (h0:xlH) (h1:xFx) (h2:xcP vs):AP X L8 σ Q us s'
def SP (X:Cx)(L8:Η)(D:Ends)(f:Flow)(s':LX):Prop:=
 match f with
 | .next=>∃σ' H',xwf/\D.nx σ' H'
 | .brk=>∃σ' H',xwf/\D.bk σ' H'
 | .cont=>∃σ' H',xwf/\D.ct σ' H'
 | .ret u=>∃v σ' H',xwf/\xd5/\D.rt v H'
def PE (X:Cx)(e:L5)(t:TE):Prop:=
 ∀(L8:Η) (s:LX) (σ:St) (H:Hp) Q,SZ->xub Q->xqn xEP
def PT (X:Cx)(e:L5)(t:TT):Prop:=
 ∀(L8:Η) (s:LX) (σ:St) (H:Hp) Q,SZ->xub Q->xf7 (xV7 e xEP) (TP X L8 σ Q) s
def PW (X:Cx)(e:L5)(t:TT):Prop:=
 ∀(whole:xEs) (L8:Η) (s:LX) (σ:St) (H:Hp) (Q:xyJ),SZ->xub Q->xf7 (xV7 e whole) (TP X L8 σ Q) s
def PW.pt {X:Cx}{t:TT}(h:xAu e t):xiY e t:=xgp
def PA (X:Cx)(es:xmT)(t:TA):Prop:=
 ∀(pos:Pos) (L8:Η) (s:LX) (σ:St) H Q,SZ->xub Q->xf7 (spliced (xua es)) (AP X L8 σ Q) s
def PS (X:Cx)(st:L7)(t:TS):Prop:=
 ∀(L8:Η) (s:LX) (σ:St) H D,SZ->xs0 D H->xf7 (exec st X.env) (SP X L8 D) s
def PSs (X:Cx)(st:xyH)(t:TS):Prop:=
 ∀(L8:Η) (s:LX) (σ:St) H D,SZ->xs0 D H->xf7 (execs st X.env) (SP X L8 D) s
def thn {Q Q':xk5 α}(h:xDz A t Q E s)(hQ:∀a s,Q a s->Q' a s):xDz A t Q' E s:=xiq h hQ x x
section
variable {X:Cx}
inductive Oy (i:Nat) (σ:St) (H:Hp) (Q:VK):Prop
 |mk (v:_) (h0:xaM σ xaw) (h1:xf0 v):Oy i σ H Q
def tC (v:V):TE:=λ _ H Q=>xf0 v
def Br {i:Nat}{pos:Pos}(hN:xuT=xas)(hv:xTQ x)(hd:xgf (x==xhu))(QG:xgf (x==xZx)):xar xt5 (Oy i):=by
 intro L8 s σ H Q I h;obtain⟨v,e,h⟩:=h;obtain⟨m,hn,hl⟩:=I.loc;show xeP u r l (xAt x v hN e hv) fin (xp4 u s) (xgu v I r h);rcases l with⟨hk,hm⟩|⟨hk,c,hc,OC⟩
 ·exact xVu (wpAny_loadName_local I.ok.kind hk hn hm fin)
 ·rcases hk with hk|hk
  ·exact xVu (wpAny_loadName_cell I.ok.kind hk hc OC fin)
  ·exact xVu (wpAny_loadName_free I.ok.kind hk hc OC fin QG)
def ad {i j pos}:xuJ (xId xcq pos) xcq:=λ _ _ _ H _ I h=>wpAny_Constant_int (xgu xcq xcS xbs h)
def et {b j pos}:xuJ (xId (.bool b) pos) (.bl b):=λ _ _ _ H _ I h=>Constant_bool (xrJ b H I h)
def bP {j pos}:xuJ (xId .none pos) .non:=λ _ _ _ H _ I h=>Constant_none (xbY .non H I h)
def de {x j pos}:xuJ (xId xun pos) xun:=λ _ _ _ H _ I h=>Calls.Constant_str (xgu xun xcS xbs h)
def Gl (X:Cx)(x:Str):Prop:=Tm xT6 .globalImplicit
def gy {E:xad}{L8:Η}{σ:St}(I:SZ)(hg:xka)(hm:xuQ=xaP)(h:Q u s)
  (hd:xgf (x==xhu)):xjt (xqs xt5) Q E s:=
 xYn hg (Calls.loadGlobal_global (by show LE I.ok.glob xTb) hm h) hd
def fj {E:xad}{L8:Η}{σ:St}{pos:Pos}(I:SZ)(hg:xka)(hm:xqT x)(hv:xB8=xaP)(h:Q u s)
  (hn:xxd xEQ) (hd:xgf (x==xhu)):xjt (xqs xt5) Q E s:=by
 show xbp mb h1 h2 I.mod.blt (xYn hg (Calls.loadGlobal_builtin (by show LE I.ok.glob xTb) hm (by show LE I.ok.blt (h1.keeps I.bk)) ((h2 x hn).trans hv) h) hd)
def aD (hg:xka)(hm:xuQ=xaP)(r:xd5)(hd:xgf (x==xhu)):xuJ xt5 v:=
 λ _ _ _ H _ I h=>gy I hg hm (xgu v I r h) hd
def jq {pos:Pos}(hg:xka)(hm:xqT x)(hv:xB8=xaP)(r:xd5)(hn:xxd xEQ)(hd:xgf (x==xhu)):xuJ xt5 v:=
 λ _ _ _ H _ I h=>xzt I hv (xgu v I r h) hn hd
variable {a b:L5}{ta tb:TE}{pos:Pos}
def PC (X:Cx)(op:CmpOp)(a b:L5)(t:TE):Prop:=
 ∀(L8:Η) (s:LX) (σ:St) (H:Hp) Q,SZ->xub Q->
  xE3 a (λ v s₁=>xE3 b (λ u s₂=>xXu (compareOp op v u) s₂) s₁) s
def qv (b)(h:op≠ .In)(h2:op≠ .NotIn):xHb op b:=by
 have e1:Μ (op==CmpOp.In):=by cases op<;>first|rfl|show xaq rfl h
 have e2:Μ (op==CmpOp.NotIn):=by cases op<;>first|rfl|show xaq rfl h2
 cases b
 case Set l k _=>show Μ (k==0&&(op== .In||op== .NotIn)&&l.all (constantsAlone 8));rw [e1,e2,Bool.or_self,Bool.and_false,LQ]
 all_goals rfl
def D3 (ta:TE):TE:=λ σ H Q=>xn8 (xxo (! xdt x .non) H1)
def RelV.none_iff (r:xnK):(xSZ v)=xdt x .non:=by
 cases x with
 |non=>cases r;rfl
 |bl _=>cases r;rfl
 |int _=>show xvS r
 |str _=>show xvS r
 |byt _=>show xvS r
 |flt _=>show xvS r
 |ref _=>cases r;rfl
 |ty _=>cases r;rfl
def y0 {j pos'}(ha:xlW):PC X .IsNot a (xId .none pos') (D3 ta):=by
 intro L8 s σ H Q I h;show xg8 (xAo v) x;exact Constant_none (isnot_none_gen ⟨.bl _,H1,I1,by show xak r1.none_iff,q1⟩)
inductive tB_p (Q:xyJ) (x:V) (H1:Hp):Prop
 |mk (c:_) (h0:x=.bl c) (h1:Q c H1):tB_p Q x H1
def tB (t:TE):TT:=λ σ H Q=>xkE x (tB_p Q x H1)
def og {op:CmpOp}(h:PC X op a b t)(h1:xHb op b:=by first|exact qv _ Z9 Z9|rfl):xiY (xOg [op] xey pos) (tB t):=by
 intro L8 s σ H Q I hw;show xg8 (wpAny_isTrue_Compare1 (xdM (xAv s H _ I hw) v s1 h1 (xdM h1 u s2 h2 (xhy h2 c s3))) h1) x;show xlL d q q1 r1;exact IB ⟨H1,I1,q⟩
def bL {e:L5}(h:xar e t)(he:xxQ (∀whole,xV7 e whole=(do let v<-whole;standAt e.pos;holding [v] (truthy v)))):xiY e (tB t):=by
  intro L8 s σ H Q I hw
  show xg8 (isTrue_plain (xk0 (xAv s H _ I hw) v) (he _)) x
  show xlL d q q1 r1
  exact IB ⟨H1,I1,q⟩
variable {tA tB':TT}{rest:xmT}
def D5 (t u:TT):TT:=λ σ H Q=>xkE c (xcA c (u σ H1 Q) (Q false H1))
def tOr (t u:TT):TT:=λ σ H Q=>xkE c (xcA c (xEt H1) (u σ H1 Q))
def Er (t:TT):TT:=λ σ H Q=>xkE c (Q (! c) H1)
def di (ha:xiY a tA):xAu (xKy xfv) tA:=by
 intro wh L8 s σ H Q I h;refine isTrue_and (xdM (xzu Q) c s1 e ?_);cases c with
 |true=>exact isTrue_and_nil e
 |false=>exact e
def dD (ha:xiY a tA):xAu (xG6 .Or xfv) tA:=by
 intro wh L8 s σ H Q I h;refine isTrue_or (xdM (xzu Q) c s1 e ?_);cases c with
 |false=>exact isTrue_or_nil e
 |true=>exact e
def dY (ha:xiY a tA)(hb:xAu (xKy xGn) tB'):xAu (xKy (a::xGn)) (D5 tA tB'):=by
 intro wh L8 s σ H Q I h;show xgM (isTrue_and (xAo c)) H1 I1 q1 z9;cases c with
 |true=>exact hb wh L8 s1 σ H1 Q I1 q1
 |false=>exact⟨H1,I1,q1⟩
def dH (ha:xiY a tA)(hb:xAu (xG6 .Or xGn) tB'):xAu (xG6 .Or (a::xGn)) (tOr tA tB'):=by
 intro wh L8 s σ H Q I h;show xgM (isTrue_or (xAo c)) H1 I1 q1 z9;cases c with
 |true=>exact⟨H1,I1,q1⟩
 |false=>exact hb wh L8 s1 σ H1 Q I1 q1
def b8 (ha:xiY a tA):xiY (x1d a pos) (Er tA):=by
 intro L8 s σ H Q I h;exact isTrue_not (xdM (xzu (λ c H1=>Q (! c) H1)) c s1 z9 (by show xbp H1 I1 q1 z9 ⟨H1,I1,q1⟩))
inductive UB (tb:TE) (σ:St) (Q:VK) (x:V) (H1:Hp):Prop
 |mk (c:_) (h0:x=.bl c) (h1:xcA c (xLY Q) (xxo false H1)):UB tb σ Q x H1
def Dg (ta tb:TE):TE:=λ σ H Q=>xn8 (UB tb σ Q x H1)
inductive Uy (Q:VK) (x:V) (H1:Hp):Prop
 |mk (c:_) (h0:x=.bl c) (h1:xxo (! c) H1):Uy Q x H1
def DF (ta:TE):TE:=λ σ H Q=>xn8 (Uy Q x H1)
def jY {op}{t:TE}(h:xar a t):xar (xG6 op xfv) t:=λ L8 s σ H Q I hw=>BoolOp_one (xAv s H Q I hw)
def jD (ha:xlW)(hb:xar (xKy xGn) tb):xar (xKy (a::xGn)) (Dg ta tb):=by
 intro L8 s σ H Q I h;show xg8 (BoolOp_and (xAo v)) x;show xlL c q1 q1 r1;refine IB ?_;cases c with
 |true=>exact xGd Q I1 q1
 |false=>exact xbY xxO H1 I1 q1
def Cc (ha:xlW):xar (x1d a pos) (DF ta):=by
 intro L8 s σ H Q I h;show xg8 (UnaryOp_ (xAo v)) x;show xlL c q1 q1 r1;exact not_of (IB (xrJ (! c) H1 I1 q1))
def tIf (t:TT)(ta tb:TE):TE:=λ σ H Q=>xkE c (xcA c (ta σ H1 Q) (xLY Q))
def dC {c:L5}(hc:xiY c tA)(ha:xlW)(hb:xwK):xar (.IfExp c a b pos) (tIf tA ta tb):=by
 intro L8 s σ H Q I h;show xgM (wpAny_IfExp (xk0 (xFd s σ H _ I h) d)) H1 I1 q1 z9;cases d with
 |true=>exact xM8 s1 H1 Q I1 q1
 |false=>exact xGd Q I1 q1
universe s
def Mm (K:Frag)(H:Hp)(a:LV)(xs:M2):Prop:=
 xwO xC0\/
  ∃(o:L6) (its:xt7) (n:Nat),xqD a Id/\o.cls=xxA/\xac o.dict/\xza (.seq its n)/\xcN its.size/\Vals xs its.toList
def MT (K:Frag)(H:Hp)(a:LV)(xs:M2):Prop:=
 xwO (.tup xs)\/
  ∃(o:L6) (its:xt7) (n:Nat),xqD a Id/\o.cls=xHi/\xza (.seq its n)/\xcN its.size/\Vals xs its.toList
noncomputable def Ey:LW->xdu
 | .none=>some .non
 | .bool b=>some (.bl b)
 | .int i _=>xio i
 | .str x _=>some xun
 | .bytes b _=>some (.byt b)
 | .float b _=>some (.flt b)
 | .ref a=>xaQ
 | .type n=>some (.ty n)
 |_=>none
def RelV.abs (r:xsz):Ey u=xas:=by
 cases x with
 |non=>cases r;rfl
 |bl _=>cases r;rfl
 |int _=>show xvS r
 |str _=>show xvS r
 |byt _=>show xvS r
 |flt _=>show xvS r
 |ref _=>cases r;rfl
 |ty _=>cases r;rfl
def RelV.inj (r:xsz)(q:xi2):x=y:=Fx (r.abs.symm.trans q.abs)
theorem Vals.inj (h:xnp)(g:xqG ys):xs=ys:=by
 induction h generalizing ys with
 |nil=>cases g;rfl
 |cons r _ ih=>cases g with
  |cons r' t'=>rw [r.inj r',ih t']
section
variable {X:Cx}{L8:Η}{σ:St}{H:Hp}{s:LX}{a:LV}{xs ys:M2}
def Mm.of {K:Frag}(h:UF=xdZ):xh9:=xKn h
def MT.of {K:Frag}(h:UF=xhR):xp9 a xs:=xKn h
def Inv.list (I:SZ)(h:Mm X.K H a xs):∃its:xa3,xvv/\PlainL s.heap a its.toArray/\xow:=by
 rcases h with h|⟨o,its,n,hk,hc,hd,hs,hz,r⟩
 ·show xfG z its n r e (h.ok I.hok) ⟨its,r,xeO _ n e rfl rfl,z⟩
 ·refine⟨its.toList,r,⟨o,n,I.kIn a o hk,hc,hd,by simpa using hs⟩,?_⟩;have e:=r.length;simp only [Gk] at e;exact Hm e hz
def Inv.tuple (I:SZ)(h:xSa a xs):∃its:xa3,xvv/\xYk a its.toArray/\xow:=by
 rcases h with h|⟨o,its,n,hk,hc,hs,hz,r⟩
 ·show xbq z its r p (h.ok I.hok) ⟨its,r,p,z⟩
 ·refine⟨its.toList,r,⟨o,I.kIn a o hk,hc,n,by simpa using hs⟩,?_⟩;have e:=r.length;simp only [Gk] at e;exact Hm e hz
def Inv.list_inj (I:SZ)(h:Mm X.K H a xs)(h':xwF a ys):xs=ys:=by
 obtain⟨its,r,⟨o,n,e,_,_,d⟩,_⟩:=I.list h;obtain⟨its',r',⟨o',n',e',_,_,d'⟩,_⟩:=I.list h';show W1 e e' e';rw [d] at d';show xAs d' d1
 show xb9 its its' (by simpa using congrArg Array.toList d1) (r.inj r')
universe s
noncomputable abbrev Cx.wish (X:Cx) (E:xad):Cx:={X with xe:=E}
noncomputable abbrev Cx.nox (X:Cx):Cx:=X.wish xqr
theorem Cx.Ok.wish {X:Cx}(ok:X.Ok)(E:xad):(xH5).Ok:=
 ⟨ok.mod,ok.kind,ok.glob,ok.blt,ok.above,ok.inj,ok.has,ok.cab,ok.hd,ok.frames,ok.stk,ok.exf,ok.bs,ok.bsz,ok.noex,ok.exfs,ok.funs,ok.frf⟩
def Cx.Ok.unwish {X:Cx}{E:xad}(ok:(xH5).Ok):X.Ok:=
 ⟨ok.mod,ok.kind,ok.glob,ok.blt,ok.above,ok.inj,ok.has,ok.cab,ok.hd,ok.frames,ok.stk,ok.exf,ok.bs,ok.bsz,ok.noex,ok.exfs,ok.funs,ok.frf⟩
section
variable {X:Cx}{L8:Η}{σ:St}{H:Hp}{s:LX}{E:xad}
theorem Inv.wish (I:SZ)(E:xad):xSN xH5 H s:=⟨I.ok.wish E,I.os,I.bare,I.base,I.loc,I.cell,I.free,I.freeC,I.pin,I.hok,I.len⟩
theorem Inv.unwish (I:xSN xH5 H s):SZ:=⟨I.ok.unwish,I.os,I.bare,I.base,I.loc,I.cell,I.free,I.freeC,I.pin,I.hok,I.len⟩
theorem SP.unwish {D:Ends}{f:Flow}{s':LX}(h:SP xH5 L8 D f s'):SP X L8 D f s':=by
 cases f with
 |next=>show xbq σ' H' I q h ⟨σ',H',I.unwish,q⟩
 |brk=>show xbq σ' H' I q h ⟨σ',H',I.unwish,q⟩
 |cont=>show xbq σ' H' I q h ⟨σ',H',I.unwish,q⟩
 |ret u=>show xgW v σ' H' I r q;exact⟨v,σ',H',I.unwish,r,q⟩
theorem PSs.nox {st:xyH}(h:PSs X.nox st t):xiR st t:=λ L8 s σ H D I hw=>
 xiq (xAv s H D (I.wish _) hw) (λ _ _ q=>q.unwish) z xHw
universe s
section
variable {X:Cx}{st:L7}{rest:xyH}{t u:TS}{e:L5}{te:TE}{pos:Pos}
def Dx:TS:=λ D σ H=>xlV
def Dj (t u:TS):TS:=λ D σ H=>xs0 {D with nx:=u D} H
def az:xiR [] Dx:=λ _ _ σ H _ I h=>Kb (xvM H I h)
def ab (h1:xnv st t)(h2:xiR rest u):xiR (st::rest) (Dj t u):=by
 intro L8 s σ H D I h;refine wpAny_execs_cons (xdM (h1 L8 s σ H {D with nx:=u D} I h) f s1 q ?_);cases f with
 |next=>
  show xbq σ' H' I' q q (h2 L8 s1 σ' H' D I' q)
 |ret v=>exact q
 |brk=>exact q
 |cont=>exact q
def ac (h1:xnv st t):xiR [st] t:=by
 intro L8 s σ H D I h;refine wpAny_execs_cons (xdM (h1 L8 s σ H D I h) f s1 q ?_);cases f with
 |next=>exact Kb q
 |ret v=>exact q
 |brk=>exact q
 |cont=>exact q
def CD:TS:=λ D σ H=>D.bk σ H
def o6:xnv (.Break pos) CD:=λ _ _ σ H _ I h=>wpAny_Break (xvM H I h)
def Inv.quiet {L8:Η}{σ:St}{H:Hp}(I:SZ):Μ (interactive X.env):=by simp [interactive,I.ok.kind]
def DK (te:TE):TS:=λ D σ H=>xi8 λ _ H1=>xGZ H1
def aC (he:xwL)(hs:xal (xNd e none X.env=xCH)):xnv (.Expr e pos) (DK te):=by
 intro L8 s σ H D I h;exact wpAny_Expr_any (xdM (xVr _ I h) v s1 z9 (by show xm0 x;exact xvM H1 I1 q1)) I.quiet hs
def Ef (te:TE):TS:=λ D σ H=>xi8 D.rt
def aw (he:xwL):xnv (.Return (some e) pos) (Ef te):=by
 intro L8 s σ H D I h;exact wpAny_Return_some (xdM (xVr _ I h) v s1 z9 (by show xm0 x;exact⟨x,σ,H1,I1,r1,q1⟩))
def Ev (c:TT)(t u:TS):TS:=λ D σ H=>c σ H λ b H1=>xcA b (xs0 D H1) (u D σ H1)
def aF {c:L5}{a b:xyH}{tc:TT}(hc:xiY c tc)(ha:xiR a t)(hb:xiR b u):xnv (.If c a b pos) (Ev tc t u):=by
 intro L8 s σ H D I h;show xgM (wpAny_If (xk0 (xFd s σ H _ I h) d)) H1 I1 q1 z9;cases d with
 |true=>exact xM8 s1 H1 D I1 q1
 |false=>exact xGd D I1 q1
def we:TS:=xMY
def aM:xnv st we:=xZW h
def iT {sts:xyH}:xiR sts we:=xZW h
universe s
abbrev TG:=V->St->xAr (xfO)
abbrev TGs:=M2->St->xAr (xfO)
def PG (X:Cx)(Mc:L5)(t:TG):Prop:=
 ∀(L8:Η) (s:LX) (σ:St) H v u Q,SZ->xd5->xs0 v H Q->
  xf7 (assign Mc X.env u) (λ _ s'=>∃σ' H',xwf/\xcP σ') s
def PGs (X:Cx)(ts:xmT)(t:TGs):Prop:=
 ∀(L8:Η) (s:LX) (σ:St) H vs us Q,SZ->xFx->xs0 vs H Q->
  xf7 (assignInOrder ((assignEach ts X.env).map (·.2)) us) (λ _ s'=>∃σ' H',xwf/\xcP σ') s
abbrev BS:=V->V->V->xAr (xe2)
def DR (X:Cx)(t:BS):Prop:=
 ∀(L8:Η) (s:LX) (σ:St) H o i v ov iv u Q,SZ->RelV o ov->RelV i iv->xd5->t o i v H Q->
  xf7 (setItem ov iv u) (λ _ s'=>∃H',xlH/\Q H') s
section
variable {X:Cx}{pos:Pos}
def cJ (i:Nat):TG:=λ v σ H Q=>xf0 xXN
def aN {i:Nat}{x:Str}(hN:X.N.Nodup)(hi:xal (xuT=xas))(hx:xCt (xNa x))(hf:xCt (xC8 x\/xqz=xf5)):PG X xt5 (cJ i):=by
 intro L8 s σ H v u Q I r h;exact wpAny_assign_Name (fZ I hN hi hx r (λ s' I'=>xgG H I' h) hf)
inductive YC (vs:M2) (σ:St) (H:Hp) (Q:xfO):Prop
 |mk (h0:vs=[]) (h1:xf0 σ):YC vs σ H Q
inductive QU (t:TG) (u:TGs) (vs:M2) (σ:St) (H:Hp) (Q:xfO):Prop
 |mk (v:_) (r:_) (h0:vs=v::r) (h1:xs0 v H λ σ' H'=>u r σ' H' Q):QU t u vs σ H Q
def jv:PGs X [] YC:=by
 intro L8 s σ H vs us Q I r h;obtain⟨e,h⟩:=h;subst e;cases r;exact assignInOrder_nil (xvM H I h)
def c7 {e:L5}(h1:PG X e t)(h2:PGs X es u)
  (hs:xal ((assignEach (e::es) X.env).map (·.2)=assign e X.env::(assignEach es X.env).map (·.2))):PGs X xew (QU t u):=by
 intro L8 s σ H vs us Q I r h;show xo6 v vr e1 h;subst e1;cases r with
 |cons r rr=>
  show Uf hs (Kc (xEW (h1 L8 s σ H _ _ _ I r h) s1 z9 ?_));show xbq σ1 H1 I1 q1 z9 (h2 L8 s1 σ1 H1 _ _ Q I1 rr q1)
inductive YB (K:Frag) (n:Nat) (t:TGs) (v:V) (σ:St) (H:Hp) (Q:xfO):Prop
 |mk (a:_) (xs:_) (h0:v=Γ) (h1:xp9 a xs) (h2:xI1 n) (h3:xs0 xs H Q):YB K n t v σ H Q
def nV {es:xmT}{k:Nat}(hc:xq3)(h:PGs X es t)
  (hn:xal (xaI (assignEach es X.env) n)) (OR:xal ((assignEach es X.env).findIdx? (·.1)=none)):PG X (xOD k pos) (YB X.K n t):=by
 intro L8 s σ H v u Q I r hw;obtain⟨a,xs,e1,hq,hl,hw⟩:=hw;subst e1;cases r;show xyv rv ht hz hq;refine QQ.QA I.hq ht (by simp [hn,<-hl,rv.length]) OR (P3 h' hx)
 have I1:xog xmz:=xOP (λ b o e=>hx b o xDt e)
 exact xAv _ H xs _ Q I1 (by simpa using rv) hw
def Em (to ti:TE)(t:BS):TG:=λ v σ H Q=>to σ H λ o H1=>ti σ H1 λ i H2=>t o i v H2 λ H3=>Q σ H3
def jB {o i:L5}{to ti:TE}{t:BS}(ho:xar o to)(hi:xar i ti)(hs:DR X t)
    (ha:xxQ (∀v,assign (xxH o i) X.env v=(do
      let ov<-holding [v] xsb
      let iv<-holding [v,ov] (xqs i)
      standAt pos
      holding [v,ov,iv] (setItem ov iv v)
      release [v,ov,iv] []))):PG X (xxH o i) (Em to ti t):=by
  intro L8 s σ H v u Q I r h
  show Uf ha (xrt (xk0 (xnz s H _ I h) ov))
  show xm0 x
  refine xrt (xhy (xAp s1 H1 _ I1 q1) iv s2)
  show xtf y H2 I2 r2 q2
  refine xMQ (xrt (xEW (hs L8 s2 σ H2 x y v ov iv u _ I2 r1 r2 r q2) s3 z9 ?_))
  show xbp H3 I3 q3 z9 (wpAny_release (xvM H3 I3 q3))
def Df (te:TE)(g:TG):TS:=λ D σ H=>xi8 λ x H1=>g x σ H1 D.nx
def kb {tg e:L5}{te:TE}{g:TG}(he:xwL)(hg:PG X tg g)(hs:xal (swapsWithSole [tg] e pos.line X.env=xCH))(hw:xal (swappedStores [tg] e X.env=pure none))
  (h1:xal ((assignEach [tg] X.env).map (·.2)=[assign tg X.env])):xIp [tg] e pos (Df te g):=by
 intro L8 s σ H D I h;show xg8 (wpAny_Assign_stores (xvL _ I h v) hs hw) x;show LE h1 (xEW (hg L8 s1 σ H1 x v _ I1 r1 q1) s2 q q)
def am {i:Nat}{x:Str}{e:L5}{pos':Pos}(hN:X.N.Nodup)(he:xwL)(hi:xal (xuT=xas))(hx:xCt (xNa x))(hs:xal (xNd e (some (xCc pos')) X.env=xCH))(hf:xCt (xC8 x\/xqz=xf5)):
  xIp [xCc pos'] e pos (Df te (cJ i)):=by
 intro L8 s σ H D I h;show xg8 (wpAny_Assign_Name (xvL _ I h v) hs) y;exact fZ I1 hN hi hx r1 (λ s2 I2=>xgG H1 I2 q1) hf
inductive WY (c:TT) (tb:TS) (D:Ends) (σ:St) (H:Hp):Prop
 |mk (W:xFJ) (h0:(∃m,W m σ H)) (h1:∀m σ H,W m σ H->c σ H λ b H1=>xcA b (∃N,(∀σ' H',xz2->xdo (m'<m/\W m' σ' H'))/\xYj D N N σ H1) (xGZ H1)):WY c tb D σ H
def bq {c:L5}{body:xyH}{tb:TS}(hp:PassesOwn xx4 X.A X.env X.xe)(hc:xiY c tc)(hb:xiR body tb):xnv (.While c body [] pos) (WY tc tb):=by
 intro L8 s σ H D I h;obtain⟨W,⟨m0,w0⟩,turn⟩:=h;refine wpAny_While (codeAny_whileLoop (λ n s'=>∃σ' H',xwf/\W n σ' H') ?_ m0 (xvM H I w0));rintro n s1 ⟨σ1,H1,I1,w1⟩;show xgM (xzy (xhy (xFd s1 σ1 H1 _ I1 (turn n σ1 H1 w1)) b s2)) H2 I2 q2 z9;cases b with
 |true=>
  obtain⟨N,hN,q2⟩:=q2;show Uf xai (xzy (xdM (hb L8 s2 σ1 H2 _ I2 q2) f s3 q3 ?_));cases f with
  |next=>
   obtain⟨σ3,H3,I3,n3⟩:=q3;show xbp m' hm w3 (hN σ3 H3 n3) ⟨m',hm,σ3,H3,I3,w3⟩
  |cont=>
   obtain⟨σ3,H3,I3,n3⟩:=q3;show xbp m' hm w3 (hN σ3 H3 n3) ⟨m',hm,σ3,H3,I3,w3⟩
  |brk=>exact q3
  |ret v=>exact q3
 |false=>
  show xlq Fb (Kb ⟨σ1,H2,I2,q2⟩)
universe s
structure It where
 go:xby xe2
 yld:xby (Hp->V->xe2)
 stop:xby xe2
def MS (X:Cx)(L8:Η)(H:Hp)(b:LV):Prop:=
 xd3/\xwy/\xzn b/\(xL9 b\/xtk b)/\(∀x c,xeA=xa7->xcd b)/\xdI (X.pn++L8) (xaC≠b)
def Inv.fpOk {X:Cx}{L8:Η}{σ:St}{b:LV}(I:SZ)(hb:xG9 b)(hn:xHC):xzW b:=by
 refine⟨hn,Ja (EM I.lt hb),I.nofs hb,.inr (EF I.sz hb),λ x c e z=>?_,Ε p hp z⟩
 ·obtain⟨v,q⟩:=xAV e;show xaq (EM q.lt (by show LE z hb)) xli
 ·show xaq (EM (Fk xRA.1) (by show LE z hb)) xli
structure Turn (P:LY)(w:LZ)(K:Frag)(tg:L5)(J:It)(fp:xav)(it:LV)(tn:xux L4):Prop where
 mem:it∈fp
 obj:∀i h,xz5 h->xCp (∃o,xeg=Id/\∀v,o.data≠ xyG)
 keep:∀i h h',xz5 h->(xCp (∀o,xeg=Id->xda=Id))->xz5 h'
 item:∀(X:Cx),X.prog=P->X.w=w->X.K=K->xq3->∀(i:Nat) (L8:Η) (s:LX) (σ:St) (H:Hp) (E:xad),SZ->(xs7 H)->xWS->xEu H->
  xxa P w X.A xS2 (λ r s1=>∃u,r=xaP/\
   xxa P w X.A (xZs xoj u) (λ _ s2=>∃x H',xHm s2/\xsz/\xDB H x H'/\tn (i+1) s2.heap/\xFR) E s1) E s
 done:∀(X:Cx),X.prog=P->X.w=w->X.K=K->xq3->∀(i:Nat) (L8:Η) (s:LX) (σ:St) (H:Hp) (E:xad),SZ->(xs7 H)->xWS->xDd H->
  xxa P w X.A xS2 (λ r s1=>xac r/\xog s1) E s
 self:∀(A:L3) (i:Nat) (s:LX) (Q:xad) (E:xad),xWS->Q xoj s->xxa P w A (pyIter xoj) Q E s
abbrev TI:=St->xAr (xr4)
def PIE (X:Cx)(L8:Η)(σ:St)(tg:L5)(R:xr4)(itv:LW)(s2:LX):Prop:=
 ∃(it:LV) (fp:xav) (tn:xux L4) (J:It) (H':Hp),itv=xoj/\xHm s2/\Turn X.prog X.w X.K tg J fp it tn/\tn 0 s2.heap/\(xs7 H')/\R J H'
def PI (X:Cx)(tg iter:L5)(wi:TI):Prop:=
 ∀(L8:Η) (s:LX) (σ:St) H (R:xr4),SZ->xFe H R->
  xE3 iter (λ v s1=>xf7 (pyIter v) (PIE X L8 σ tg R) s1) s
def oK (ho:xte it Id)(hc:o.cls=.type n)(hd:xLG)
  (hn: Μ (["enumerate","zip","dict_itemiterator","dict_reverseitemiterator","odict_iterator","itertools.zip_longest","itertools.pairwise"].contains n)) (hQ:xzx s):xDz A (xZs xoj u) Q E s:=by
 unfold letOwnedTupleGo;cases tg<;>first
  |exact E1 hQ
  |(cases u<;>first
    |exact E1 hQ
    |(refine EG (wpAny_load ho ?_)
      rw [hc,hd];show xDz A (xcA (["enumerate","zip","dict_itemiterator","dict_reverseitemiterator","odict_iterator","itertools.zip_longest","itertools.pairwise"].contains n&&vs[0]?==some (rawInt _)) _ _) Q E s;show xlq (by intro h;rw [hn,LQ] at h;cases h) (E1 hQ)))
def WB (K:Frag)(a:LV):It:=
 ⟨λ i H=>∃xs x,xh9/\xfg=xas,λ i H x H'=>H'=H/\∀xs,xh9->xfg=xas,λ i H=>∃xs,xh9/\xs.length≤i⟩
def Vy (lo:Int)(n:Nat):It:=⟨λ i _=>i<n,λ i H x H'=>H'=H/\x=.int (lo+i),λ i _=>n≤i⟩
def vd {P:LY}{w:LZ}{K:Frag}{tg:L5}(a it:LV):xEv w K tg xnC [it] it (λ i h=>x0l a i) where
 mem:=Z6
 obj:=λ i h st b hb=>by
  have e:b=it:=by show xiA
  subst e;show xbq o e c d st (xqh (λ v z=>by show W1 d z z))
 keep:=λ i h h' st k=>st.at λ o e=>k it Z6 o e
 item:=by
  intro X hP hw hK hc i L8 s σ H E I hf st hg;subst hP hw hK;obtain⟨xs,x,hq,hx⟩:=hg;show xod rv p;obtain⟨u,hu,ru⟩:=rv.get hx;show xlz f0 f1 f2 f3 f4 f5 Z6;refine wpAny_pyNext_list_item st p.isList (by show xD5) (xsU st' sb)
  have I1:xog xmz:=xDQ (λ b o hb e=>xqC sb b hb e);show xbq o e c d (id st') (xf2 u (oK e c d Z9 ⟨x,H,I1,ru,xgB (λ ys hy=>by show LE (x1e hq) hx),st',xLU⟩))
 done:=by
  intro X hP hw hK hc i L8 s σ H E I hf st hg;subst hP hw hK;obtain⟨xs,hq,hx⟩:=hg;show xod rv p;show xlz f0 f1 f2 f3 f4 f5 Z6;show xyK hl;exact QQ.Ud I.hq st p.isList (by simp;exact xVI hx) λ h' eb=>xEm (λ b o hb e=>eb b o hb e)
 self:=xCM h (wpAny_pyIter_listiter st h)
def rf {P:LY}{w:LZ}{K:Frag}(it)(lo)(n):xEv w K tg (xvh n) [it] it (λ i h=>xHr h (lo+xgw i*1) (xay-xgw i) 1) where
 mem:=Z6
 obj:=λ i h st b hb=>by
  have e:b=it:=by show xiA
  show xc3 (xbu st (λ v z=>by
   have z':xUi=xUX:=z;cases z'))
 keep:=λ i h h' st k=>k it Z6 _ st
 item:=by
  intro X hP hw hK hc i L8 s σ H E I hf st hg;subst hP hw hK;show xlz f0 f1 f2 f3 f4 f5 Z6;refine xYI (by have:i<n:=hg;lia) (xsU Ue sb)
  have st':xHr h' (lo+xgq*1) (xay-xgq) 1:=by
   have e1:lo+xgq*1=lo+xer*1+1:=Z5;have e2:xay-xgq=xay-xer-1:=Z5;rw [e1,e2];exact Ue
  have I1:xGv H xuD:=xDQ (λ b o hb e=>xHS o hb e);refine xaJ (oK st' rfl rfl Z9 ⟨.int (lo+i),H,I1,xde s.toks,xkP,st',xLU⟩);rw [Int.mul_one]
 done:=by
  intro X hP hw hK hc i L8 s σ H E I hf st hg;subst hP hw hK;show xlz f0 f1 f2 f3 f4 f5 Z6;exact QQ.Ph I.hq st (by have:n≤i:=hg;lia) λ h' eb=>xEm (λ b o hb e=>eb b o hb e)
 self:=xCM h (xYL h)
section
variable {X:Cx}{tg:L5}
inductive Vk (K:Frag) (R:xr4) (x:V) (H1:Hp):Prop
 |mk (a:_) (h0:x=Γ) (h1:(∃xs,xrB H1 a)) (h2:R xnC H1):Vk K R x H1
def DD (K:Frag)(tl:TE):TI:=λ σ H R=>tl σ H λ x H1=>Vk K R x H1
def bS {l:L5}{tl:TE}(hl:xar l tl):xLI l (DD X.K tl):=by
 intro L8 s σ H R I h;show xg8 (xk0 (hl L8 s σ H _ I h) v) x;obtain⟨a,e,⟨xs,hq⟩,q⟩:=q1;subst e;cases r1;show xoo rv p hz (I1.list hq);show ρ (x0m p.isList) ⟨s1.heap.objs.size,xTl,_,_,H1,rfl,xV0 (λ b o e=>xd0),vd a _,xSL,xfi,q⟩;have e:xT3 b:=by show xiA
 show xc3 xKI
def oI {L8:Η}{σ:St}{lo hi:Int}(I:SZ)(h1:-(2^62)≤lo)(h2:lo<2^62)(h3:-(2^62)≤hi)(h4:hi<2^62)
  (q:R (xvh (xlQ hi lo)) H):xjt (pyIter xok) (PIE X L8 σ tg R) E (xNK (xTP #[xFs,xuq u,xuz v]) tk):=by
 refine xYs .. (small_one h1 h2 h3 h4) ?_;have I1:xqv H s (xTP #[xFs,xuq u,xuz v]) tk:=I.kept λ b o e=>xd0
 refine⟨xUg #[xFs,xuq u,xuz v],[xUg #[xFs,xuq u,xuz v]],_,_,H,rfl,
  xML tk (λ b o e=>xd0),rf _ lo (xlQ hi lo),?_,xfi,q⟩
 ·have e1:lo+xwx*1=lo:=Z6;have e2:LT (xlQ hi lo)-xwx=Builtin.Range.rangeSize lo hi 1:=by rw [rangeSize_one];split<;>lia
  show x1f _ (lo+xwx*1) (LT (xlQ hi lo)-xwx) 1;rw [e1,e2];exact xg1
 ·have e:b=xUg #[xFs,xuq u,xuz v]:=by show xiA
  show xc3 xKI
inductive Vj (R:xr4) (vs:M2) (H1:Hp):Prop
 |mk (j:_) (h0:vs=[xiI]) (h1:-(2^62)≤j) (h2:j<2^62) (h3:R (Vy 0 j.toNat) H1):Vj R vs H1
def C7 (ta:TA):TI:=λ σ H R=>xFV vs (Vj R vs H1)
inductive Vh (R:xr4) (vs:M2) (H1:Hp):Prop
 |mk (i:_) (j:_) (h0:vs=[xcq,xiI]) (h1:(-(2^62)≤i/\i<2^62/\-(2^62)≤j/\j<2^62)) (h2:R (Vy i (xlQ j i)) H1):Vh R vs H1
def DB (ta:TA):TI:=λ σ H R=>xFV vs (Vh R vs H1)
def bF {a:L5}{ta:TA}{p pos:Pos}(hg:xV3)(hm:xVZ)(ha:xjT xfv ta)(hs:xal (xkH xfv=[xmM a])):xLI (xIa "range" p xfv []) (C7 ta):=by
 intro L8 s σ H R I h;show xg8 (Call_ (xVC I (HK xGp hs rfl))) vs;obtain⟨j,e,q1,q2,q⟩:=q1;subst e;cases r1 with
 |cons r rr=>
  cases rr;show xgK t r (call_range_1 (oI I1 Z5 Z5 q1 q2 (by simpa using q)))
def gl {a b:L5}{ta:TA}{p pos:Pos}(hg:xV3)(hm:xVZ)(ha:xjT [a,b] ta)(hs:xal (xkH [a,b]=[xmM a,xmM b]))(Rt:xal (xkH xey=[xmM b])):
  xLI (xIa "range" p [a,b] []) (DB ta):=by
 intro L8 s σ H R I h;show xg8 (Call_ (xVC I (HK xGp (by rw [hs,Rt]) (by show xak Rt)))) vs;obtain⟨i,j,e,⟨q1,q2,q3,q4⟩,q⟩:=q1;subst e;cases r1 with
 |cons r rr=>
  cases rr with
  |cons r' rr=>
   show xAc rr r;show xgK t' r' (call_range_2 (oI I1 q1 q2 q3 q4 q))
def Ek (wi:TI)(g:TG)(tb:TS):TS:=λ D σ H=>xFe H λ J H1=>∃W:xFK,(∃m,xFZ H1)/\∀i m σ H,xFY H->
 (xDd H/\xlV)\/(xEu H/\∃N,(∀σ' H',xz2->xdo (m'<m/\xFU (i+1) H'))/\∀x H',xDB H x H'->xFT λ σ2 H2=>xn5 D N N)
noncomputable def n8 (fp:xav) (h:L4):Η:=fp.filterMap λ b=>xhJ xeg o (b,o)
def bK {fp:xav}(hb:b∈fp)(e:xeg=Id):(b,o)∈n8 fp h:=List.mem_filterMap.mpr ⟨b,hb,by show xak e⟩
def uV {fp:xav}(hp:p∈n8 fp h):xaC∈fp/\xBE xaC xhZ:=by
 obtain⟨b,hb,e⟩:=List.mem_filterMap.mp hp;cases q:xeg with
 |none=>show xpS q
 |some o=>
  rw [q] at e;have e':(b,o)=p:=Fx e;subst e';show xaj hb q
def Inv.pinned {L8:Η}{σ:St}{H:Hp}(I:SZ)(hf:xs7 H)(ho:xCp (∃o,xfo/\∀v,o.data≠ xyG)):Inv X (L8++n8 fp s.heap) σ H s:=
 I.pins_of λ p hp=>xmk hp (On (xNx (xq5 z))) (On (by
  show xGF hb (uV z);obtain⟨f0,f1,f2,_⟩:=hf xaC hb;obtain⟨o,e',d⟩:=ho xaC hb;show xhX e e' e' ⟨e,f0,f1,f2,d⟩))
def Inv.unpinned {L8 pl:Η}{σ:St}{H:Hp}(I:Inv X (L8++pl) σ H s):SZ:=I.pins_of λ p hp=>xNx (xq5 (xpP hp))
def a9 (hp:PassesOwn xx4 X.A X.env X.xe)(hc:xq3)(hi:PI X tg iter wi)(hg:PG X tg g)(hb:xiR body tb)
  (hs:xxQ (∀x,xIT x=xKb)):xnv (.For tg iter body [] pos) (Ek wi g tb):=by
 intro L8 s σ H D I h;refine wpAny_For (xdM (xAp s H _ I h) v s1 h1 (xdM h1 itv s2 h2 ?_)) hs;obtain⟨it,fp,tn,J,H2,e,I2,T,O2,f2,W,⟨m0,w0⟩,turn⟩:=h2;subst e;have T1:∀{H'},(xFR)->xs7 H':=λ hn b hb=>⟨hn b hb,(f2 b hb).2⟩
 refine codeAny_forLoop_any (λ n s'=>∃i σ' H',xwf/\xz5 s'.heap/\(xFR)/\W i n σ' H') ?_ m0 ⟨0,σ,H2,I2,O2,xbo (f2 b hb).1,w0⟩;rintro n s3 ⟨i,σ3,H3,I3,Ni,fr3,w3⟩;rcases turn i n σ3 H3 w3 with⟨stop,qn⟩|⟨go,N,hN,step⟩
 ·show xjH (xzy (xhy (T.done X rfl rfl rfl hc i L8 s3 σ3 H3 X.xe I3 (T1 fr3) Ni stop) r s4)) hr I4 z9;show xcL hr (Kb ⟨σ3,H3,I4,qn⟩)
 ·show xgM (xzy (xhy (T.item X rfl rfl rfl hc i L8 s3 σ3 H3 X.xe I3 (T1 fr3) Ni go) r s4)) u hr h4 z9;subst hr;refine xzy (xEW h4 s5 z9 ?_);obtain⟨x,H5,I5,r5,y5,Zs,RK⟩:=z9;have I5':=I5.pinned (T1 RK) (xDC _ Zs);refine xzy (xEW (hg _ s5 σ3 H5 x u _ I5' r5 (step x H5 y5)) s6 z9 ?_);obtain⟨σ6,H6,I6,q6⟩:=z9;refine xzy (xdM (xzz s6 σ6 H6 _ I6 q6) f s7 q7 ?_);have again:∀{σ7} {H7},Inv X (L8++n8 fp s5.heap) σ7 H7 s7->N σ7 H7->∃m,m<n/\∃i σ' H',xZB s7/\xz5 s7.heap/\(xFR)/\W i m σ' H':=λ {σ7 H7} I7 n7=>by
   show xbd m' hm w7 (hN σ7 H7 n7) ⟨m',hm,i+1,σ7,H7,I7.unpinned,xIK _ _ Zs λ b hb o e=>(I7.pin (b,o) xv8).1,xfi,w7⟩;show xbp o e d (xDC _ Zs b hb) (Ξ (I7.pin (b,o) xv8))
  cases f with
  |next=>show xbq σ7 H7 I7 n7 q7 (again I7 n7)
  |cont=>show xbq σ7 H7 I7 n7 q7 (again I7 n7)
  |brk=>show xbq σ7 H7 I7 q7 q7 ⟨σ7,H7,I7.unpinned,q7⟩
  |ret v=>obtain⟨x7,σ7,H7,I7,r7,q7⟩:=q7;exact⟨x7,σ7,H7,I7.unpinned,r7,q7⟩
universe s
def bW {K:Frag}{a:LV}{xs:M2}{g:TG}{tb:TS}{D:Ends}(Pv:xFJ)(h0:xne 0)(hl:∀i σ H,xpR->xlY->xh9)
  (hs:∀i x σ H,xfg=xas->xlY->xnL λ σ2 H2=>xn5 D xfr xfr) (hd:∀σ H,xne xs.length->xlV):
  ∃W:xFK,(∃m,xFZ H)/\∀i m σ H,xFY H->
   (xoV xnC H/\xlV)\/(xpC xnC H/\∃N,(∀σ' H',xz2->xdo (m'<m/\xFU (i+1) H'))/\∀x H',xo8 xnC H x H'->xFT λ σ2 H2=>xn5 D N N):=by
 refine Ψ (λ i m σ H=>m=xhB i/\xpR/\xlY) ⟨xs.length,Z6,xan,h0⟩;rintro i m σ H ⟨rfl,hi,p⟩;have q:=xAt σ H hi p;by_cases Mb:xAI
 ·show xjH (.inr ⟨⟨xs,xs[i],q,by simp [Mb]⟩,xfr,λ σ' H' p'=>xbI (xhB (i+1)) xpB Mb p',xw9⟩) e y y;show xc3 (xss x σ _ (y xs q) p)
 ·have e:xq6 i:=xvD;show xr3 e ⟨xKG xs q,xKT H p⟩
def bE {lo:Int}{g:TG}{tb:TS}{D:Ends}(Pv:xFJ)(h0:xne 0)
  (hs:∀i σ H,i<n->xlY->xXw (lo+i) H (λ σ2 H2=>xn5 D xfr xfr)) (hd:∀σ H,xne n->xlV):
  ∃W:xFK,(∃m,xFZ H)/\∀i m σ H,xFY H->
   (xoV (xvh n) H/\xlV)\/(xpC (xvh n) H/\∃N,(∀σ' H',xz2->xdo (m'<m/\xFU (i+1) H'))/\∀x H',xo8 (xvh n) H x H'->xFT λ σ2 H2=>xn5 D N N):=by
 refine Ψ (λ i m σ H=>m=n-i/\xc1 i/\xlY) ⟨n,Z6,xan,h0⟩;rintro i m σ H ⟨rfl,hi,p⟩;by_cases Mb:i<n
 ·show xjH (.inr ⟨Mb,xfr,λ σ' H' p'=>xbI (n-(i+1)) xpB Mb p',xw9⟩) e y y;subst e y;exact xss σ _ Mb p
 ·have e:i=n:=xvD;show xr3 e ⟨Tl,xKT H p⟩
abbrev R2:=V->xBm V
def NV (X:Cx)(f:LW->LW->xEs)(r:R2):Prop:=
 ∀(L8:Η) (s:LX) (σ:St) H x y v u Q,SZ->xnK->xi2->xme y H Q->
  xqn (f v u)
def UnR (X:Cx)(f:LW->xEs)(r:xBm V):Prop:=
 ∀(L8:Η) (s:LX) (σ:St) H x v Q,SZ->xnK->xme H Q->
  xqn (f v)
def fq (X:Cx)(f:LW)(r:xw5):Prop:=
 ∀(L8:Η) (s:LX) (σ:St) H xs us Q,SZ->xnp->r xs H Q->
  xqn (call f us)
def V4 (r:R2)(ta tb:TE):TE:=λ σ H Q=>xn8 (xLY λ y H2=>xme y H2 Q)
def tUn (r:xBm V)(ta:TE):TE:=λ σ H Q=>xn8 (xme H1 Q)
inductive rI (C:xea Int Int) (g:Int->Int->V) (x:V) (y:V) (H:Hp) (Q:VK):Prop
 |mk (i:_) (j:_) (h0:x=xcq) (h1:y=xiI) (h2:C i j) (h3:xf0 xnB):rI C g x y H Q
inductive RM (g:Int->Int->V) (x:V) (y:V) (H:Hp) (Q:VK):Prop
 |mk (i:_) (j:_) (h0:x=xcq) (h1:y=xiI) (h2:xf0 xnB):RM g x y H Q
inductive rU (g:Int->V) (x:V) (H:Hp) (Q:VK):Prop
 |mk (i:_) (h0:x=xcq) (h1:xf0 (g i)):rU g x H Q
section
variable {X:Cx}{a b c:L5}{ta tb tc:TE}{pos:Pos}
def binT (ha:xlW)(hb:xwK){L8:Η}{s:LX}{σ:St}{R:V->V->xe2}(I:SZ)
  (h:xn8 (xLY λ y H2=>R x y H2)) {Q:xad} {f:LW->LW->xEs}
  (hf:∀v u s2 x y H2,xij H2 s2->xnK->xi2->R x y H2->xf7 (f v u) Q s2):
  xE3 a (λ v s₁=>xE3 b (λ u s₂=>xf7 (f v u) Q s₂) s₁) s:=by
 show xg8 (xAo v) x;refine xhy (xGd _ I1 q1) u s2
 show xtf y H2 I2 r2 q2;exact hf v u s2 x y H2 I2 r1 r2 q2
def ak {op:Operator}{r:R2}(ho:xDZ op r)(ha:xlW)(hb:xwK):xar (.BinOp a op b pos) (V4 r ta tb):=by
 intro L8 s σ H Q I h;exact wpAny_BinOp (binT ha hb I h λ v u s2 x y H2 I2 rx ry q=>xnz s2 H2 x y v u Q I2 rx ry q)
def xN {op:UnaryOp}{r:xBm V}(ho:UnR X (unaryOp op) r)(ha:xlW):xar (.UnaryOp op a pos) (tUn r ta):=by
 intro L8 s σ H Q I h;exact UnaryOp_ (xdM (xzu _) v s1 z9 (by show xm0 x;exact xnz s1 H1 x v Q I1 r1 q1))
def opI {f:LW->LW->xEs}{g:Int->Int->Int}
  (rule:∀(i j:Int) (t u:Tok) (s:LX) (Q:xad) (E:xad),C i j->Q (xW0 xnB) xP4->xjt (f xnj (xiI u)) Q E s):
  NV X f (rI C (xER xnB)):=by
 intro L8 s σ H x y v u Q I rx ry h;show xgW i j rfl rfl hc q;show xJt (xRO j t t' s _ _ hc (xnu xnB xcS xbs q))
def xm {g:Int->Int->Int}
  (rule:∀(i j:Int) (t u:Tok) (s:LX) (Q:xad) (E:xad),Q (xW0 xnB) xP4->xjt (f xnj (xiI u)) Q E s):
  NV X f (RM (xER xnB)):=by
 intro L8 s σ H x y v u Q I rx ry h;show xeE i j rfl q h;show xJt (xRO j t t' s _ _ (xnu xnB xcS xbs q))
def z8 {f:LW->LW->xEs}{g:Int->xoT Int}
  (rule:∀(i j:Int) (t u:Tok) (s:LX) (Q:xad) (E:xad),xOZ xnB s->xjt (f xnj (xiI u)) Q E s):
  NV X f (RM λ i j=>.bl xnB):=by
 intro L8 s σ H x y v u Q I rx ry h;show xeE i j rfl q h;show xJt (xRO j t t' s _ _ (xrJ xnB H I q))
def Ea (i j:Int):Prop:=0<j/\j<1073741824
def Dv (i j:Int):Prop:=0≤j/\j≤1000000/\i.natAbs<2^64
def CMul (i j:Int):Prop:=(-(2^64)<i/\i<2^64)\/(-(2^64)<j/\j<2^64)
def CMul.ok (h:CMul i j):IntMulOk i j:=by
 rcases h with⟨h1,h2⟩|⟨h1,h2⟩
 ·exact .of_left (xZX h2)
 ·exact .of_right (xZX h2)
def qM (k):xcU≤2^k:=by
 show LE two_pow_cast xd1
def aB:xLJ .Add (i+j):=xJ8 (add_int q)
def aU:xLJ .Sub (i-j):=xJ8 (sub_int q)
def cj:xGz .Mult CMul (i*j):=opI λ _ _ _ _ _ _ _ hc q=>mul_int q hc.ok
def bA:xGz .FloorDiv Ea (i/j):=opI λ i j _ _ _ _ _ hc q=>by
 have h1:xcU<j:=hc.1;have h2:j<1073741824:=hc.2;exact floordiv_int Z5 (by show LE (K6 i (LP h1)) q) (.inl (Km Z4))
def bi:xGz .Mod (λ _ j=>0<j) (i%j):=opI λ i j _ _ _ _ _ hc q=>by
 have h1:xcU<j:=hc;exact mod_int' (K1 (Int.ne_of_lt hc)) (by show LE (Int.fmod_eq_emod_of_nonneg i (LP hc)) q)
def cB:xGz .LShift Dv (i*2^j.toNat):=opI λ _ _ _ _ _ _ _ hc q=>lshift_int_small hc.1 (Ξ hc) (xbM hc) q
def eI:xGz .RShift (λ _ j=>0≤j) (i/2^j.toNat):=opI λ i j _ _ _ _ _ hc q=>
 rshift_int hc (by show LE (K6 i (qM _)) q)
def iD:xLJ .BitAnd (Builtin.bitAnd i j):=xJ8 (and_int q)
def xj:xLJ .BitOr (Builtin.bitOr i j):=xJ8 (or_int q)
def ou:xLJ .BitXor (Builtin.bitXor i j):=xJ8 (xor_int q)
def unI {g:Int->Int}
  (rule:∀(i:Int) (t:Tok) (s:LX) (Q:xad) (E:xad),Q (xW0 (g i)) xP4->xjt (f xnj) Q E s):
  UnR X f (rU λ i=>.int (g i)):=by
 intro L8 s σ H x v Q I rx h;show xqE i q h;show xgK t rx (xRO t s _ _ (xnu (g i) xcS xbs q))
def qZ:UnR X (unaryOp .USub) (rU λ i=>.int (-i)):=unI λ _ _ _ _ _ q=>neg_int q
universe s
noncomputable def DO:V->xoT V
 | .non,.non=>true| .non,.int _=>true| .int _,.non=>true| .non,.bl _=>true| .bl _,.non=>true| .non,.str _=>true| .str _,.non=>true
 | .int _,.int _=>true| .bl _,.bl _=>true| .str _,.str _=>true| .byt _,.byt _=>true
 | .int _,.str _=>true| .str _,.int _=>true| .bl _,.str _=>true| .str _,.bl _=>true
 |_,_=>false
inductive rEq (x:V) (y:V) (H:Hp) (Q:VK):Prop
 |mk (h0:SL (DO x y)) (h1:xgv (xdt x y)):rEq x y H Q
inductive rNe (x:V) (y:V) (H:Hp) (Q:VK):Prop
 |mk (h0:SL (DO x y)) (h1:xgv (! xdt x y)):rNe x y H Q
def tO:xIH (V.int i) j=(i==j):=by
 show xb8 Jx
def wW:xdt (V.bl i) (V.bl j)=(i==j):=by
 show xb8 Jx
def sR:xdt (V.str i) (V.str j)=(i==j):=by
 show xb8 Jx
def uq:xdt (V.byt i) (V.byt j)=(i.toList==j.toList):=by
 rw [Jx];cases i;cases j;simp
section
variable {X:Cx}{a b c:L5}{ta tb tc:TE}{pos:Pos}
def aZ {L8:Η}{σ:St}{H:Hp}{s:LX}(I:SZ)(q:xgv k)(e:k=k'):xp4 (.bool k') s:=by
 show xc3 (xrJ k H I q)
def bd:xh8 .Eq rEq:=by
 intro L8 s σ H x y v u Q I rx ry h;obtain⟨hs,q⟩:=h;cases x with
 |non=>
  cases rx;cases y with
  |non=>cases ry;exact PySem.EqNone.eq_none_none xdY
  |bl j=>cases ry;exact PySem.EqNone.eq_none_bool xdY
  |int j=>show xgn (PySem.EqNone.eq_none_int xdY)
  |str j=>show xgn (PySem.EqNone.eq_none_str xdY)
  |_=>show xpN
 |bl i=>
  cases rx;cases y with
  |non=>cases ry;exact PySem.EqNone.eq_bool_none xdY
  |bl j=>cases ry;exact eq_bool (xqY wW)
  |str j=>show xgn (PySem.EqMixed.eq_bool_str xdY)
  |_=>show xpN
 |int i=>
  show xjU;cases y with
  |non=>cases ry;exact PySem.EqNone.eq_int_none xdY
  |int j=>show xgn (eq_int (xqY tO))
  |str j=>show xgn (PySem.EqMixed.eq_int_str xdY)
  |_=>show xpN
 |str i=>
  show xjU;cases y with
  |non=>cases ry;exact PySem.EqNone.eq_str_none xdY
  |bl j=>cases ry;exact PySem.EqMixed.eq_str_bool xdY
  |int j=>show xgn (PySem.EqMixed.eq_str_int xdY)
  |str j=>show xgn (eq_str (xqY sR))
  |_=>show xpN
 |byt i=>
  show xjU;cases y with
  |byt j=>show xgn (PySem.W.eq_bytes (xqY uq))
  |_=>show xpN
 |_=>cases y<;>exact absurd (xG0 hs) Fb
def kJ:xWL rNe:=by
 intro L8 s σ H x y v u Q I rx ry h;obtain⟨hs,q⟩:=h;cases x with
 |non=>
  cases rx;cases y with
  |non=>cases ry;exact PySem.EqNone.ne_none_none xdY
  |bl j=>cases ry;exact PySem.EqNone.ne_none_bool xdY
  |int j=>show xgn (PySem.EqNone.ne_none_int xdY)
  |str j=>show xgn (PySem.EqNone.ne_none_str xdY)
  |_=>show xpN
 |bl i=>
  cases rx;cases y with
  |non=>cases ry;exact PySem.EqNone.ne_bool_none xdY
  |bl j=>cases ry;exact ne_bool (xRB wW)
  |str j=>show xgn (PySem.EqMixed.ne_bool_str xdY)
  |_=>show xpN
 |int i=>
  show xjU;cases y with
  |non=>cases ry;exact PySem.EqNone.ne_int_none xdY
  |int j=>show xgn (ne_int (xRB tO))
  |str j=>show xgn (PySem.EqMixed.ne_int_str xdY)
  |_=>show xpN
 |str i=>
  show xjU;cases y with
  |non=>cases ry;exact PySem.EqNone.ne_str_none xdY
  |bl j=>cases ry;exact PySem.EqMixed.ne_str_bool xdY
  |int j=>show xgn (PySem.EqMixed.ne_str_int xdY)
  |str j=>show xgn (ne_str (xRB sR))
  |_=>show xpN
 |byt i=>
  show xjU;cases y with
  |byt j=>show xgn (PySem.W.ne_bytes (xRB uq))
  |_=>show xpN
 |_=>cases y<;>exact absurd (xG0 hs) Fb
def cH:xh8 .Lt (RM λ i j=>xEf i j):=xRZ (lt_int q)
def kX:xh8 .LtE (RM λ i j=>.bl (xhH i j)):=xRZ (le_int q)
def cF:xh8 .Gt (RM λ i j=>xEf j i):=xRZ (gt_int q)
def lH:xh8 .GtE (RM λ i j=>.bl (xhH j i)):=xRZ (ge_int q)
def uI:xh8 .In (λ x y H Q=>∃i j,x=.str i/\y=.str j/\xgv (!(Builtin.Str.occurrences j i 0 j.length 1).isEmpty)):=by
 intro L8 s σ H x y v u Q I rx ry h;show xeE i j rfl q h;show xJt (in_str (xqY rfl))
def dW:xh8 .Is (λ x y H Q=>xn9 y/\xgv (xdt x .non)):=by
 intro L8 s σ H x y v u Q I rx ry h;show xoH rfl q h ry;refine is_none_gen (xqY ?_);cases x<;>first
  |(cases rx;rfl)
  |(show xjU;rfl)
def tx:xh8 .IsNot (λ x y H Q=>xn9 y/\xgv (! xdt x .non)):=by
 intro L8 s σ H x y v u Q I rx ry h;show xoH rfl q h ry;refine isnot_none_gen (xqY ?_);cases x<;>first
  |(cases rx;rfl)
  |(show xjU;rfl)
def ar (b)(h:xxd (op≠ .In))(h2:xxd (op≠ .NotIn)):xHb op b:=qv b h h2
def dm {op:CmpOp}{r:R2}(ho:xh8 op r)(ha:xlW)(hb:xwK)(hm:xHb op b):xar (xOg [op] xey pos) (V4 r ta tb):=by
 intro L8 s σ H Q I h;exact wpAny_Compare1 (binT ha hb I h λ v u s2 x y H2 I2 rx ry q=>xnz s2 H2 x y v u Q I2 rx ry q) hm
inductive Uv (Q:xyJ) (x:V) (H':Hp):Prop
 |mk (k:_) (h0:x=.bl k) (h1:xcP k):Uv Q x H'
def pA (t:TE):TT:=λ σ H Q=>xub (λ x H'=>Uv Q x H')
def aq {op:CmpOp}{r:R2}(ho:xh8 op r)(ha:xlW)(hb:xwK)(hm:xHb op b):xiY (xOg [op] xey pos) (pA (V4 r ta tb)):=by
 intro L8 s σ H Q I h;refine wpAny_isTrue_Compare1 (thn (xzu _) λ v s1 ⟨x,H1,I1,r1,q1⟩=>thn (xGd _ I1 q1) λ u s2 ⟨y,H2,I2,r2,q2⟩=>
  thn (xnz s2 H2 x y v u _ I2 r1 r2 q2) (xZC c ?_)) hm
 subst e;cases r3;exact IB ⟨H3,I3,q3⟩
inductive Sw (r':R2) (tc:TE) (σ:St) (Q:VK) (y:V) (z:V) (H3:Hp):Prop
 |mk (k:_) (h0:z=.bl k) (h1:(xcA k (tc σ H3 λ w' H4=>r' y w' H4 Q) (xxo false H3))):Sw r' tc σ Q y z H3
def A1 (r r':R2)(ta tb tc:TE):TE:=λ σ H Q=>xn8 (xLY λ y H2=>xme y H2 λ z H3=>Sw r' tc σ Q y z H3)
def pQ {op op':CmpOp}{r r':R2}(ho:xh8 op r)(V7:xh8 op' r')(ha:xlW)(hb:xwK)(hc:xar c tc)
  (hm:Μ (lastMarks [op,op'] [b,c]):=by with_unfolding_all rfl):xar (xOg [op,op'] [b,c] pos) (A1 r r' ta tb tc):=by
 intro L8 s σ H Q I h;refine Compare_chain (thn (xzu _) λ v s1 ⟨x,H1,I1,r1,q1⟩=>chain_link (thn (xGd _ I1 q1) λ u s2 ⟨y,H2,I2,r2,q2⟩=>
  thn (xnz s2 H2 x y v u _ I2 r1 r2 q2) (xZC d ?_))) hm
 subst e;cases r3;refine IB ?_;cases k with
 |false=>exact ite_ff (xbY xxO H3 I3 q3)
 |true=>exact ite_tt (chain_last (xdM (xFd s3 σ H3 _ I3 q3) w' s4 z9 (by show xtf z' H4 I4 r4 q4;exact V7 L8 s4 σ H4 y z' u w' Q I4 r2 r4 q4)))
def iH:xgw sizeLine<2^63:=by show xqb IQ
def jV:xDZ .Add (λ x y H Q=>∃i j,x=.str i/\y=.str j/\xcN (i.length+j.length)/\xXK (i++j)):=by
 intro L8 s σ H x y v u Q I rx ry h;show xgW i j rfl rfl hz q;show xJt (add_str (λ t' tk=>xgu (.str (i++j)) xcS xbs q) hz)
def fK (r:xqG xcZ):∃u,us=xky/\xsz:=by
 cases r with
 |cons r1 r2=>cases r2;exact xaJ r1
def sL (r:xqG [x,y]):∃u w',us=[u,w']/\xsz/\RelV y w':=by
 cases r with
 |cons r1 r2=>
  cases r2 with
  |cons r3 r4=>cases r4;exact xnV r1 r3
def ve (hc:xxy):xtE X "max" (λ xs H Q=>∃i j,xs=[xcq,xiI]/\xku (if j>i then j else i)):=by
 intro L8 s σ H xs us Q I r h;show xo6 i j rfl q;obtain⟨u,w',rfl,⟨t,rfl⟩,⟨t',rfl⟩⟩:=sL r;refine max_two_ints hc λ h' tk k=>xeQ H (I.kept k) ?_ q
 by_cases hj:j>i
 ·rw [E5 hj,E5 hj];exact xbs
 ·rw [ES hj,ES hj];exact xbs
def iA (hc:xxy):xtE X "min" (λ xs H Q=>∃i j,xs=[xcq,xiI]/\xku (if j<i then j else i)):=by
 intro L8 s σ H xs us Q I r h;show xo6 i j rfl q;obtain⟨u,w',rfl,⟨t,rfl⟩,⟨t',rfl⟩⟩:=sL r;refine min_two_ints hc λ h' tk k=>xeQ H (I.kept k) ?_ q
 by_cases hj:j<i
 ·rw [E5 hj,E5 hj];exact xbs
 ·rw [ES hj,ES hj];exact xbs
def iN:fq X xHl (λ xs H Q=>(∃i,xs=[xcq]/\xf0 xcq)\/∃k,xs=[.bl k]/\xku (xLn k 1)):=by
 intro L8 s σ H xs us Q I r h;rcases h with⟨i,rfl,q⟩|⟨k,rfl,q⟩
 ·show xbq u rfl t rfl xwl (call_int_int (xgu xcq I xbs q))
 ·show xlL u r1 xwl r1;exact call_int_bool (xnu (xLn k 1) xcS xbs q)
universe s
structure T7 (h:L4)(x dx C:LV)(mA:Α):Prop where
 obj:xBE x xXJ
 ns:xRb dx
 ne:dx≠x
def vv {h:L4}(n:xRb dx):∃od,xBE dx od/\∀name,Tm (lookIn name od) xO0:=by
 obtain⟨o,es,ep,ho,hd,hk,_,hm⟩:=n;refine xjS ho (xc5 name);have e:=hm name;unfold nsFind findBy at e;rw [<-Array.find?_toList] at e;show xci lookIn hd;dsimp only
 split
 ·rename_i y q
  show π q e (xxC e)
 ·rename_i q
  rw [q] at e;have a:Μ xYM:=by
   rw [List.any_eq_false];intro y hy;obtain⟨z,t,Oz⟩:=hk y (Array.mem_toList_iff.mp hy);simp [DictEntry.refKey,Oz]
  have a':¬SL xYM:=by show LE a Fb
  show xlq a' (xxC e)
def T7.look (I:T7 h x dx C mA):∃od,InstAt h x xXJ C (some od)/\∀name,Tm (lookIn name od) xO0:=
 let⟨od,ho,hl⟩:=vv I.ns
 ⟨od,xc8 I.obj rfl ho,hl⟩
section
variable {prog:LY}{w:LZ}{A:L3}{E:xad}{s:LX}{K:Frag}{x dx C f:LV}{mA:Α}{name:Str}{v:LW}
def yx (X:xox)(I:xWh x dx C mA)(hg:SL (xOh C name))(hh:xNF K C)
  (ha:xmI K name none) (hv:xO0=xaw) (hv':SL (handedIn v)) (h:Q v xP4):
  xhf (getAttr xcn name expr):=by
 show xbp od J hl I.look (PySem.W.get_value X J (K2 hg).1 (PySem.W.findObj_own hh ha rfl (by rw [hl,hv])) hv' h)
def wM (X:xox)(I:xWh x dx C mA)(hg:SL (xOh C name))
  (hf:xmI K name xeL) (ht:xDm K xeD) (hv:xac xO0) (h:Q (xeD,[xcn]) s):
  xhf (getMethod xcn name pl):=by
 show xbp od J hl I.look (PySem.W.method_fn X J (K2 hg).1 (K2 hg).2 hf (FM.mp ht) (by show(lookIn name od).map (·.isSome)=some false;rw [hl,hv];rfl) h)
def zf (X:xox)(I:xWh x dx C mA)
  (hs:xmI K "__setattr__" xYG) (hp:SL (plainOver K C)) (ht:Tm (takerIn K C name) none) (hh:xNF K C)
  (hw:xYz ns) (hsz:xcN ns.length)
  (h:∀h',T7 h' x dx C (λ y=>xbc y name xaw (mA y))->xG5 dx h'->xzx (xNK h' (s.toks+2))):
  xhf (setAttr xcn name v):=by
 show xbd od J hl I.look (PySem.W.set_plain X J hs (PySem.W.osa_open X J hp ht (xc5 b)));show xeP cd hc hd' (PySem.W.any_some hh) hx (xgN x ⟨xgD,some dx,.plain,#[]⟩) I.obj;refine xrs (EG (EG (wpAny_loadPart hx (EG (Looks.here (PySem.W.looks_clsIn X hc) ?_)))));show xhO hd' (E1 (xrs xJE)) (wpAny_nsSet1 I.ns (xsU QL Rt))
 obtain⟨oD,esD,epD,hoD,hdD,hcD⟩:=QL.count (PySem.Within.cons name v hw);refine EG (wpAny_lookBehind hoD (by show LE hdD (pastItsLine_dict (EF hcD (by show LE EV (Gb hsz 1))))) ?_);exact E1 (xgp ⟨xqC Rt _ (K1 I.ne) I.obj,QL,I.ne⟩ Rt)
def xY (X:xox)(hm:xxU K C)
  (hi:xxP K xeL) (hf:Tm (typeIn K xeD) (.type "function"))
  (h:xtA xEg (xxL ⟨xgD::vs,kw⟩) xeD ⟨xyk::vs,kw⟩ (InitBack xeh R) (xmi xAk)):
  xtA xEg A xgD ⟨vs,kw⟩ R s:=by
 show xfG hh g d t os s (make_core (LC X hm) (x0Q hi) (λ self=>PySem.W.bind_fn X self hf) xec h)
def vz (X:xox)(hm:xxU K C)
  (hi:xxP K xYW)
  (hb:∀self,Looks xEg s.heap (bindSpecial xS3 self) (xS3,[self]))
  (h:xtA xEg (xxL (xoC [xgD])) xS3 (xoC [xyk]) (InitBack xeh R) (xmi xAk)):
  xtA xEg A xgD (xoC []) R s:=by
 show xfG hh g d t os s (make_core (LC X hm) (x0Q hi) hb xt9 h)
universe s
noncomputable def putF (f:Str) (v:V):xfn->xfn
 | []=>[(f,v)]
 |(g,x)::r=>xbc g f ((g,v)::r) ((g,x)::xvE r)
theorem ap (f g)(v):∀fs,(xQb).lookup g=xbc g f xaw (fs.lookup g)
 | []=>by
  show List.lookup g [(f,v)]=_;by_cases h:g=f
  ·have hb:SL (g==f):=xW8;show xHT hb xvU
  ·have hb:Μ (g==f):=xW9;show xHT hb xvV
 |(k,x)::r=>by
  have ih:=ap f g v r;rw [xce (xvE ((k,x)::r)) (xbc k f ((k,v)::r) ((k,x)::xvE r))];by_cases hk:k=f
  ·rw [E5 hk];by_cases h:g=k
   ·have hb:SL (g==k):=xW8;show xHT hb (E5 (h.trans hk))
   ·have hb:Μ (g==k):=xW9;show xHT hb (ES (λ e:g=f=>h (e.trans hk.symm)))
  ·rw [ES hk];by_cases h:g=k
   ·have hb:SL (g==k):=xW8;show xHT hb (ES (λ e:g=f=>hk (h.symm.trans e)))
   ·have hb:Μ (g==k):=xW9;simp only [List.lookup,hb];exact ih
theorem iE (f)(v):∀fs,f∈(xQb).map (·.1)/\∀g,g∈fs.map (·.1)->g∈(xQb).map (·.1)
 | []=>xih (by simp [putF]) g h (by show xbG)
 |(k,x)::r=>by
  obtain⟨i1,i2⟩:=iE f v r;rw [xce (xvE ((k,x)::r)) (xbc k f ((k,v)::r) ((k,x)::xvE r))];by_cases hk:k=f
  ·rw [E5 hk];subst hk;show xaj Z6 (λ g h=>by show xuY)
  ·show xrT hk (xen ?_ g h)
   ·show LE Gp (xmC i1)
   ·rw [Gp] at h ⊢;show xoe h e e
    ·exact Fa.mpr xI5
    ·exact xmC (i2 g e)
theorem jb (f)(v):∀fs,xcy xQb (fs.length+1)
 | []=>by simp [putF]
 |(k,x)::r=>by
  have ih:=jb f v r;rw [xce (xvE ((k,x)::r)) (xbc k f ((k,v)::r) ((k,x)::xvE r))];by_cases hk:k=f
  ·rw [E5 hk,EV,EV];exact xEF
  ·rw [ES hk,EV,EV];exact Gb ih 1
def NX.some_of (r:NX xaw o):∃u,o=xaP/\xd5:=by
 cases o with
 |none=>show xkn xOa
 |some u=>exact xf2 u r
def NX.none_of (r:NX none o):xac o:=by
 cases o with
 |none=>rfl
 |some u=>show xkn xOa
def vG (r:xd5):SL (handedIn u):=by
 cases v with
 |non=>cases xnU Value.none r;rfl
 |bl b=>cases xnU (Value.bool b) r;rfl
 |int i=>show xoH t e (xyp (∃t,u=xxZ i)) e;rfl
 |str x=>show xoH t e (xyp (∃t,u=xIc x)) e;rfl
 |byt b=>show xoH t e (xyp (∃t,u=x1b t)) e;rfl
 |flt b=>show xoH t e (xyp (∃t,u=xVs b)) e;rfl
 |ref a=>cases xnU xfB r;rfl
 |ty n=>cases xnU (Value.type n) r;rfl
section
variable {P:LY}{w:LZ}{H H':Hp}{h h':L4}{a C dx:LV}{fs fs':xfn}
def jt (hok:xkk)(e:UF=xr2):∃mA,T7 h a dx C mA/\(∀f,NX xHt (mA f))/\xZA/\xbC fs.length/\xrb dx a:=by
 obtain⟨d,z,ne,ob,mA,n,r,q⟩:=(show xsO (.ins C dx fs) from hok a _ e);exact⟨mA,⟨ob,n,ne⟩,r,q,z,d⟩
universe s
structure Cls (K:Frag)(C:LV):Prop where
 pg:SL (xOh C Str.empty)
 hd:xNF K C
 po:SL (plainOver K C)
 sa:xmI K "__setattr__" xYG
def Cls.get {K:Frag}(c:xhm)(f):SL (xOh C f):=c.pg
def NoAttr (K:Frag)(C:LV)(f:Str):Prop:=xmI K f none
def NoAttr.taker {K:Frag}(n:xdC f):Tm (takerIn K C f) none:=by
 show xci takerIn (Ω (findIn K xgD f) (some none) n);rfl
structure Meth (K:Frag)(C:LV)(m:Str)(f:LV):Prop where
 at_:xmI K m xeL
 fn:xDm K xeD
 kp:xiU
section
variable {X:Cx}{L8:Η}{σ:St}{H:Hp}{s:LX}{a C dx:LV}{fs:xfn}{f:Str}{v:V}{A:L3}{E:xad}
def rO {b:Bool}{Q:xad}(I:SZ)(e:UF=xr2)(c:xA0)(n:NoAttr X.K C f)(l:xHt=xaw)
  (h:∀u s',xzK->xd5->Q u s'):xnF (getAttr Γ f b) Q E s:=by
 obtain⟨mA,O,r,_,_,_⟩:=xPc e;show xbp u hu ru (NX.some_of (v:=v) (o:=mA f) (by show xba l (r f))) (yx I.kIn O (c.get f) c.hd n hu (vG ru) (h u _ xcS ru))
def eF {m:Str}{g:LV}{pl:xDe}(I:SZ)(e:UF=xr2)(c:xA0)(k:xrM X.K m g)(l:xUu m)
  (h:Q (.ref g,xbL) s):xnF (getMethod Γ m pl) Q E s:=by
 obtain⟨mA,O,r,_,_,_⟩:=xPc e;have hn:xac (mA m):=NX.none_of (by show xba l (r m));exact wM I.kIn O (c.get m) k.at_ k.fn hn h
def rK {y:V}{u:LW}{Q:xk5 Unit}(I:SZ)(e:UF=xr2)(c:xA0)(n:NoAttr X.K C f)(hl:fs.length<1000)(ry:xi2)
  (h:∀s',xij (xdp H a C dx (xMH y fs)) s'->xzx s'):xnF (setAttr Γ f u) Q E s:=by
 obtain⟨mA,O,r,wi,_,ho⟩:=xPc e;have hz:xO7 (fs.map (·.1)):=by rw [EA,IQ];exact xdj (E4 hl)
 refine zf I.kIn O c.sa c.po n.taker c.hd wi hz λ h' O' sb=>xgp ?_
 have hd:∃o,h'.get? dx=Id:=let⟨o,_,_,e',_⟩:=O'.ns;xMm e';show ρ (I.write (by show xWM) (.inr ho) (λ b q hb z=>xqC sb b hb z) hd ?_) ⟨by show υ O.ne ho,?_,O.ne,O'.obj,_,O'.ns,xc5 g,P3 g hg⟩
 ·show xaE (jb f y fs) (EF this hl)
 ·show NX ((xMH y fs).lookup g) (xbc g f xaP (mA g));rw [ap];by_cases q:g=f
  ·rw [E5 q,E5 q];exact ry
  ·rw [ES q,ES q];exact r g
 ·by_cases q:g=f
  ·show LE q (iE f y fs).1
  ·refine(iE f y fs).2 g (wi g (On (hg ?_)));show xac (xbc g f xaP (mA g));show xlq q z
def Inv.made (I:SZ):xij (xkA (xra s.heap.objs.size xeh) xeh C s.heap.objs.size) (xmi xAk):=by
 have e1:xk1 xGL s.heap.objs.size emptyDict:=Fw s.heap rfl;have e2:xk1 xAk xeh (xGK C):=by
  have:=Fw xGL (o:=xGK C) rfl
  rwa [JJ] at this
 have e3:(xGL).Ns s.heap.objs.size xG2:=⟨emptyDict,#[],_,e1,rfl,(xe9 e he he Z6),xhA⟩;have I1:=I.laid (a:=s.heap.objs.size) (o:=.own xeh) (t':=s.toks) (λ b u q=>xz6) Tl (xbR e1);refine I1.laid (λ b u q=>xz6) (EC (JJ _ _)) ?_;have ne:s.heap.objs.size≠xeh:=FL xna;refine⟨by rw [ai ne,i'],xan,ne,e2,xG2,(Heap.Ns1.of_empty e3).at λ o q=>xz6,λ _=>True.intro,xe9 y hy rfl hy⟩
def zF (hb:xTR f env (xrf e)=xrf e)
  (h:xmJ (xrf e) (λ o s₁=>xCC (getAttr o f true) s₁) E s):xhf (xrf (xH0 e pos)):=
 Attribute_any_ h (by rw [arm_eval_Attribute,hb])
universe s
inductive W2 (K:Frag) (f:Str) (Q:VK) (x:V) (H1:Hp):Prop
 |mk (a:_) (C:_) (dx:_) (fs:_) (v:_) (h0:x=Γ) (h1:H1 a=xr2) (h2:xhm) (h3:xdC f) (h4:xHt=xaw) (h5:Q v H1):W2 K f Q x H1
def CZ (K:Frag)(ta:TE)(f:Str):TE:=λ σ H Q=>xn8 (W2 K f Q x H1)
inductive Xp (K:Frag) (f:Str) (D:Ends) (σ:St) (y:V) (x:V) (H2:Hp):Prop
 |mk (a:_) (C:_) (dx:_) (fs:_) (h0:x=Γ) (h1:H2 a=xr2) (h2:xhm) (h3:xdC f) (h4:fs.length<1000) (h5:xGZ (xdp H2 a C dx (xMH y fs))):Xp K f D σ y x H2
def D9 (K:Frag)(ta tv:TE)(f:Str):TS:=λ D σ H=>tv σ H λ y H1=>ta σ H1 λ x H2=>Xp K f D σ y x H2
section
variable {X:Cx}{o e value:L5}{f:Str}{pos pos' tpos:Pos}{ta tv:TE}
def aA (he:xar e ta)(hb:xTR f X.env xEP=xEP):xar (xH0 e pos) (CZ X.K ta f):=by
 intro L8 s σ H Q I h;refine zF hb (xvL _ I h u);obtain⟨x,H1,I1,rx,a,C,dx,fs,v,ex,ea,c,n,l,q⟩:=z9;subst ex;obtain rfl:u=xfB:=rx;exact rO I1 ea c n l λ u' s2 I2 ru=>⟨v,H1,I2,ru,q⟩
def aK (ha:xAR)(hv:xar value tv)(hs:xNd value (some (xH0 o pos')) X.env=xCH):xIp [xH0 o pos'] value pos (D9 X.K ta tv f):=by
 intro L8 s σ H D I h;refine plainObj_wpAny_Assign_Attribute (thn (hv L8 s σ H _ I h) λ u s1 ⟨y,H1,I1,ry,q⟩=>xhy (xM8 s1 H1 _ I1 q) ov s2) hs;obtain⟨x,H2,I2,rx,a,C,dx,fs,ex,ea,c,n,l,q2⟩:=z9;subst ex;obtain rfl:ov=xfB:=rx;exact rK I2 ea c n l ry λ s3 I3=>xvM _ I3 q2
universe s
section
variable {X:Cx}{L8:Η}{σ:St}{H:Hp}{s:LX}{A:L3}{E:xad}{Q:xad}{c:LW}{b:Bool}
inductive OV (K:Frag) (H:Hp):xea V LW where
 |non:xQc .non "NoneType"
 |bl (x:Bool):xQc (.bl x) "bool"
 |int (i:Int):OV K H xcq xHl
 |str (x:Str):xQc xun "str"
 |flt (x:UInt64):xQc (.flt x) "float"
 |lst {a:LV} {xs:M2} (e:UF=xdZ):xF5 xxA
 |frz {a:LV} {o:L6} {xs:M2} (e:UF=xtn o xC0):xF5 xxA
 |tup {a:LV} {xs:M2} (e:UF=xhR):xF5 xHi
 |dK {a:LV} {Mn:xuU} (e:xsg a):xF5 xNm
 |dT {a:LV} {Mn:xFN} (e:xsi a):xF5 xNm
 |ins {a C dx:LV} {fs:xfn} (e:UF=xr2) (cl:xhm) (ha:xmI K "__class__" xYT)
   (hn:Tm (specialIn K xMy "__get__") xYo) (htk:xrw (takesIn K xMy))
   (hm:xrw (mroIn K C xM0)):xF5 xgD
def uP {x:V}{u t:LW}(I:SZ)(rx:xsz)(ty:OV X.K H x t)(e:Tm (kitOne X.K t c) b)(h:∀tk,xOZ b (xTD tk)):
  xnF (xtr "isinstance" [u,c]) Q E s:=by
 cases ty with
 |non=>cases xnU Value.none rx;exact xHD PySem.W.kitx_none e xjf h
 |bl y=>cases xnU (Value.bool y) rx;exact xHD PySem.W.kitx_bool e xjf h
 |int i=>show xoH t q (show∃t,u=xxZ i from rx) q;exact xHD PySem.W.kitx_int e xjf h
 |str y=>show xoH t q (show∃t,u=xIc y from rx) q;exact xHD PySem.W.kitx_str e xjf h
 |flt y=>show xoH t q (show∃t,u=xVs y from rx) q;exact xHD PySem.W.kitx_float e xjf h
 | @lst a xs ea=>
  cases xF7;obtain⟨_,_,n,_,h1⟩:=(show xI2 H a xC0 from xhI a ea);exact xxR kitx_list (xrC h1) e xjf h
 | @frz a ob xs ea=>
  cases xF7;obtain⟨_,_,_,n,_,h1⟩:=(show xI2 H a (.frz ob xC0) from xhI a ea);exact xxR kitx_list (xrC h1) e xjf h
 | @tup a xs ea=>
  cases xF7;obtain⟨_,_,_,p⟩:=(show xI2 H a (.tup xs) from xhI a ea);obtain⟨o,h1,h2,_⟩:=p;exact xxR PySem.W.kitx_tuple (xjS h1 h2) e xjf h
 | @dK a Mn ea=>
  cases xF7;obtain⟨_,_,vs,_,p⟩:=(show xI2 H a xot from xhI a ea);obtain⟨o,es,ep,h1,h2,_⟩:=p;exact xxR kitx_dict (xjS h1 xpf) e xjf h
 | @dT a Mn ea=>
  cases xF7;obtain⟨_,_,xs,_,o,es,ep,h1,h2,_⟩:=(show xI2 H a xG1 from xhI a ea);exact xxR kitx_dict (xjS h1 xpf) e xjf h
 | @ins a C dx fs ea cl ha hn htk hm=>
  cases xF7;obtain⟨mA,O,_⟩:=xPc ea;obtain⟨od,J,_⟩:=O.look;exact xxR (PySem.W.kitx_own (cl.get _) cl.hd ha hn htk hm) J e xjf h
universe s
structure Mj (k:Nat)(A:L3):Prop where
 hd:30≤k->xUM
 dp:xVv (A.depth+3*k+5)
 un:xNe (16*k)+200<cLine
 gd:Tm A.guards []
def Mj.mono (r:xsG A)(h:j≤k):Mj j A:=⟨xPb (EF z h),by show xaE r.dp (xdF [_,_,_,_] (xAj 3 (xtR (xoA 3) 5)) (xyS 3 WF) (xtR xEa 5) (EH 3 h) this),by show xaE r.un (xdF [_,_,_,_] (xAj 16 (xJI (xoA 16))) (xyS 16 WF) (xJI xPw) (EH 16 h) this),r.gd⟩
theorem Mj.deeper (r:Mj (k+1) A)(env):xHK k env:=
 ⟨xPb (Gr z),by have:=r.dp;show A.depth+1+3*k+5<_;exact xsS [_,_,_] (xtR xQ7 5) WF (xml (xoM xEa) 5) WF,by have:=r.un;show xNe 3+16*k+200<_;exact xsS [_,_,_] xXP WF (xml (.a xfc xPw) 200) WF,r.gd⟩
theorem Mj.in1 (r:Mj (k+1) A):xsG A.in1:=
 ⟨xPb (Gr z),by have:=r.dp;show A.depth+3*k+5<_;exact xsS [_,_,_] (xtR xQ7 5) WF (xtR xEa 5) WF,by have:=r.un;show xAU+16*k+200<_;exact xsS [_,_,_] xXP WF (xml (xoM xPw) 200) WF,r.gd⟩
def sf {A:L3}:(xxL ⟨xgD::us,kw⟩).depth=A.depth+1:=by
 first|rfl|simp [Around.under,Code.weight,Code.isCreation,Code.isGuard,Code.isCaller,Code.frames,Code.isFrame,guardIds]
def rR {A:L3}:(xxL ⟨xgD::us,kw⟩).units=xAU:=by
 first|rfl|simp [Around.under,Code.cUnits,Code.frames,Code.isFrame]
def Tt {A:L3}:(xxL ⟨xgD::us,kw⟩).guards=A.guards:=by
 first|rfl|simp [Around.under,Code.guards,Code.isGuard,guardIds,pushGuards]
def Mj.make (r:Mj (k+1) A)(C)(us)(kw):xsG (xxL ⟨xgD::us,kw⟩):=
 ⟨xPb (Gr z),by have:=r.dp;show LE sf (xsS [_,_,_] (xtR xQ7 5) WF (xml (xoM xEa) 5) WF),by have:=r.un;show LE rR (xsS [_,_,_] xXP WF (xml (xoM xPw) 200) WF),Tt.trans r.gd⟩
theorem Mj.depth (r:xsG A):xVv A.depth:=by show xaE r.dp (xaf [_,_,_] (xtR (xkN 3) 5) Sc NE Sc this)
theorem Mj.units (r:xsG A):xNe 64<cLine:=by show xaE r.un (xaf [_,_,_] (xJI (xkN 16)) Sc (xaG (xcT 64)) Sc this)
def kU:TA:=λ _ H Q=>xf0 []
def lz (ta:TE)(tr:TA):TA:=λ σ H Q=>xn8 (tr σ H1 λ xs H2=>Q (x::xs) H2)
section
variable {X:Cx}{e:L5}{es:xmT}{te:TE}{t:TA}{pos:Pos}
def af:xjT [] kU:=λ _ _ _ _ H Q I h=>Calls.spliced_nil (xgu [] I .nil h)
def aa (ha:xwL)(hr:xjT es t)(hs:xal (xpt=xi6::xpp)):xjT xew (lz te t):=by
 intro pos L8 s σ H Q I h;rw [hs];show xiE (spliced (xi6::xua es));show xg8 (Calls.spliced_cons (xAo u)) x;exact xdM (hr pos L8 s1 σ H1 _ I1 q1) us s2 z9 (by show xtf xs H2 I2 r2 q2;exact⟨x::xs,H2,I2,.cons r1 r2,q2⟩)
inductive WZ (Q:VK) (xs:M2) (H1:Hp):Prop
 |mk (h0:xow) (h1:∀p,xhF p->xsy (xdJ H1 p xs)):WZ Q xs H1
def DE (t:TA):TE:=λ σ H Q=>xkE xs (WZ Q xs H1)
inductive W0 (Q:VK) (xs:M2) (H1:Hp):Prop
 |mk (h0:xow) (h1:∀p,xhF p->xsy (xbP H1 p xs)):W0 Q xs H1
def C6 (t:TA):TE:=λ σ H Q=>xkE xs (W0 Q xs H1)
def dz {x1}(h:xjT es t):xar (xOD x1 pos) (DE t):=by
 intro L8 s σ H Q I hq;refine wpAny_Tuple_spliced (thn (h pos L8 s σ H _ I hq) λ us s1 ⟨xs,H1,I1,r,z,q⟩=>xde (by show xba r.length z));have hf:xZf:=xMu;refine xbY xTa (xdJ H1 s1.heap.objs.size xs) (xVw s1.toks (λ b u e=>xd0) Tl ?_) (q _ hf);exact⟨z,us,r,xbI _ xg1 _ rfl⟩
def aQ (h:xjT es t):xar (.List es pos) (C6 t):=by
 intro L8 s σ H Q I hq;refine wpAny_List_spliced (thn (h pos L8 s σ H _ I hq) λ us s1 ⟨xs,H1,I1,r,z,q⟩=>xde (by show xba r.length z));have hf:xZf:=xMu;refine xbY xTa (xbP H1 s1.heap.objs.size xs) (xVw s1.toks (λ b u e=>xd0) Tl ?_) (q _ hf);exact⟨z,us,0,r,xg1⟩
universe s
abbrev Sp:=M2->Hp->xea VK XK
abbrev Ze:=xgO->Hp->LX->XK->xad
structure QJ (P:LY)(w:LZ)(K:Frag)(mg:Α)(base:L4)(A:L3)(outer:xgO)(s:LX)(H:Hp):Prop where
 frames:Tm A.frames outer
 mod:Mod K mg base
 bs:∀b o,base.get? b=Id->xfo/\xd3
 bsz:base.objs.size≤s.heap.objs.size
 funs:s.heap.FunFrames base outer
 frf:xbQ (frs outer) xd3
 hok:xyt H s.heap
 bare:x0O
 qt:Qt A H
def CE (outer:xgO)(P:LY)(w:LZ)(H:Hp)(s:LX)(Q:VK)(u:LW)(s':LX):Prop:=
 ∃v H',s'.os=s.os/\xHe/\Un (frs outer) [] H H' s.heap s'.heap/\xyt H' s'.heap/\xd5/\xAE
def CR (CX:Ze)(outer:xgO)(P:LY)(w:LZ)(H:Hp)(s:LX)(Q:VK)(E:XK)(r:Result)(s':LX):Prop:=
 match r with
 | .ok (.ret u)=>xXa P w H s Q u s'
 | .ok _=>False
 | .error e=>xXb H s E e s'
structure C' (P:LY)(w:LZ)(K:Frag)(mg:Α)(base:L4)(CX:Ze)(k:Nat)(f:LV)(fd:L0)(ps:xaO)(sp:Sp):Prop where
 len:∀vs H Q E,xhp->xtG
 run:∀(A:L3) (outer:xgO) (s:LX) (H:Hp) (args:Args) (us:xa3) (vs:M2) (Q:VK) (E:XK),xsG A->xGD K mg A s H->BindsTo s fd args xCz->xFx->xhp->
  xtA (model P w) A xeD args (CR CX outer P w H s Q E) s
theorem C'.mono {P:LY}{K:Frag}(F:xii P w K CX j f fd ps sp)(h:j≤k):
  xii P w K CX k f fd ps sp:=⟨F.len,λ A outer s H args us vs Q E hr=>xWT A s H args us vs Q E (hr.mono h)⟩
def C'.imp {P:LY}{K:Frag}(F:xii P w K CX k f fd ps sp)
  (h:∀vs H Q E,sp' vs H Q E->xhp):xii P w K CX k f fd ps sp':=
 ⟨λ vs H Q E q=>F.len vs H Q E (xlo _ _ q),λ A outer s H args us vs Q E hr he hb hv hs=>xWT A s H args us vs Q E hr he hb hv (xlo _ _ hs)⟩
def QJ.make {K:Frag}(e:xGD K mg A s H)(C)(us)(kw):
  xGD K mg (xxL ⟨xgD::us,kw⟩) s H:=⟨by first|exact e.frames|(simpa [Around.under,Code.envs,Code.isFrame,pushEnvs] using e.frames),e.mod,e.bs,e.bsz,e.funs,e.frf,e.hok,e.bare,e.qt⟩
theorem QJ.in1 {K:Frag}(e:xGD K mg A s H):
  xGD K mg A.in1 s H:=⟨e.frames,e.mod,e.bs,e.bsz,e.funs,e.frf,e.hok,e.bare,e.qt⟩
section
variable {X:Cx}{L8:Η}{σ:St}{H:Hp}{s s':LX}
def Inv.env0 (I:SZ):QJ X.prog X.w X.K X.mg X.base X.A X.stack s H:=
 ⟨I.ok.frames,I.ok.mod,I.bs,xNT I.sz,I.stack,I.stkFree,I.hok,I.bare,I.qt⟩
def Inv.after {Q:VK}{u:LW}(I:SZ)(h:CE X.stack X.prog X.w H s Q u s'):xp4 u s':=by
 obtain⟨v,H',os,bare,un,hok,r,q⟩:=h;obtain⟨hh,g,d,t,os'⟩:=s';obtain rfl:os'=s.os:=os;exact⟨v,H',I.call (h':=hh) (g':=g) (d':=d) (t':=t) (ch:=[]) un hok bare (xe9 b z z Z6),r,q⟩
universe s
def sP (sp:Sp)(OP:M2)(E:XK)(t:TA):TE:=λ σ H Q=>xkE vs (sp (vs++OP) H1 Q E)
inductive UA (C:LV) (m:Str) (sp:Sp) (OP:M2) (E:XK) (t:TA) (σ:St) (Q:VK) (x:V) (H1:Hp):Prop
 |mk (a:_) (dx:_) (fs:_) (h0:x=Γ) (h1:H1 a=xr2) (h2:xUu m) (h3:t σ H1 λ vs H2=>sp (x::(vs++OP)) H2 Q E):UA C m sp OP E t σ Q x H1
def pc (C:LV)(m:Str)(sp:Sp)(OP:M2)(E:XK)(ta:TE)(t:TA):TE:=λ σ H Q=>xn8 (UA C m sp OP E t σ Q x H1)
def Av (C:LV)(sp:Sp)(OP:M2)(E:XK)(t:TA):TE:=λ σ H Q=>xkE vs (∀x dx,xhF x->xhF dx->dx≠x->
 sp (xcn::(vs++OP)) (xdp (xt4 H1 dx x) x C dx []) (λ v H2=>xn9 v/\Q xcn H2) E)
def Binds (K:Frag)(fd:L0)(ps:xaO)(ds:xa3):Prop:=
 ∀s us,xox->xBV (xcm us ds)->xze s us (ps.zip (us++ds))
def Binds.all {K:Frag}{fd:L0}(h:∀us:xa3,xBV us.length->xWD fd us=pure xCz):xps:=λ s us _ hl=>by
 rw [Fv] at hl ⊢;exact .of_eq (h us hl)
def eW (CX:Ze)(X:Cx)(E:XK):Prop:=∀(L8:Η) (σ:St) (H:Hp) s e s',SZ->CX X.stack H s E e s'->X.xe e s'
section
variable {X:Cx}{CX:Ze}{k:Nat}{f C:LV}{fd:L0}{ps:xaO}{sp:Sp}{OP:M2}{ds:xa3}{E:XK}{x m:Str}{p pos apos:Pos}{e o:L5}{es:xmT}{ta:TE}{t:TA}
def iZ {L8:Η}{σ:St}{H:Hp}{s:LX}{Q:VK}{us:xa3}(F:xwT)(hr:xp1)(hb:xvC)(hd:xvz)(hx:xwS)
  (I:SZ) (r:xFx) (h:sp (vs++OP) H Q E):xqn (xNk us):=by
 have r2:Vals (vs++OP) (us++ds):=x1g;have hl:xBV (xcm us ds):=by show xba r2.length (F.len _ _ _ _ h)
 show xQH (xHv (xVx X.A s H (xoC us) (us++ds) (vs++OP) Q E hr I.env0 (hb s us I.kIn hl) r2 h) r s' hq);cases r with
 |error e=>exact hx L8 σ H s e s' I hq
 |ok fl=>
  cases fl with
  |ret u=>exact I.after hq
  |next=>show xfE hq
  |brk=>show xfE hq
  |cont=>show xfE hq
def ci (F:xwT)(hr:xp1)(hg:xka)(hm:xuQ=xeL)(hk:SL (keepIn X.K xeD))(hb:xvC)(hd:xvz)(hx:xwS)
  (ha:xsI) (TV:xgf (x==xhu)) (he:xal (xpt=xi6::xpp)) (Od:xtc):
  xpu x p xew [] (sP sp OP E t):=by
 intro L8 s σ H Q I h;show ρ (Hu (gy I hg hm ?_ TV)) (Kd (h₀:=X.base) I.ok.mod.kin hk (thn xJ4 λ us s1 ⟨vs,H1,I1,r,q⟩=>xde I1.kIn) he Od);exact iZ F hr hb hd hx I1 r q
def oF (F:xwT)(hr:xp1)(hg:xka)(hm:xuQ=xeL)(hk:SL (keepIn X.K xeD))(hb:xvC)(hd:xvz)(hx:xwS)
  (TV:xgf (x==xhu)):xpu x p [] [] (sP sp OP E kU):=by
 intro L8 s σ H Q I h;refine Hu (gy I hg hm ?_ TV);exact xXc hk (xKu [] F hr hb hd hx I .nil h)
def mJ {pl:xDe}(he:xAR)(c:xA0)(hm:xrM X.K m f)(F:xwT)(hr:xp1)(hb:xvC)(hd:xvz)(hx:xwS)(ha:xsI)
    (OR:xal (xpt=xi6::xpp)) (Od:xtc)
    (ht:xal (xGA o m xew=(do
      let ov<-xsb
      xBN
      let xEw f<-xBZ [ov] ov m pl
      xDM f (xua xew) xFX))):
    xGB o m xew (pc C m sp OP E ta t):=by
  intro L8 s σ H Q I h
  refine xRc pl (xvL _ I h u) ht
  obtain⟨x,H1,I1,rx,a,dx,fs,ex,ea,l,q⟩:=z9
  subst ex
  obtain rfl:u=xfB:=rx
  show ρ (eF I1 ea c hm l ?_) (Kd (first:=xbL) (h₀:=X.base) I.ok.mod.kin hm.kp (thn (xTM s1 H1 _ I1 q) λ us s2 ⟨vs,H2,I2,r,q2⟩=>xde I2.kIn) OR Od)
  exact xKu (Γ::us) (vs:=Γ::vs) F hr hb hd hx I2 (xWC r) q2
def wr {pl:xDe}(he:xAR)(c:xA0)(hm:xrM X.K m f)(F:xwT)(hr:xp1)(hb:xvC)(hd:xvz)(hx:xwS)
    (ht:xal (xGA o m []=(do
      let ov<-xsb
      xBN
      let xEw f<-xBZ [ov] ov m pl
      xDM f xJW xFX))):
    xGB o m [] (pc C m sp OP E ta kU):=by
  intro L8 s σ H Q I h
  refine xRc pl (xvL _ I h u) ht
  obtain⟨x,H1,I1,rx,a,dx,fs,ex,ea,l,q⟩:=z9
  subst ex
  obtain rfl:u=xfB:=rx
  refine eF I1 ea c hm l ?_
  exact Jg (first:=xbL) I1.kIn hm.kp (xKu xbL (vs:=xbL) F hr hb hd hx I1 (xmA rfl) q)
structure Mk (K:Frag)(C f:LV):Prop where
 makes:xxU K C
 init:xxP K xeL
 fn:xDm K xeD
 kp:xLg
def oJ {L8:Η}{σ:St}{H:Hp}{s:LX}{Q:VK}{us:xa3}(M:Mk X.K C f)(F:xwT)(hr:xxS (k+1))(hb:xvC)(hd:xvz)
  (hx:xwS) (I:SZ) (r:xFx)
  (h:∀x dx,Χ x->Χ dx->dx≠x->sp (xcn::(vs++OP)) (xdp (xra dx x) x C dx []) (λ v H2=>xn9 v/\Q xcn H2) E):
  xqn (call xgD us):=by
 have hq:=x1h xeh xZz xkQ (FL xna);have I2:=Inv.made (C:=C) I;have r2:Vals (V.ref xeh::(vs++OP)) (xHz::(us++ds)):=xWC x1g;have hl:xBV (xcm (xHz::us) ds):=by
  have e:=r2.length;show π (F.len _ _ _ _ hq) e e.symm
 show xQH (xY I.kIn M.makes M.init (FM.mp M.fn) (xHv (xVx _ _ _ (xoC (xHz::us)) (xHz::(us++ds)) _ _ E (hr.make C us []) (I2.env0.make C us []) (xzz (xHz::us) I2.kIn hl) r2 hq) r s' Vp))
 cases r with
 |error e=>exact hx L8 σ _ _ e s' I2 Vp
 |ok fl=>
  cases fl with
  |ret u=>
   obtain⟨v,H',I3,rv,ev,q3⟩:=I2.after Vp;subst ev;show xaj rv (xbY (V.ref xeh) H' I3 q3)
  |next=>show xfE Vp
  |brk=>show xfE Vp
  |cont=>show xfE Vp
def gp (M:Mk X.K C f)(F:xwT)(hr:xxS (k+1))(hg:xka)(hm:xuQ=xiZ)(hb:xvC)(hd:xvz)(hx:xwS)
  (ha:xsI) (TV:xgf (x==xhu)) (he:xal (xpt=xi6::xpp)) (Od:xtc):
  xpu x p xew [] (Av C sp OP E t):=by
 intro L8 s σ H Q I h;show ρ (Hu (gy I hg hm ?_ TV)) (Kd (h₀:=X.base) I.ok.mod.kin M.kp (thn xJ4 λ us s1 ⟨vs,H1,I1,r,q⟩=>xde I1.kIn) he Od);exact oJ M F hr hb hd hx I1 r q
def cu (M:Mk X.K C f)(F:xwT)(hr:xxS (k+1))(hg:xka)(hm:xuQ=xiZ)(hb:xvC)(hd:xvz)(hx:xwS)
  (TV:xgf (x==xhu)):xpu x p [] [] (Av C sp OP E kU):=by
 intro L8 s σ H Q I h;refine Hu (gy I hg hm ?_ TV);exact xXc M.kp (oJ (us:=[]) M F hr hb hd hx I .nil h)
universe s
section
variable {X:Cx}{CX:Ze}{k:Nat}{f C:LV}{fd:L0}{ps ks:xaO}{sp:Sp}{E:XK}{x m:Str}{p pos apos kpos:Pos}{e o:L5}{es:xmT}{kws:xUB}{te ta:TE}{t tk:TA}{nm:Option Str}
variable {g:xa3 -> xa3 -> xa3}{gV:M2 -> M2 -> M2}
universe s
structure y' (N P:xaO)(sc:Scope):Prop where
 kind:xTg sc.kind
 co:Μ sc.isCoroutine
 gen:Μ sc.isGenerator
 nd:N.Nodup
 pre:x0n=P
 par:xb6 P (xto=xf5\/xto=xf8)
 nofree:∀y∈sc.names,xEx y.2
def scB (N P:xaO)(c:Scope):Bool:=xdt c.kind .function&& ! c.isCoroutine&& ! c.isGenerator&&decide N.Nodup&&xdt x0n P&&P.all (xf4 x (xZY=xf5\/xZY=xf8))&&c.names.all (xf4 y (xEx y.2))
def Mr {N P:xaO}{c:Scope}(h:SL (scB N P c)):y' N P c:=by
 simp only [scB,JQ,decide_eq_true_eq,Bool.not_eq_true',List.all_eq_true] at h;obtain⟨⟨⟨⟨⟨⟨a,b⟩,d⟩,e⟩,f⟩,g⟩,i⟩:=h;exact⟨a,b,d,e,f,g,i⟩
theorem lI {kindOf:Str->xNb}:∀{binds} {m},(∀v,(x,v)∉binds)->xNy binds m x=m x
 | [],_,_=>rfl
 |(n,v)::r,m,h=>by
  show xci bindL (lI λ w hw=>xiP w hw)
  split
  ·have:x≠n:=by show xl9;exact xl7 v
   simp [this]
  ·rfl
theorem lX {kindOf:Str->xNb}:∀{binds} {m},(∀v,(x,v)∉binds)->xNz binds m x=m x
 | [],_,_=>rfl
 |(n,v)::r,m,h=>by
  show xci bindC (lX λ w hw=>xiP w hw)
  split
  ·rfl
  ·have:x≠n:=by show xl9;exact xl7 v
   simp [this]
theorem li {kindOf:Str->xNb}:∀{P:xaO} {vs} {i:Nat} {m},P.Nodup->xaU P=xas->xaU vs=xaw->kindOf x=xf5->
  xNy xC3 m x=xaw
 | [],_,_,_,_,h,_,_=>by show xbG
 |_::_,[],_,_,_,_,h,_=>by show xbG
 |p::P,w::vs,0,m,nd,h1,h2,hk=>by
  simp at h1 h2;subst h1;subst h2;show xNy ((p,w)::xC3) m p=_;show xc2 bindL (lI λ v hv=>xN2.1 (J7 hv).1) (E5 hk);simp
 |p::P,w::vs,i+1,m,nd,h1,h2,hk=>by
  show xNy ((p,w)::xC3) m x=_;unfold bindL;exact li xN2.2 (by show xur) (by show xKd) hk
theorem lV {kindOf:Str->xNb}:∀{P:xaO} {vs} {i:Nat} {m},P.Nodup->xaU P=xas->xaU vs=xaw->kindOf x≠xf5->
  xNz xC3 m x=xaw
 | [],_,_,_,_,h,_,_=>by show xbG
 |_::_,[],_,_,_,_,h,_=>by show xbG
 |p::P,w::vs,0,m,nd,h1,h2,hk=>by
  simp at h1 h2;subst h1;subst h2;show xNz ((p,w)::xC3) m p=_;show xc2 bindC (lX λ v hv=>xN2.1 (J7 hv).1) (ES hk);simp
 |p::P,w::vs,i+1,m,nd,h1,h2,hk=>by
  show xNz ((p,w)::xC3) m x=_;unfold bindC;exact lV xN2.2 (by show xur) (by show xKd) hk
noncomputable def start (N:xaO) (vs:M2):St:=vs.map some++x07 (N.length-vs.length)
noncomputable def cxOf (CX:Ze) (P:LY) (w:LZ) (K:Frag) (mg:Α) (base:L4) (N:xaO) (qual:Str) (scope:Scope) (f:LV) (cd:LW) (A:L3) (outer:xgO) (s:LX) (H:Hp) (E:XK):Cx where
 prog:=P
 w:=w
 K:=K
 mg:=mg
 base:=base
 A:=x1H
 N:=N
 s₀:=s
 H₀:=H
 env:=xGi
 outer:=outer
 stack:=xGi::outer
 ex:=[]
 calm:=true
 fn:=λ _=>true
 pn:=[]
 xe:=λ e s'=>xxa P w x1H (leaving xGi e) (λ _ OQ=>xXb H s E e OQ) (λ e' OQ=>xXb H s E e' OQ) s'
def oX {sc:Scope}(h:xto=xf8):∃c,(cellsFrom n sc.names []).lookup x=xa7:=by
 have q:=Kp sc.names n [] (.inl h);exact Option.isSome_iff_exists.mp q
def lG {CX:Ze}{K:Frag}
  (S:y' N ps scope) (e0:xGD K mg A s H) (hl:xtG) (r:xFx)
  (x:InCallC s s.heap.objs.size (bindL (xGi).kindOf xCz xG2) (xTr xeh []) (bindC (xGi).kindOf xCz xG2) s1):
  xu8 (xw4 CX P w K mg N f cd A outer s H E) xm7 H s1:=by
 have Od:ps.length≤N.length:=by show xgb (xkK S.pre) ER (xcI [_,_,_] xcB xcc xgE xfR)
 obtain⟨h1,tk,rfl,hk⟩:=x.done;have XT:∀b,b∉(xw4 CX P w K mg N f cd A outer s H E).ex:=xe9 b z (xlf b ([]:xav) z) Z6
 refine⟨⟨e0.mod,S.kind,rfl,rfl,Tl,λ y z c h1 h2=>?_,P3 y hy,λ y c _ h=>?_,e0.qt,xYt,xt9,xe9 b z z xEN,e0.bs,e0.bsz,λ b _ _=>xEN,xe9 b z z xEN,e0.funs,e0.frf⟩,
  rfl,e0.bare,xVJ,xbu x.toInCall.ns (λ i y v h1 h2 h3=>?_),λ y c h=>xbR (x.cell y c h),e0.hok.fresh Tl,Ε y c h,xe9 p hp (xlf p ([]:Η) hp) Z6,e0.hok.kept hk,?_⟩
 ·exact name_of_addr x.apart (F8 h1) (F8 h2)
 ·have hy:xth y xf8\/xth y xUt:=hy;rcases hy with hy|hy
  ·exact oX hy
  ·show xaq rfl (S.nofree _ (F8 hy))
 ·exact E4 (x.above y c (F8 h))
 ·have hi:i<vs.length:=by
   unfold start at h2;by_cases hi:i<vs.length
   ·exact hi
   ·rw [Fj (by simpa using hi)] at h2;rw [Jb] at h2
    split at h2<;>cases h2
  have ha:xaU vs=xaw:=by
   unfold start at h2;rw [F1 (by simpa using hi),FA] at h2;cases e:xaU vs with
   |none=>show W1 e h2 h2
   |some a=>show W1 e h2 h2;rfl
  show xeP u hu rv (r.get ha) hp (xaM ps y) (by
   rw [<-S.pre,List.getElem?_take_of_lt (EW hi hl)];exact h1)
  have ndP:ps.Nodup:=by show xba S.pre (S.nd.sublist (IU _ _))
  refine Ψ u rv;rcases S.par y (FO hp) with k|k
  ·show xa8 ⟨k,li ndP hp hu k⟩
  ·show xck c e (oX k) (.inr ⟨.inl k,c,e,?_⟩);have q:=x.cell y c e;show π (lV ndP hp hu (by show scope.names.lookup y≠_;show xqb k)) q q
 ·exact e0.hok.fresh (E4 (x.above y c (F8 h)))
 ·unfold start;show _=N.length;rw [EB,EA,Fd];exact xcY (xaf [_,_,_] xaR WF Pi WF (NL.J' (xcI [_,_,_] xcB xcc xJp Od))) [_,_,_] WF xaR WF Pi τ
def vU {P:LY}{w:LZ}{K:Frag}{f:LV}{dV kV doc pm L9 ct oc:LW}
    (lk:xGC (xQR dV kV doc pm an L9 ct)) (QG:xFC K L9) (S:y' N ps scope)
  (len:∀vs H Q E,xhp->xtG)
  (P7:∀(A:L3) (outer:xgO) (s:LX) (H:Hp) (vs:M2) (Q:VK) (E:XK),xHK k (xM7 scope f L9)->xhp->
   ∃t,PSs (xw4 CX P w K mg N f L9 A outer s H E) body t/\xEo H' xxg Q xm7 H):
  xii P w K CX (k+1) f (xQR dV kV doc pm an L9 ct) ps sp:=by
 refine⟨len,λ A outer s H args us vs Q E hr e0 hb r Rq=>?_⟩;have hl:=len _ _ _ _ Rq;have KX:xox:=e0.mod.kin.keeps λ b o e=>(xQu o e).1
 have lim:s.heap.NoLimit:=e0.mod.nolimit.keeps λ b o e=>(xQu o e).1
 have OB:∀y∈xCz,xAi xh0\/(xth xh0 xf8/\xkX ((xTr xeh []).lookup xh0)):=λ⟨n,v⟩ hy=>by
  rcases S.par n (J7 hy).1 with q|q
  ·show xa8 q
  ·exact xei q (Kp _ _ _ (.inl q))
 show ρ (xYu (KX _ _ lk) rfl S.co S.gen rfl (x1i QG) (xzz _ _ _ ?_)) (xYp OB λ env he s1 x=>?_)
 subst he;show xgM ⟨xYN,x0o⟩ t ht hq (P7 A outer s H vs Q E (hr.deeper _) Rq);have I:xu8 (xw4 CX P w K mg N f L9 A outer s H E) xm7 H s1:=lG S e0 hl r x;refine GJ (ht [] s1 xm7 H _ I hq) (Ε fl s' hs) λ e s' hs=>hs
 have fin:∀{σ'} {H'} {v} {u},xu8 (xw4 CX P w K mg N f L9 A outer s H E) σ' H' s'->xd5->xAE->xXa P w H s Q u s':=
  λ {σ' H' v u} J rv q=>⟨v,H',J.os,J.bare,J.base,J.hok,rv,q⟩
 cases fl with
 |ret u=>
  obtain⟨v,σ',H',J,rv,q⟩:=hs;exact fin J rv q
 |next=>
  show xbq σ' H' J q hs (fin (v:=V.non) J rfl q)
 |brk=>
  show xNh q hs q
 |cont=>
  show xNh q hs q
section
variable {X:Cx}{x:Str}{p pos:Pos}{e:L5}{es:xmT}{t:TA}{id T:String}{r:xw5}
def tCB (r:xw5)(t:TA):TE:=λ σ H Q=>xkE vs (r vs H1 Q)
def bw (hc:xtE X id r)(hg:xka)(hm:xqT x)(hv:xB8=xom id)(ha:xsI)(hn:xxd xEQ)(TV:xgf (x==xhu))
  (he:xal (xpt=xi6::xpp)) (Od:xtc):xpu x p xew [] (tCB r t):=by
 intro L8 s σ H Q I h;refine Hu (xzt I hv ?_ hn TV);exact PyProof.Rows.callWith_builtin1 (xdM xJ4 us s1 z9 (by show xm0 vs;exact xFd s1 σ H1 vs us Q I1 r1 q1)) he Od
def bu (hc:fq X xOp r)(hg:xka)(hm:xqT x)(hv:Tm xB8 xOp)(ha:xsI)(hn:xxd xEQ)(TV:xgf (x==xhu))
  (he:xal (xpt=xi6::xpp)) (Od:xtc):xpu x p xew [] (tCB r t):=by
 intro L8 s σ H Q I h;refine Hu (xzt I hv ?_ hn TV);exact HK (xdM xJ4 us s1 z9 (by show xm0 vs;exact xFd s1 σ H1 vs us Q I1 r1 q1)) he Od
universe s
universe L2
namespace HT
open PySem PyProof.Rows
section
open PySem.SeqAt
open PySem.AutoSeq1 (wpAny_loadPart')
open PySem.MeetsSeq PySem.MeetsSeq2 PySem.MeetsSeq3
universe s
section
variable {prog:LY}{w:LZ}{A:L3}{E:xad}{s:LX}
noncomputable def sIx (n d:Nat):xoa xc6
 |none=>d
 |some v=>if v<0 then xhP v xay else xUS
def Qh (n d:Nat):xlA d none=d:=rfl
def M6 (n d k:Nat):xlA d (xjp k)=xzo k:=by
 show xfT (xnw<0) (xhP xnw xay) (xzo (xnw).toNat)=xzo k;rw [ES Z5,E2]
def Bx (n d:Nat)(hd:xc1 d)(o:xc6):xc1 (xlA d o):=by
 cases o with
 |none=>exact hd
 |some v=>
  show xc1 (xfT (v<0) (xhP v xay) xUS);by_cases hv:v<0
  ·rw [E5 hv];omega
  ·show xlq hv xfR
def sI (v:Int)(n d:Nat):xfT (v<0) (max (v+xay) 0) (min v xay)=LT (xlA d xaw):=by
 show xfT (v<0) (max (v+xay) 0) (min v xay)=LT (xfT (v<0) (xhP v xay) xUS);by_cases hv:v<0
 ·simp only [E5 hv];omega
 ·simp only [ES hv];omega
def qX (lo hi:xc6)(n:Nat):xYB hi 1 xay=(LT (xlA 0 lo),LT (xlA n hi)):=by
 have h1:¬(xcv<0):=Z4;unfold Builtin.Slice.sliceAdjust;simp only [h1,JP];refine Prod.ext ?_ ?_
 ·cases lo with
  |none=>rfl
  |some v=>exact sI v n 0
 ·cases hi with
  |none=>rfl
  |some v=>exact sI v n n
def rJ (i j:Nat):xTc xer xE7=j-i:=by
 unfold Builtin.Slice.slicePlaces;have h1:xcv>0:=(xof (xfx [] xdR xaH));simp only [h1,if_true,Int.ediv_one]
 split<;>omega
def kH {v:LW}{o:xc6}{Q:xk5 xc6}(p:IsPart v o)(h:Q o s):xhf (Builtin.Slice.slicePartIndex v):=by
 cases p with
 |none=>exact slicePart_none h
 |int i t=>exact slicePart_int h
def eA {sl:LV}{vl vu:LW}{lo hi:xc6}{n:Nat}{Q:xk5 (Int×Int×Nat)}(hs:xMK vl vu .none)(pl:xOE lo)(pu:xOF hi)
  (h:Q (LT (xlA 0 lo),1,xlA n hi-xlA 0 lo) s):xhf (Builtin.Slice.sliceApplied xNf (pure xay)):=by
 show xmY os ZH TX hds hs;unfold Builtin.Slice.sliceApplied Builtin.Slice.sliceFields;show xgj (EG (G8 ZH hds (x:=vl) rfl (EG (G8 ZH hds (x:=vu) rfl (EG (G8 ZH hds (x:=.none) rfl xjC)))))) (slicePart_none ?_);show xvd (xcv==0) _ _;show xrT Z9 (EG (kH pl (EG (kH pu xuv))));show xiE (match xYB hi 1 xay with|(lo,hi)=>pure (lo,xcv,xTc lo hi));rw [qX lo hi n];show xiE (pure (LT (xlA 0 lo),xcv,xTc (LT (xlA 0 lo)) (LT (xlA n hi))));show LE rJ (E1 h)
def xy (xs:xt7)(i k:Nat):((List.range k).filterMap λ(m:Nat)=>xs[xhP xer (xpA*1)]?).toArray=(xSG).toArray:=by
 have e:(λ(m:Nat)=>xs[xhP xer (xpA*1)]?)=λ m=>xs[i+m]?:=by
  funext m;have:xhP xer (xpA*1)=i+m:=Z4;rw [this]
 rw [e];show xg7 (pick_run xs i k) List.filterMap_map;have e2:((λ x=>xs[x]?)∘λ x=>i+x)=λ m=>xs[i+m]?:=rfl
 rw [e2] at this;rw [this]
def OM {t sl:LV}{items:xt7}{vl vu:LW}{lo hi:xc6}{Q:xad}(ht:xRv t)(hs:xMK vl vu .none)(pl:xOE lo)(pu:xOF hi)
  (hw:¬(xiO=0/\xnq=items.size))
  (h:Q xok (xmi (xGJ "tuple" (xBR (xS7 xiO (xnq-xiO))))))
  (hsz:xcN items.size):xhf (xX0 xgR):=by
 have Us:sizeOk (xBR (xS7 xiO (xnq-xiO))):=by
  show xcN (xS7 xiO (xnq-xiO)).toArray.size;rw [E3,ER,EN,Gk];exact(xcI [_,_,_,_] (xa2 xfH) xJf hsz (Ez xfR xet))
 have hj:xnq≤items.size:=Bx _ _ Tl hi;show xmY os ZH TX hds hs;have hTs:s.TypeIs xNf "slice":=⟨os,ZH,TX⟩;unfold getItem
 try with_reducible refine G7 ?_
 first|refine xuv|skip
 show xgj (xYE Z9 ?_) (Gz (name:=xYJ) ht.typeIs Gw
  (HR Gw ht.typeIs entry_tuple_getitem ?_ (xY8 _)))
 show xiE (xYx>>=_);show xgj (xZZ ?_) (xZ0 ?_);show xz9 Z9 (EG (eA hs pl pu ?_));have hno:¬(SL (xLo==0&&xcv==1&&xOx (xnq-xiO))):=by
  intro q;rw [JQ,JQ] at q;have q1:xLo=0:=eq_of_beq xbt.1;have q2:xnq-xiO=items.size:=eq_of_beq xb7;exact hw ⟨(xnY (xaf Τ IO xed IO xed (EC (xxu q1)))),xfU (xBt hj) [_,_,_] Φ xdQ Sc (EC q2.symm) xet⟩
 show xvd (xLo==0&&xcv==1&&xOx (xnq-xiO)) _ _;rw [ES hno,xy]
 first
  |exact EG (m:=xMB) (IA xKt Us)
  |exact EG (m:=xMB) (IA (xrs xKt) Us)
  |exact EG (EG (m:=xMB) (IA (E1 xKt) Us))
  |exact EG (EG (m:=xMB) (IA xKt Us))
universe s
universe HT
namespace L2
open PySem PySem.Spec PyProof.Rows
abbrev TO:=St->xAr (xc6->xe2)
def PO (X:Cx)(e:Option L5)(t:TO):Prop:=
 ∀(L8:Η) (s:LX) (σ:St) H Q,SZ->xub Q->
  xf7 (evalPart e X.env) (λ u s'=>∃o H',xlH/\IsPart u o/\xcP o) s
def zE:TO:=λ _ H Q=>Q none H
inductive Uw (Q:xc6->xe2) (x:V) (H1:Hp):Prop
 |mk (i:_) (h0:x=xcq) (h1:Q (some i) H1):Uw Q x H1
def Do (t:TE):TO:=λ σ H Q=>xkE x (Uw Q x H1)
def cT:∀{us},xqG xip->IntsAre us ns:=by
 induction ns with
 |nil=>intro us r;show xhX K9 r r .nil
 |cons n ns ih=>
  intro us r;rw [Gp] at r;cases r with
  |cons r1 r2=>
   show xGF t r1;show xc3 (.cons n t (ih r2))
section
variable {X:Cx}{e:L5}{te:TE}{lo hi:Option L5}{tl th:TO}{pos p2:Pos}
def bM:PO X none zE:=by
 intro L8 s σ H Q I h;show LE evalPart_none (E1 (xgu none I .none h))
def aO (h:xwL):PO X (some e) (Do te):=by
 intro L8 s σ H Q I hw;show Uf evalPart_some (xk0 (xAv s H _ I hw) u)
 show xm0 x;show xqE i q q1;show xgK t r1 ⟨some i,H1,I1,xnj,q⟩
def XM (X:Cx)(r:V->xc6->xL5):Prop:=
 ∀(L8:Η) (s:LX) (σ:St) (H:Hp) x v vl vu lo hi sl Q,SZ->xnK->xMK vl vu .none->xOE lo->xOF hi->xme lo hi H Q->
  ∃T id,xZh xOp=pure (xom id)/\s.TypeIs v T/\xqn (xX0 v)
def XM.or {r r':V->xc6->xL5}(h:xwm r)(h':xwm r'):xwm (λ x lo hi H Q=>xme lo hi H Q\/r' x lo hi H Q):=by
 intro L8 s σ H x v vl vu lo hi sl Q I rx hs pl pu q;rcases q with q|q
 ·exact xAv s H x v vl vu lo hi sl Q I rx hs pl pu q
 ·exact h' L8 s σ H x v vl vu lo hi sl Q I rx hs pl pu q
def tSl (r:V->xc6->xL5)(te:TE)(tl th:TO):TE:=λ σ H Q=>xi8 λ x H1=>tl σ H1 λ l H2=>th σ H2 λ u H3=>xme l u H3 Q
def aR {r:V->xc6->xL5}(hr:xwm r)(he:xwL)(hl:PO X lo tl)(hu:PO X hi th):xar (xxH e (.Slice lo hi none p2)) (tSl r te tl th):=by
 intro L8 s σ H Q I h;show xg8 (Subscript_ (xvL _ I h v)) x;refine wpAny_Slice (thn (hl L8 s1 σ H1 _ I1 q1) λ vl s2 ⟨l,H2,I2,pl,q2⟩=>xhy (hu L8 s2 σ H2 _ I2 q2) vu s3);show xtf u H3 I3 pu q3;show Uf evalPart_none xjC;have I4:xij H3 (xTH s3 (xXY #[vl,vu,.none])):=I3.kept (t':=s3.toks) λ b ob q=>xz6
 obtain⟨T,id,hT,ht,hg⟩:=hr L8 (xTH s3 (xXY #[vl,vu,.none])) σ H3 x v vl vu l u s3.heap.objs.size Q I4 r1 (Heap.IsSliceOf.new ..) pl pu q3;show xXu (subscriptTail e (.Slice lo hi none p2) v (.ref s3.heap.objs.size)) (xTH s3 (xXY #[vl,vu,.none]));exact tail_any ht hT hg (by with_unfolding_all rfl)
def cutV (xs:M2)(lo hi:xc6):M2:=xj6 (xs.drop xv1) xKp xv1
def i7 (xs:M2)(lo hi):xcy (xJB lo hi) xs.length:=by
 show xc2 cutV ER EN;exact xDV xet
inductive rSlT (K:Frag) (x:V) (lo:xc6) (hi:xc6) (H:Hp) (Q:VK):Prop
 |mk (a:_) (xs:_) (h0:x=Γ) (h1:xp9 a xs) (h2:¬(xv1=0/\xq6 xKp)) (h3:∀p,xi3->xsy (xdJ H p (xJB lo hi))):rSlT K x lo hi H Q
def Bn:xwm (rSlT X.K):=by
 intro L8 s σ H x v vl vu lo hi sl Q I rx hs pl pu h;show xgW a xs rfl hx hw q;cases rx;show xyv r ht hz hx;have hlen:xZq:=by show LE E3 r.length.symm
 show ρ ⟨"tuple",_,Gw.lookup,ht.typeIs,?_⟩ (HT.OM ht hs pl pu (by show LE hlen hw) ?_ (by show LE hlen hz));show Uf hlen (xbY xok _ (I.laid (t':=s.toks) (o:=.tup (xJB lo hi)) (λ b ob q=>xz6) Tl ?_) (q _ xkQ));exact⟨EF (i7 xs lo hi) hz,_,xj6 (r.drop xv1) xKp xv1,xWU _⟩
universe s
noncomputable def ixN (n:Nat) (i:Int):xoq:=if 0≤i then xfT (i<n) (some i.toNat) none else xSh (-xay≤i) (xhP i n) none
noncomputable def Wv {α:Type} (xs:xb2) (i:Int):Option α:=(xHq i).bind λ j=>xfZ xs
def sS {n:Nat}(h:Tm (ixN n i) j):Tm (seqIndex? i n) j/\j<n/\-xay≤i/\i<n:=by
 unfold ixN at h;by_cases h0:0≤i
 ·rw [E5 h0] at h;by_cases h1:i<n
  ·rw [E5 h1] at h;have e:i.toNat=j:=Fx h;exact⟨by rw [xT7 h1,e],Z5,Z5,h1⟩
  ·show W1 xpg h h
 ·rw [ES h0] at h;by_cases h1:-xay≤i
  ·rw [E5 h1] at h;have e:xhP i n=j:=Fx h;exact⟨by rw [xTJ h0 h1,e],Z5,h1,Z5⟩
  ·show W1 xpg h h
def mD {α:Type}{xs:xb2}{v:α}(h:xKU i=xaw):∃j,Tm (seqIndex? i xs.length) j/\xfZ xs=xaw/\xmo j/\-XV xs.length≤i/\xAI:=by
 unfold Wv at h;cases e:xHq i with
 |none=>show W1 e h h
 |some j=>
  rw [e] at h;show xbq h1 h2 h3 h4 (sS e) ⟨j,h1,h,h2,h3,h4⟩
def ax {j:Nat}{v:α}(h:xfZ xs=xaw):xKU xE7=xaw:=by
 have hj:xmo j:=xdN h;have e:Tm (xHq xE7) j:=by
  show xc2 ixN xKv (E5 (IL.mpr hj));simp
 show xm9 Wv e h
def tR (b:L5):Prop:=∀o i,xM5 b o i=xUT [o,i] o i
def IxR (X:Cx)(r:R2):Prop:=
 ∀(value slice:L5) (L8:Η) (s:LX) (σ:St) H x y v u Q,SZ->xnK->xi2->xme y H Q->
  xM5 slice v u=xUT [v,u] v u->xqn (subscriptTail value slice v u)
def MtR (X:Cx)(id:String)(r:V->xw5):Prop:=
 ∀(L8:Η) (s:LX) (σ:St) (H:Hp) x xs v us Q,SZ->xnK->xnp->xme xs H Q->
  xqn (xtr id (v::us))
section
variable {X:Cx}{a b:L5}{ta tb:TE}{pos:Pos}
def aJ {r:R2}(hr:xKV r)(ha:xlW)(hb:xwK)(hs:tR b):xar (xxH a b) (V4 r ta tb):=by
 intro L8 s σ H Q I h;exact Subscript_ (binT ha hb I h λ v u s2 x y H2 I2 rx ry q=>hr a b L8 s2 σ H2 x y v u Q I2 rx ry q (hs _ _))
inductive rIxL (K:Frag) (x:V) (y:V) (H:Hp) (Q:VK):Prop
 |mk (p:_) (xs:_) (i:_) (v:_) (h0:x=xbV) (h1:y=xcq) (h2:xrB H p) (h3:xKU i=xaw) (h4:xf0 v):rIxL K x y H Q
inductive rIxT (K:Frag) (x:V) (y:V) (H:Hp) (Q:VK):Prop
 |mk (p:_) (xs:_) (i:_) (v:_) (h0:x=xbV) (h1:y=xcq) (h2:xp9 p xs) (h3:xKU i=xaw) (h4:xf0 v):rIxT K x y H Q
inductive rIxS (x:V) (y:V) (H:Hp) (Q:VK):Prop
 |mk (z:_) (i:_) (c:_) (h0:x=.str z) (h1:y=xcq) (h2:xcN z.length) (h3:Wv z.cps.toList i=xa7) (h4:xf0 (xCW #[c])):rIxS x y H Q
def aI:xKV (rIxL X.K):=by
 intro value slice L8 s σ H x y v u Q I rx ry h hs;obtain⟨p,xs,i,z,rfl,rfl,hq,he,q⟩:=h;show xAc rx ry;show xod r pl;obtain⟨j,h1,h2,h3,h4,h5⟩:=mD he;show xjP w ew Vm (r.get h2) hl r.length;have hn:=iH;have fin:xp4 w s:=xgu z I Vm q;by_cases h0:0≤i
 ·have hj:i.toNat=j:=by
   show π (xT7 h5) h1 (Fx h1)
  exact item_listR pl.isList h0 Z5 (by rw [hj];simpa using ew) fin hs
 ·have hj:xhP i xZn=j:=by
   rw [xTJ h0 h4] at h1;rw [E3,<-hl];exact Fx h1
  exact subscriptTail_builtinR pl.isList.typeIs slot_list_getitem.lookup
   (wpAny_getItem_list_neg pl.isList (JS h0) (by rw [E3]<;>exact Hm (congrArg Neg.neg (congrArg Nat.cast hl.symm)) h4) Z5 (by rw [hj];simpa using ew) (xgB fin)) hs
def bx:xKV (rIxT X.K):=by
 intro value slice L8 s σ H x y v u Q I rx ry h hs;obtain⟨p,xs,i,z,rfl,rfl,hq,he,q⟩:=h;show xAc rx ry;show xyv r pl hz hq;obtain⟨j,h1,h2,h3,h4,h5⟩:=mD he;show xjP w ew Vm (r.get h2) hl r.length;have hn:=iH;have fin:xp4 w s:=xgu z I Vm q;exact subscriptTail_builtinR pl.typeIs Gw.lookup
  (getItem_tuple pl Z4 Z4 (by rw [E3,<-hl];exact h1) (by simpa using ew) (xgB fin)) hs
def xg:xKV rIxS:=by
 intro value slice L8 s σ H x y v u Q I rx ry h hs;obtain⟨z,i,c,rfl,rfl,hz,he,q⟩:=h;show xjU;show xc4 t' ry;obtain⟨j,h1,h2,h3,h4,h5⟩:=mD he;have hl:z.cps.toList.length=z.length:=by simp [Str.length]
 rw [hl] at h1 h4 h5;have hn:=iH;exact tail_any (typeIs_str s z t) slot_str_getitem.lookup (getItem_str (by
  have e1:Μ (xfK i (-XV (2^63))):=FZ Z4;have e2:Μ (decide (i≥2^63)):=FZ Z4;rw [e1,e2,Bool.or_false]) (by rw [h1];show xKd) (xgu (xCW #[c]) xcS xbs q)) hs
def qS (its:xa3)(n j)(u):Obj.mapSeq (·.setIfInBounds j u) xyY=xBB (xBR (its.set j u) n):=by
 simp [Obj.mapSeq]
theorem Inv.lst {L8:Η}{σ:St}(I:SZ)(h:xbF=xdZ):
  ∃its n,xvv/\xgN p xyY/\xow:=by
 show xfG z its n r e (xhI p h) ⟨its,n,r,e,z⟩
def Inv.lstUpd {L8:Η}{σ:St}{its its':xa3}(I:SZ)(h:xbF=xdZ)
  (ho:xgN p xyY) (hf:f xyY=xBB (xZD n')) (r:Vals ys its') (hz:xNC) (t):
  xqv (xfS p ys) s (xTS f) t:=by
 have e:xk1 (xTS f) p (xBB (xZD n')):=by
  rw [Heap.get?_update_self f ho (by rw [hf]<;>rfl),hf]
 refine xXX (by rw [h];trivial) (λ b u hb q=>xY4 _ _ (K1 hb) q) (xbR e) ?_;exact⟨hz,its',n',r,e⟩
inductive Zp (o:V) (i:V) (v:V) (H:Hp) (Q:xe2):Prop
 |mk (p:_) (xs:_) (k:_) (j:_) (h0:o=xbV) (h1:i=xRV) (h2:xbF=xdZ) (h3:Tm (xHq k) j) (h4:Q (xfS p (xs.set j v))):Zp o i v H Q
def gh:DR X Zp:=by
 intro L8 s σ H o i v ov iv u Q I ro ri rv h;obtain⟨p,xs,k,j,rfl,rfl,hp,hj,q⟩:=h;show xAc ro ri;obtain⟨its,n,r,ho,hz⟩:=I.lst hp;obtain⟨h1,h2,h3,h4⟩:=sS hj;have hl:=r.length;have hn:=iH;have I':xij (xfS p (xs.set j v)) (xmi (xTS (Obj.mapSeq (·.setIfInBounds j u)))):=
  I.lstUpd hp ho (qS its n j u) (r.set rv j) (by show LE KU hz) s.toks
 by_cases h0:0≤k
 ·have hk:k.toNat=j:=by
   show π (xT7 h4) h1 (Fx h1)
  exact PySem.W.ki_setAt ho h0 Z4 (by rw [E3,<-hl];exact h4) (by show LE hk (xbu I' q))
 ·have hk:xhP k xZn=j:=by
   rw [xTJ h0 h3] at h1;rw [E3,<-hl];exact Fx h1
  exact PySem.W.ki_setBack ho (JS h0) (by rw [E3,<-hl];exact h3) Z4 (by show LE hk (xbu I' q))
def sbP {i:Int}{n:Nat}(h:¬i<0):xPd (xzo i)=LT (xzo i.toNat):=by
 show xc4 k (Int.eq_ofNat_of_zero_le (xUj h));rw [E2,Int.max_eq_right (Int.le_min.2 ⟨xd1,xd1⟩)];rcases LN k n with e|e
 ·rw [FR e,Int.min_eq_left (xqu e)]
 ·rw [HC e,Int.min_eq_right (xqu e)]
def sbN {i:Int}{n:Nat}(h:i<0):xPd (xzo (i+n))=XV (xhP i n):=by
 rw [Int.min_eq_left (Int.le_trans (Int.add_le_add_right (LP h) n) (Int.le_of_eq (LO _))),Int.toNat_eq_max,Int.max_comm]
def nA (lo hi:xc6)(n):(xT8 hi none n).1=LT (xXd 0 lo)/\Ξ (xT8 hi none n)=LT (xXd n hi)/\xbM (xT8 hi none n)=1:=by
 refine xee ?_ ?_
 ·cases lo with
  |none=>simp [sliceBounds,HT.sIx]
  |some i=>
   simp only [sliceBounds,HT.sIx,Option.getD_none,show xcv>0 by decide,if_true];by_cases h:i<0
   ·simp only [h,if_true,sbN h]
   ·simp only [h,JP,sbP h]
 ·cases hi with
  |none=>simp [sliceBounds,HT.sIx]
  |some i=>
   simp only [sliceBounds,HT.sIx,Option.getD_none,show xcv>0 by decide,if_true];by_cases h:i<0
   ·simp only [h,if_true,sbN h]
   ·simp only [h,JP,sbP h]
def kR (its:xa3)(lo hi):slicePick its.toArray lo hi none=(xj6 (its.drop (xTE 0 lo)) (xTE its.length hi) (xTE 0 lo)).toArray:=by
 obtain⟨h1,h2,h3⟩:=nA lo hi its.toArray.size;unfold slicePick;rw [h1,h2,h3];simp only [sliceRange_one,pick_run,E3]<;>rfl
inductive rSlL (K:Frag) (x:V) (lo:xc6) (hi:xc6) (H:Hp) (Q:VK):Prop
 |mk (a:_) (xs:_) (h0:x=Γ) (h1:xh9) (h2:∀p,xi3->xsy (xfS p (xJB lo hi))):rSlL K x lo hi H Q
def a6:xwm (rSlL X.K):=by
 intro L8 s σ H x v vl vu lo hi sl Q I rx hs pl pu h;show xeE a xs hx q h;cases rx;show xoo r ht hz (I.list hx);show xmc hlen r.length ⟨"list",_,slot_list_getitem.lookup,ht.isList.typeIs,?_⟩ (wpAny_getItem_list_slice ht.isList hs pl pu .none Z6 ?_ (by rw [E3]<;>exact(xcI [_,_,_] xdQ Φ hz xTT)));rw [kR,<-hlen];refine xbY xok _ (I.laid (t':=s.toks) (λ b ob q=>xz6) Tl ?_) (q _ xkQ);exact⟨EF (i7 xs lo hi) hz,_,0,xj6 (r.drop xv1) xKp xv1,xg1⟩
def Aw:xoT V
 | .non=>true
 | .bl _=>true
 | .int _=>true
 | .str _=>true
 |_=>false
def eqV:V->xoT V
 | .non,.non=>true
 | .bl a,.bl b=>a==b
 | .bl a,.int b=>xfT a 1 0==b
 | .int a,.bl b=>a==xfT b 1 0
 | .int a,.int b=>a==b
 | .str a,.str b=>a==b
 |_,_=>false
def Bv (ry:xi2)(rx:xnK)(fy:SL (Aw y))(fx:SL (Aw x)):SeqAt.EqAt A s u v (eqV y x):=by
 cases y with
 |non=>
  cases ry;cases x with
  |non=>cases rx;exact SeqAt.EqAt.same _
  |bl b=>cases rx;exact SeqAt.EqAt.none_bool b
  |int b=>show xgK t rx (SeqAt.EqAt.none_int b t)
  |str b=>show xgK t rx (SeqAt.EqAt.none_str b t)
  |_=>show xaq xPP Fb
 |bl a=>
  cases ry;cases x with
  |non=>cases rx;exact SeqAt.EqAt.bool_none a
  |bl b=>cases rx;exact SeqAt.EqAt.bool_bool a b
  |int b=>show xgK t rx (SeqAt.EqAt.bool_int a b t)
  |str b=>show xgK t rx (SeqAt.EqAt.bool_str a b t)
  |_=>show xaq xPP Fb
 |int a=>
  show xc4 t' ry;cases x with
  |non=>cases rx;exact SeqAt.EqAt.int_none a t'
  |bl b=>cases rx;exact SeqAt.EqAt.int_bool a t' b
  |int b=>show xgK t rx (SeqAt.EqAt.int_int a t' b t)
  |str b=>show xgK t rx (SeqAt.EqAt.int_str a t' b t)
  |_=>show xaq xPP Fb
 |str a=>
  show xc4 t' ry;cases x with
  |non=>cases rx;exact SeqAt.EqAt.str_none a t'
  |bl b=>cases rx;exact SeqAt.EqAt.str_bool a t' b
  |int b=>show xgK t rx (SeqAt.EqAt.str_int a t' b t)
  |str b=>show xgK t rx (SeqAt.EqAt.str_str a t' b t)
  |_=>show xaq xPP Fb
 |_=>show xaq (xG0 fy) Fb
def eM:xtE X "len" (λ xs H Q=>∃p ys,xs=xbk/\(xwF p ys\/xSa p ys)/\xku ys.length):=by
 intro L8 s σ H xs us Q I r h;show xeE p ys hq q h;show xlL u rx xwl rx;have hn:=iH;rcases hq with hq|hq
 ·show xod r' pl;show xLM;exact Calls.call_len_list pl.isList (by simp only [E3]<;>lia) (xnu ys.length xcS ⟨xuD,by rw [E3,hlen]⟩ q)
 ·show xyv r' pl hz hq;show xLM;exact len_tuple pl (by simp only [E3]<;>omega) (xnu ys.length xcS ⟨xuD,by rw [E3,hlen]⟩ q)
def eN:xtE X "len" (λ xs H Q=>∃z,xs=[.str z]/\xcN z.length/\xku z.length):=by
 intro L8 s σ H xs us Q I r h;show xo6 z rfl hz q;show xvw u rfl t xwl;have hn:=iH;exact len_str Z4 (xnu z.length xcS xbs q)
def bp:fq X xxA (λ xs H Q=>∃p ys,xs=xbk/\(xwF p ys\/xSa p ys)/\∀l,Ι->xww (xlS ys)):=by
 intro L8 s σ H xs us Q I r h;show xeE p ys hq q h;show xlL u rx xwl rx;have fin:∀(its:xa3),Vals ys its->xNC->∀(h':L4) (c':Nat),(∀b o',xgN b o'->Tm xda o')->
   xtP s.heap.objs.size {cls:=xxA,dict:=none,data:=xMq c',slots:=#[]}->xp4 xok xmz:=λ its r' hz h' c' kp e=>
  xbY xok _ (xQn kp (show xCT _ h' _ (.lst ys) from⟨hz,its,c',r',e⟩)) (q _ xkQ)
 rcases hq with hq|hq
 ·show xod r' pl;show xLM;show xfG o ho hc n hd pl.isList (x0p xec ho hc hd (λ h' c' kp e=>fin its r' hz h' c' kp e) (by simp only [E3]<;>exact xUC hz))
 ·show xyv r' pl hz hq;show xLM;show xfG o ho hc n hd pl (x0p xx7 ho hc hd (λ h' c' kp e=>fin its r' hz h' c' kp e) (by simp only [E3]<;>exact xUC hz))
def kW:fq X xHi (λ xs H Q=>∃p ys,xs=xbk/\((xwF p ys/\∀l,Ι->xww (xdJ H l ys))\/(xSa p ys/\xsy H))):=by
 intro L8 s σ H xs us Q I r h;show xo6 p ys rfl h;show xlL u rx xwl rx;rcases h with⟨hq,q⟩|⟨hq,q⟩
 ·show xod r' pl;show xLM;refine call_tuple_list pl.isList (P3 h' kp) (by simp only [E3]<;>exact xUC hz);have I1:xog xmz:=xOP kp;have I2:xij (xdJ H h'.objs.size ys) (xmi (h'.push (xXW xMq))):=
   xVw s.toks (λ b o e=>xd0) Tl (show xCT _ _ _ (.tup ys) from⟨hz,its,r',xWU _⟩)
  exact xbY (.ref h'.objs.size) _ I2 (q _ xMu)
 ·show xbq its r' pl hz (I.tuple hq) (call_tuple_same pl (xbY xbV H I q))
def tyV (K:Frag)(T:String)(x:V)(H:Hp):Prop:=match x with
 | .str _=>T="str"
 | .int _=>T="int"
 | .ref p=>(T="list"/\∃xs,xrB H p)\/(T="tuple"/\∃o,xqD p Id/\o.cls=xHi/\xac o.dict)\/
   (T="dict"/\((∃Mn,xsg p)\/∃Mn,xsi p))\/(T="set"/\∃S n,xjw p (.set S n))
 |_=>False
def Bh {L8:Η}{σ:St}{H:Hp}(I:SZ)(r:xnK)(ty:tyV X.K T x H):
  s.TypeIs v T/\∀a,v=Γ->∃ob,xgN a ob/\xac ob.dict:=by
 cases x with
 |str z=>
  show xc4 t r;cases(Ω T "str" ty);show xaj (typeIs_str s z t) (xmx e e)
 |int i=>
  show xc4 t r;cases(Ω T "int" ty);show xaj (typeIs_int s i t) (xmx e e)
 |ref p=>
  cases r;rcases ty with⟨rfl,xs,hq⟩|⟨rfl,o,hk,hc,hd⟩|⟨rfl,hk⟩|⟨rfl,S,n,hk⟩
  ·obtain⟨its,_,pl,_⟩:=I.list hq;refine xen pl.isList.typeIs a e;cases e;obtain⟨o,n,e,c,hd,_⟩:=pl;exact xqh hd
  ·refine xen (xjS (I.kIn p o hk) hc) a e;cases e;exact xjS (I.kIn _ o hk) hd
  ·have z:∃o,xte p Id/\o.ExactDict:=by
    rcases hk with⟨Mn,hk⟩|⟨Mn,hk⟩
    ·obtain⟨_,_,_,_,o,_,_,e,ex,_⟩:=xhI p hk;exact xqh ex
    ·obtain⟨_,_,_,_,o,_,_,e,ex,_⟩:=xhI p hk;exact xqh ex
   show xbd o e ex z (xen (xqh ex.1) a e2);cases e2;exact xqh (Ξ ex)
  ·obtain⟨o,_,_,_,e,ex,_⟩:=xhI p hk;refine xen (xqh ex.1) a e2;cases e2;exact xqh (Ξ ex)
 |_=>show xfE ty
inductive Zg (K:Frag) (T:String) (r:V->xw5) (t:TA) (σ:St) (Q:VK) (x:V) (H1:Hp):Prop
 |mk (h0:tyV K T x H1) (h1:t σ H1 λ xs H2=>xme xs H2 Q):Zg K T r t σ Q x H1
def tBM (K:Frag)(T:String)(r:V->xw5)(to:TE)(t:TA):TE:=λ σ H Q=>to σ H λ x H1=>Zg K T r t σ Q x H1
variable {o e:L5}{es:xmT}{to:TE}{t:TA}{name:Str}{apos T5:Pos}{T id:String}{r:V -> xw5}
def cM (pa:PlainAttrs T)(slot:Slot T name id)(hty:typeOf (.builtin id)=pure (.type "method_descriptor"))(hm:MtR X id r)(ho:xar o to)(ha:xsI)
  (hbase:xal (attributeBase o name X.env xsb=xsb))
  (hfew:xal (SL ((backTo T5 (xkH xew)).all (λ x=> ! xhW)&&(xYD T5 []).all (λ x=>(xhW).isSome)
   &&xfK (xGs (xew).length ([]:xUB)+xfT ([]:xUB).isEmpty 0 1) 30)))
  (hline:xal (SL (apos.endLine==T5.line))) (hs:xal (xpt=xi6::xpp)) (P9:xal ((backTo T5 (starEach es X.env)).any (·.1)=false)):
  xar (xS4 o name xew [] T5) (tBM X.K T r to t):=by
 intro L8 s σ H Q I h;refine wpAny_Call_method_late hbase hfew hline rfl (xk0 (xnz s H _ I h) v);obtain⟨x,H1,I1,r1,ty,q1⟩:=z9;show xck h1 h2 (Bh I1 r1 ty) ⟨T,id,pa,slot,hty,h1,h2,?_⟩;have hA:=ha T5 L8 s1 σ H1 _ I1 q1;rw [hs] at hA ⊢;refine Calls.callWith_builtin (by show(false||(backTo T5 (starEach es X.env)).any (·.1))=false;rw [P9]<;>rfl) (Calls.evalArgs_plain ?_);exact xdM hA us s2 z9 (by show xtf vs H2 I2 r2 q2;exact hm L8 s2 σ H2 x vs v us Q I2 r1 r2 q2)
universe s
def MtM (X:Cx)(id:String)(r:V->xw5):Prop:=
 ∀(L8:Η) (s:LX) (σ:St) (H:Hp) x xs v us Q,SZ->xnK->xnp->xme xs H Q->
  xqn (xtr id (v::us))
theorem Vals.one:∀{x} {us},xqG xcZ->∃u,us=xky/\xsz
 |_,_,.cons r .nil=>xaJ r
theorem Vals.rep (h:xnp):∀k,Vals (xjn k xs) (xjn k us)
 |0=>.nil
 |k+1=>by
  rw [Gm,Gm,Gu,Gu];exact Vals.append h (Vals.rep h k)
theorem lL (its:xa3):∀k acc,
  xW3 (λ x1 x2=>x1++x2) acc.toArray k=(acc++xjn k its).toArray
 |0,acc=>by simp
 |k+1,acc=>by
  have e:acc.toArray++its.toArray=(acc++its).toArray:=Z6;have e2:(acc++its)++xjn k its=acc++xjn (k+1) its:=by
   rw [Gm,Gu,EE]
  rw [<-e2,<-lL its k (acc++its),<-e,Gm,List.foldl_cons]
section
variable {X:Cx}{L8:Η}{σ:St}{H:Hp}{s:LX}{l b:LV}{xs ys zs:M2}
def Inv.lset {its its':xa3}{n:Nat}{f:xt7->xt7}(I:SZ)(hH:xjm=xdZ)
  (e:xgN l xyY) (hf:f its.toArray=its'.toArray) (hv:Vals ys its') (hz:xNC):
  xqv (xlS ys) s (s.heap.update l xZ1) t':=by
 show xaK q (PySem.IsL.update e f) hf q;refine xXX (by show LE hH trivial) (λ b' u hb hu=>xY4 s.heap xZ1 (K1 hb) hu) (xbR q) ?_;exact⟨hz,its',_,hv,q⟩
def Inv.lnew {its:xa3}{t':Nat}(I:SZ)(hv:Vals ys its)(hz:xNC):
  xqv (xfS s.heap.objs.size ys) s (xGJ "list" xMq) t':=
 xQn xXI ⟨hz,its,0,hv,xg1⟩
theorem Inv.fresh (I:SZ):xZo:=xkQ
def Inv.lstM (I:SZ)(hH:xjm=xdZ):xow/\∃(its:xa3) (n:Nat),xvv/\xxK xs.length/\xgN l xyY:=by
 show xfG z its n r e (xhI l hH) ⟨z,its,n,r,r.length,e⟩
def p7 (h:xcN n):Μ (Builtin.List.listTooLong n):=by
 unfold Builtin.List.listTooLong;exact FZ (Ll.mpr h)
universe s
section
variable {X:Cx}
inductive RG (x:V) (vs:M2) (H:Hp) (Q:VK):Prop
 |mk (l:_) (xs:_) (y:_) (h0:x=xa0) (h1:vs=[y]) (h2:xjm=xdZ) (h3:xGS xs.length) (h4:xlj (xlS (xs++[y]))):RG x vs H Q
def bC:MtM X "list.append" RG:=by
 intro L8 s σ H x vs v us Q I rx rv h;obtain⟨l,xs,y,rfl,rfl,hH,hz,q⟩:=h;cases rx;show xqE u ru rv.one;show xyI z its n r hl e hH;show ρ (xVp FX e F.entry_list_append (F.args_list_append_2 _ _) (PySem.list_append l its.toArray n u (by show LE E3 (xKQ xmp hz))) (xde e)) (xbY .non _ (I.lset (its':=its++xky) hH e Z6 (r.append (xmA ru)) ?_) q);rw [EB,II]
 assumption
inductive Ve (x:V) (vs:M2) (H:Hp) (Q:VK):Prop
 |mk (l:_) (b:_) (xs:_) (zs:_) (h0:x=xa0) (h1:vs=[xus]) (h2:xjm=xdZ) (h3:xaN=XL zs) (h4:xcN (xs.length+zs.length)) (h5:xlj (xlS (xs++zs))):Ve x vs H Q
def d6:MtM X "list.extend" Ve:=by
 intro L8 s σ H x vs v us Q I rx rv h;obtain⟨l,b,xs,zs,rfl,rfl,hH,hB,hz,q⟩:=h;cases rx;show xlL u ru rv.one ru;show xyI z its n r hl e hH;show xyI z2 Pw n2 r2 MD e2 hB;have hsz:xcN (its.toArray.size+Pw.toArray.size):=by rw [E3,E3];exact(xdF [_,_,_,_,_] (.a xgT Pi) (xa2 xgT) Pi hz (xgV xmp MD.symm))
 have WT:¬SL (! its.toArray.isEmpty&&Builtin.List.listTooLong (its.toArray.size+Pw.toArray.size)):=by
  rw [p7 hsz,Bool.and_false];exact Fb
 show ρ (xVp HJ e F.entry_list_extend (F.args_list_extend_2 _ _) (AutoSeq1.list_extend_list_list_0 l its.toArray n b Pw.toArray n2 WT (by show LE E3 (xVI z)) (Gr hsz)) (Ψ e e2)) (xbY .non _ (I.lset (its':=its++Pw) hH e Z6 x0q ?_) q);rw [EB]
 assumption
inductive Yk (x:V) (y:V) (H:Hp) (Q:VK):Prop
 |mk (l:_) (b:_) (xs:_) (zs:_) (h0:x=xa0) (h1:y=xus) (h2:xjm=xdZ) (h3:xaN=XL zs) (h4:xcN (xs.length+zs.length)) (h5:∀p,xi3->xsy (xfS p (xs++zs))):Yk x y H Q
def a8:xDZ .Add Yk:=by
 intro L8 s σ H x y v u Q I rx ry h;obtain⟨l,b,xs,zs,rfl,rfl,hH,hB,hz,q⟩:=h;cases rx;cases ry;show xyI z its n r hl e hH;show xyI z2 Pw n2 r2 MD e2 hB;refine PySem.P.add_list e e2 ?_ (by rw [E3,E3];exact(xdF [_,_,_,_,_] (.a xgT Pi) (xa2 xgT) Pi hz (xgV xmp MD.symm)));have ea:its.toArray++Pw.toArray=(its++Pw).toArray:=Z6;show LE ea (xbY (.ref _) _ (I.lnew x0q (by rw [EB];assumption)) (q _ I.fresh))
inductive rRep (x:V) (y:V) (H:Hp) (Q:VK):Prop
 |mk (l:_) (k:_) (xs:_) (h0:x=xa0) (h1:y=xRV) (h2:xjm=xdZ) (h3:-(2^63)≤k) (h4:k<2^63) (h5:xcN (xs.length*k.toNat)) (h6:∀p,xi3->xsy (xfS p (xjn k.toNat xs))):rRep x y H Q
def yW {α:Type}(xs:xb2)(k):(x0e xs).flatten.length=k*xs.length:=by
 induction k with
 |zero=>simp
 |succ k ih=>rw [Gm,Gu,EB,ih,Nat.succ_mul,Ix]
def fG:xDZ .Mult rRep:=by
 intro L8 s σ H x y v u Q I rx ry h;obtain⟨l,k,xs,rfl,rfl,hH,h1,h2,hz,q⟩:=h;show xAc rx ry;show xyI z its n r hl e hH;have hlen:xcN xUR:=by rw [E3,<-hl];exact hz
 have hcap:¬xUR>(2^63-1)/8:=by
  have:xgw sizeLine≤(2^63-1)/8:=Z9;lia
 have WQ:¬SL (! Builtin.List.listFitsIndex k):=by
  show LE (fitsIndex_both h1 h2) Fb
 have WT:¬SL (Builtin.List.listTooLong xUR):=by
  show LE (p7 hlen) Fb
 have hnew:xW3 (λ x1 x2=>x1++x2) #[] (xcA its.toArray.isEmpty 0 k.toNat)=xYF k.toNat its:=by
  have f0:∀m,xW3 (λ x1 x2=>x1++x2) #[] m=xYF m its:=λ m=>by
   show xhM (lL its m []) F6
  rw [f0];cases its with
  |nil=>simp
  |cons a r'=>rw [ES Z6]
 show xgk (wpAny_binaryOp_repeat_ref Z9 (xrC e) (λ s'=>typeIs_int s' k t) noFill_list_mul F.fills_int_mul F.slot_int_rmul repeat_list F.slot_int_index.lookup
  (call_meets F.slot_int_rmul (typeIs_int s k t) F.entry_int_rmul (F.args_int_rmul_2 _ _) (int___rmul___int_list k t l its.toArray n)
   (xpI e (xrC e) (xVp F.slot_list_mul e F.entry_list_mul (F.args_list_mul_2 _ _) (AutoListH.list___mul___list_int_3 l its.toArray n k t WQ hcap WT) (xde e))))) hnew (xbY (.ref _) _ (I.lnew (r.rep k.toNat) (by rw [yW,F2];exact hz)) (q _ I.fresh))
universe s
section
variable {prog:LY}{w:LZ}{A:L3}{E:xad}{s:LX}
set_option maxRecDepth 100000 in
universe s
section
variable {X:Cx}
universe s
universe L2
namespace Att
open PySem PySem.W PySem.Calls PyProof.Rows
def jd:∀ns vs,WellAll P h vs xY9->xFL:=by
 intro ns
 induction ns with
 |nil=>
  intro vs w;show xhX K9 w w .nil
 |cons n ns ih=>
  intro vs w;rw [Gp] at w;cases w with
  |cons a b=>
   cases a;exact .cons _ _ (ih _ b)
def vH {l:OpenLaw}(hn:xQq n)
  (Yt:SL (l.row.toRowW.claim.pre args)) (Xz:WellAll P h vals args):
  ∃a vs ns,vals=[xfB]/\args=[WData.list xY9]/\xs4 xJk/\xFL/\xIf n:=by
 have hsh:SL (WShape.hasAll [] args [.list .int]):=xZE.1;have hc:SL (l.pre.holds [] {args:=args}):=xZE.2;show xeE d r h1 h2 (hasAllW_cons hsh);obtain rfl:=hasAllW_nil h2;show xqE xs h3 (hasW_list h1);show xc4 ns (items_int h3);have hlen:xIf n:=by
  unfold OpenLaw.pre at hc;have h4:SL ((WTm.not (.lt (.lit (.int xay)) (.len (.arg 0)))).holds [] {args:=[.list (ns.map .int)]}):=by
   have h4:=(holds_andW hc).1;show π hn h4 h4
  show xaK h5 (condW_of h4 (w_not (w_lt w_lit (w_len_list (w_arg rfl))))) EA h5;refine FS (xc5 q)
  have q':xay<XV ns.length:=(xKa q)
  first
   |(rw [EJ q'] at h5;show xaq h5 Z9)
   |(simp at h5;omega)
 cases Xz with
 |cons w1 w2=>
  cases w2;cases w1 with
  |list ho MB=>exact xdc _ _ ns rfl ho (jd ns _ MB) hlen
def vg (l:OpenLaw)(args:List WData):SL (l.row.toRowW.claim.post args xtt args):=
 postW_of
  (show SL (WShape.has [] xtt .bool) by first|rfl|decide|simp [WShape.has,WShape.arms,WShape.armsAll])
  (Ω ((WTm.eq .res (.lit xtt)).value [] {args:=args,res:=some xtt,after:=args}) (some (.bool (true==true))) (w_eq_bool (w_res rfl) w_lit)) rfl
def Tu {l:OpenLaw}
  (hn:xQq n) (hdf:xT4 [])
  (call:∀(w:LZ) (s₀ s₁:LX) (mg mb:Α) (fa:LV) (o:L6) (pm cd doc:LW) (a:LV) (vs:xa3) (ns:xoJ),
   Ground q loose [] XP w s₀ mg mb s₁.heap->YP w s₁.heap->
   s₁.heap.get? fa=Id->xza (.func (docDef d.name d.params d.body d.scope pm cd doc))->s₁.heap.CodeRec cd d.name->xWi=xap fa->
   xTO a xJk->xFL->xIf n->s₁.gens=#[]->
   xtA (model l.prog w) callerA xVR xPR (λ r s'=>r=.ok xVY/\xV5/\s'.os=s₁.os/\xHe) s₁):
  WalkO q loose XP YP l.row.toRowW d [] (λ f vs=>xUD vs):=by
 intro w s₀ s₁ mg mb G Y fa o pm cd doc dV kV ho hd QG hD hmg hg args vals as Yt hlay hrd Xz QF;obtain rfl:dV=.none:=Dflts.none hD hdf;obtain rfl:kV=.none:=Dflts.noKw hD;obtain⟨a,vs,ns,rfl,rfl,hobj,hints,hlen⟩:=vH hn Yt Xz;refine enter_call (xHv (call w s₀ s₁ mg mb fa o pm cd doc a vs ns G Y ho (fd_plain hd) QG hmg hobj hints hlen hg) r s' hq);show xbq rfl h2 h3 h4 hq ⟨.inl ⟨xtt,xtt,[],rfl,xhA,xtt,vg l _,λ _=>⟨List.Pairwise.nil,λ _ hm=>(nomatch hm)⟩⟩,h2,h3,h4⟩
section
variable {prog:LY}{w:LZ}{A:L3}{E:xad}{s:LX}{K:Frag}
universe s
universe Att
namespace L2
open PySem PySem.Spec PyProof.Rows
def uz (h:xFL):Vals xip vs:=by
 induction h with
 |nil=>show xib
 |cons n t _ ih=>exact xk7 (xcM t)
noncomputable def aE (s:L7) (j:Nat):L7:=match s with
 | .ClassDef _ _ _ body _ _ _ _ _ _ _=>body.getD j (.Pass ⟨0,0,0,0⟩)
 |_=>.Pass ⟨0,0,0,0⟩
noncomputable def a7 (s:L7):Arguments:=match s with
 | .FunctionDef _ a _ _ _ _ _ _ _ _=>a
 |_=>{posonlyargs:=[],args:=[],vararg:=none,kwonlyargs:=[],kw_defaults:=[],kwarg:=none,defaults:=[]}
noncomputable def aY (s:L7):xyH:=match s with
 | .FunctionDef _ _ b _ _ _ _ _ _ _=>b
 |_=>[]
noncomputable def ag (s:L7):Scope:=match s with
 | .FunctionDef _ _ _ _ _ _ sc _ _ _=>sc
 |_=>{kind:=.function,names:=[],isGenerator:=false,isCoroutine:=false}
abbrev Mq:Ze:=λ _ _ _ _ _ _=>False
abbrev E0:XK:=xMY
def bf {X:Cx}:eW Mq X E0:=λ _ _ _ _ _ _ _ h=>h.elim
structure MF (K:Frag)(x qual:Str)(st:L7)(f:LV)(fd:L0):Prop where
 ex:∃(oc:LW) (od:xiy) (kV doc pm:LW) (an:xiy) (L9 ct:LW) (osl:xoK),
  fd=xCw x qual .none doc pm an L9 ct/\xGC fd/\xFC K L9
 kp:xiU
section
variable {P:LY}{w:LZ}{K:Frag}{mg:Α}{base:L4}
def MF.ok {x qual:Str}{st:L7}(F:xaL x qual st)(S:ST N ps st)
  (P7:∀(L9:LW) (A:L3) (outer:xgO) (s:LX) (H:Hp) (vs:M2) (Q:VK) (E:XK),xHK k (xM7 xtl f L9)->xhp->
   let X:=(xII Mq P w K mg N xtl f L9 A outer s H E).nox;∃t,xiR xGR t/\xEo H' xxg Q xm7 H) (len:xOc (∀vs H Q E,xhp->xtG)):xAh (k+1) sp:=by
 obtain⟨oc,od,kV,doc,pm,an,L9,ct,osl,rfl,lk,QG⟩:=F.ex;refine vU lk QG S len λ A outer s H vs Q E hr Rq=>?_
 show xbp t h q (P7 L9 A outer s H vs Q E hr Rq) ⟨t,h.nox,q⟩
def fun_mk {st:L7}{kV doc pm L9 ct:LW}(l:xGC (xCw x qual .none doc pm an L9 ct))
  (c:xFC K L9) (k:xiU):MF K x qual st f (xCw x qual .none doc pm an L9 ct):=⟨⟨oc,od,kV,doc,pm,an,L9,ct,osl,rfl,l,c⟩,k⟩
universe s
def lP (h:xbC n):xGS n:=xo1 h
section
variable {X:Cx}
def pv (i){x:Str}{pos:Pos}(hN:xal (xuT=xas))(hv:autoParam (xTQ x) ZT)(hd:xgf (x==xhu))
  (QG:xgf (x==xZx)):xar xt5 (Oy i):=Br hN hv hd QG
universe s
def aS {A B:Prop}(h:B):xcA false A B:=by
 show xlq Fb h
def cb {A B:Prop}(h:A):xcA true A B:=by
 show LE xai h
def aT {c A B:Prop} [xHU] (h1:c->A)(h2:¬c->B):xSp A B:=by
 by_cases h:c
 ·show xnf h (h1 h)
 ·show xlq h (h2 h)
def CY {c A B:Prop} [xHU] (hc:c)(h:B):xcA (! decide c) A B:=by
 show LE (EJ hc) (aS h)
def Mf (H H':Hp):Prop:=∀b o,xaN=Id->xeN=Id
def Mf.refl (H:Hp):xef H:=λ _ _ h=>h
def Mf.trans {H H1 H2:Hp}(a:xrZ)(b:xFf H2):xjZ:=λ c o h=>b c o (a c o h)
def Mf.seq {K:Frag}{H H':Hp}{a:LV}{xs:M2}(e:Κ)(h:xh9):xrB H' a:=by
 rcases h with(h|⟨o,h⟩)|h
 ·show xa8 (.inl (e _ _ h))
 ·show xa8 (xei o (e _ _ h))
 ·show xdG h
def AC (n:Nat)(wi:TI)(g:TG)(te:TE):TE:=λ σ H Q=>xFe H λ J H1=>∀l,xhF l->∃W:xsq,
 (∃m,xLL)/\∀i m ys σ' H',xr7->
  (xDd H'/\xat)\/(xEu H'/\∀x H2,xDB H' x H2->xwM λ σ3 H3=>xzT λ y H4=>
   xh1=xeM/\xjx/\xdo (m'<m/\xsY (i+1)))
def zZ {K:Frag}{g:TG}{te:TE}{R:xe2}(Pv:xby xJS)(h0:Pv 0 [] xHQ)(hl:∀i ys H,xpR->xsK->xh9)
  (hs:∀i x ys σ H,xfg=xas->xsK->xyn n->xnL λ σ3 H3=>xzT λ y H4=>xh1=xeM/\xjx/\xIx n/\xfr xAZ xIi)
  (hd:∀ys H,xUO H->R H) (mg:∀x σ H (A B:xfO),(∀σ' H',xSi->xSj)->xnL A->xnL B) (mt:∀σ H (A B:VK),(∀v H',xBa->xBb)->xi8 A->xi8 B):
  ∃W:xsq,(∃m,xLL)/\∀i m ys σ' H',xr7->
   (xoV xnC H'/\R H')\/(xpC xnC H'/\∀x H2,xo8 xnC H' x H2->xwM λ σ3 H3=>xzT λ y H4=>
    xh1=xeM/\xjx/\xdo (m'<m/\xsY (i+1))):=by
 refine Ψ (λ i m ys σ H=>m=xhB i/\xpR/\xyn n/\xsK) ⟨xs.length,Z6,xan,Fd,h0⟩;rintro i m ys σ H ⟨rfl,hi,hn,p⟩;have q:=xAt ys H hi p;by_cases Mb:xAI
 ·show xjH (xei ⟨xs,xs[i],q,by simp [Mb]⟩ xw9) e y y;show xc3 (mg _ _ _ _ _ (λ σ3 H3 z=>mt _ _ _ _ (λ y H4 z9=>by show xbq z1 z2 z3 z4 z9 (xdc z1 z2 (xhB (i+1)) xpB Mb z3 z4)) z) (xss x ys σ _ (y xs q) p hn))
 ·have e:xq6 i:=xvD;show xr3 e ⟨xKG xs q,hd ys H p⟩
def xE (hc:xxy):xtE X "sum" (λ xs H Q=>∃(p:LV) (ns:xoJ),xs=xbk/\xwF p xip/\xku ns.sum):=by
 intro L8 s σ H xs us Q I r h;show xeE p ns hq q h;show xlL u rx xwl rx;show xod rv pl;have hi:=xRd;show xks ys hx hi.allInts.items hl (xTU x0r) (hx▸pl.isList);refine sum_intListG hc hl λ h' tk t' hk=>?_
 have e1:ns=xTj:=by
  rw [<-nums_intItems,<-hx];exact(Ω xYO ns hi.numsOf).symm
 have e2:preSum xIq ys.size=ns.sum:=by
  rw [preSum_eq,xKS,e1]
 show LE e2 (xnu ns.sum (I.kept hk) xbs q)
def gW:xtE X "isinstance" (λ xs H Q=>∃x c t b,xs=[x,.ty c]/\OV X.K H x t/\Tm (kitOne X.K t (.type c)) b/\xgv b):=by
 intro L8 s σ H xs us Q I r h;obtain⟨x,c,t,b,rfl,ty,e,q⟩:=h;show xeE u v ru rv (sL r);cases rv;exact uP I ru ty e λ tk=>xrJ b H (I.tok tk) q
noncomputable def bo (X:Cx) (N:xaO) (scope:Scope) (cl:xzL) (fp:xav) (s:LX) (H:Hp):Cx where
 prog:=X.prog
 w:=X.w
 K:=X.K
 mg:=X.mg
 base:=X.base
 A:=X.A
 N:=N
 s₀:=s
 H₀:=H
 env:=x0R cl s.heap.objs.size X.env
 outer:=X.stack
 stack:=X.stack
 ex:=fp
 fn:=λ _=>false
 calm:=X.calm
 pn:=[]
 xe:=xqr
def cap (js:xQE)(σ:St):St:=xSq o (match o with
 |none=>none
 |some j=>xCX (xvJ))
structure WR (X:Cx)(N:xaO)(scope:Scope)(cl:xzL)(js:xQE):Prop where
 kind:xHO
 nocell:xLN
 names:xvP (xlK=.local->xAi xhW)
 clos:xXA=pure cl
 sub:∀x c,xCu=xa7->xeA=xa7
 has:∀x,(xTN x=xf8\/xDI (xTN x))->∃c,xCu=xa7
 len:js.length=N.length
 slot:∀(i:Nat) (x:Str) (j:Nat),xaU N=xas->xaM js (some j)->xfZ X.N=xas/\xqz=xf8/\xTN x=xf8/\∀c,xeA=xa7->xCu=xa7
def uC {σ:St}{fp:xav}(I:SZ)(C:xKB X N cl js)
  (hf:xs7 H) (Mb:xbQ fp (b<s.heap.objs.size)) (hn:xY3 m) (hk:∀b o,xfo->xda=Id):
  xu8 xnS (cap js σ) H (xNK h' t'):=by
 have sub:∀{x} {c},x0S xnS=xa7->xeA=xa7:=λ {x c} e=>C.sub x c e
 refine⟨⟨I.ok.mod,C.kind,I.ok.glob,I.ok.blt,Tl,λ x y c e1 e2=>I.ok.inj x y c (sub e1) (sub e2),λ x hx=>C.has x hx,λ x c e _=>(by cases e),I.qt,I.ok.frames,xec,
  xbo ⟨FL (Mb b hb),λ x c e=>xv4 xrx x c xI6⟩,I.bs,xNT I.sz,λ b o e hb=>?_,Ε b hb hs,I.stack,I.stkFree⟩,
  rfl,I.bare,xVJ,⟨m,hn,λ i x v h1 h2 h3=>?_⟩,xdm x c,xkQ,λ x c e=>xCV c xI6,xvY,x1j,by unfold cap;show xaT C.len⟩
 ·show xfw (xqV xrx)
  ·exact xUW o e z
  ·show xaq (EM xdV (xNT z)) xli
 ·show xoe (xVG hs) z z
  ·exact Ξ xrx z
  ·exact Ξ xrx.2 z
 ·unfold cap at h2;rw [FA] at h2;cases ej:xaU js with
  |none=>show W1 ej h2 h2
  |some o=>
   rw [ej] at h2;cases o with
   |none=>cases h2
   |some j=>
    have RJ:xCX (xvJ)=xaw:=Fx h2;obtain⟨YS,XC,RT,hc⟩:=C.slot i x j h1 ej;have QC:xbS σ j xaw:=by
     cases e:xvJ with
     |none=>show W1 e RJ RJ
     |some w'=>show π e RJ (xxC RJ)
    obtain⟨mo,hno,hl⟩:=I.loc;show xbd u r l (hl j x v YS QC (xV4 XC)) (Ψ u r);rcases l with⟨q,_⟩|⟨_,c,ec,o,ho,hd⟩
    ·have q':xqz=xf5:=q;show W1 XC q' q'
    ·show xdG ⟨.inl RT,c,hc c ec,o,hk c o ho,hd⟩
 ·show xbq v o ho hd (xAV xI6) ⟨v,o,hk c o ho,hd⟩
 ·show xaq (xlf p ([]:Η) hp) Z6
def rc {σ:St}{σ':St}(I:SZ)(hf:xs7 H)(I':Inv xnS MZ σ' H' s'):xlH:=
 I.call' I'.os I'.base I'.hok I'.bare (xbo ⟨xqV xrx,Ξ xrx,xv4 xrx,xzr xrx⟩)
def CF (js:xQE)(wi:TI)(g:TG)(te:TE):TE:=λ σ H Q=>xFe H λ J H1=>∀l,xhF l->∃W:xsq,
 (∃m,xQt (cap js σ))/\∀i m ys σ' H',xr7->
  (xDd H'/\xat)\/(xEu H'/\∀x H2,xDB H' x H2->xwM λ σ3 H3=>xzT λ y H4=>
   xh1=xeM/\xjx/\xdo (m'<m/\xsY (i+1)))
def gj (js:xQE)(wi:TI)(g:TG)(tt:TT)(te:TE):TE:=λ σ H Q=>xFe H λ J H1=>∀l,xhF l->∃W:xsq,
 (∃m,xQt (cap js σ))/\∀i m ys σ' H',xr7->
  (xDd H'/\xat)\/(xEu H'/\∀x H2,xDB H' x H2->xwM λ σ3 H3=>xF3 λ c H5=>xGt c (λ y H4=>
   xh1=xeM/\xjx/\xdo (m'<m/\xsY (i+1))) (xdo (m'<m/\xIe (i+1) ys H5)))
def xP (n:Nat)(wi:TI)(g:TG)(tt:TT)(te:TE):TE:=λ σ H Q=>xFe H λ J H1=>∀l,xhF l->∃W:xsq,
 (∃m,xLL)/\∀i m ys σ' H',xr7->
  (xDd H'/\xat)\/(xEu H'/\∀x H2,xDB H' x H2->xwM λ σ3 H3=>xF3 λ c H5=>xGt c (λ y H4=>
   xh1=xeM/\xjx/\xdo (m'<m/\xsY (i+1))) (xdo (m'<m/\xIe (i+1) ys H5)))
def xS (prog:LY)(w:LZ)(A:L3)(elt Mc iter:L5)(cs:xmT)(scope:Scope)(pos:Pos)(tw:Env->(xQI)->xk5 (xad)):Prop:=
 ∀(R:xk5 Result) (s:LX) (it acc:LW) (env:Env) (J:xby (xdq LX)),(∀n z,J n z->xmJ (pyNext it) (λ r z1=>match r with
   |none=>R (.ok .next) z1
   |some v=>xmJ (letOwnedTupleGo Mc it v) (λ _ z2=>xmJ (assign Mc env v) (λ _ z3=>tw env (λ b z6=>xcA b (xmJ (xrf elt) (λ x z4=>
     xmJ (xtr "list.append" [acc,x]) (λ _ z5=>∃m,m<n/\J m z5) (xCq w A env (λ e s'=>R xtQ s')) z4) (xCq w A env (λ e s'=>R xtQ s')) z6) (∃m,m<n/\J m z6)) (xCq w A env (λ e s'=>R xtQ s')) z3) (xCq w A env (λ e s'=>R xtQ s')) z2) (xCq w A env (λ e s'=>R xtQ s')) z1) (xCq w A env (λ e s'=>R xtQ s')) z)->
  ∀n,J n s->codeAny xEg A (.compLoop (xI4 [xw7 cs 0]) 0 it acc env) R s
def twI (prog:LY)(w:LZ)(A:L3)(XI:L5):Env->(xQI)->xk5 (xad):=λ env Q E z=>xCC (isTrue XI env (xrf XI)) z
def tw0:Env->(xQI)->xk5 (xad):=λ _ Q _ z=>xEt z
def wC
    (h:(∃XI,cs=[XI]/\tw=twI prog w A XI)\/(cs=[]/\tw=tw0)):xS prog w A elt Mc iter cs scope pos tw:=by
  intro R s it acc env J turn n h0
  refine codeAny_loop rfl J (Ε k z hz) n h0
  show xtB ((compTurn (xI4 [xw7 cs 0]) 0 it acc env).onRaise (λ q=>do noteFrame q env;theTreesLotGoes q)) z
  show xcr (wpAny_noted ?_) compTurn_list (xMQ (xvO (turn k z hz) (Ε r z1 g1) q q))
  cases r with
  |none=>exact E1 g1
  |some v=>
    refine xvO g1 (λ _ z2 g2=>xvO g2 (λ _ z3 g3=>?_) q q) q q
    rcases h with⟨XI,rfl,rfl⟩|⟨rfl,rfl⟩
    · refine EG (wpAny_tests_one (xiq g3 (Ε b z6 g6) q q))
      cases b with
      |false=>exact xRW g6
      |true=>exact EG (xvO g6 (λ x z4 g4=>xvO g4 (λ _ z5 g5=>E1 (xRW g5)) q q) q q)
    · exact xrs (EG (xvO g3 (λ x z4 g4=>xvO g4 (λ _ z5 g5=>E1 (xRW g5)) q q) q q))
def PTw (X:Cx)(tw:Env->(xQI)->xk5 (xad))(tt:TT):Prop:=∀L8 s σ H Q Q' E,SZ->xKW H Q->(∀b s',(∃H',xlH/\xcP b)->Q' b s')->tw X.env Q' E s
def ttT:TT:=λ _ H Q=>xEt H
def Ai:PTw X tw0 ttT:=λ _ _ _ H _ _ _ I h k=>xo0 ⟨H,I,h⟩
def CQ (ht:xiY XI tt)(hx:∀e s,X.xe e s->False):PTw X (twI X.prog X.w X.A XI) tt:=
 λ L8 s σ H Q Q' E I h k=>xiq (ht L8 s σ H Q I h) (λ b s' z9=>by show xbp H' x y z9 (k b s' ⟨H',x,y⟩)) z (hx _ _ z).elim
def oN {N:xaO}{σ:St}:cap xN7 σ=x07 N.length:=by
 show xm9 cap GQ LL
def Aj (OB:xHO)(Ob:xvP (xEx xlK))(OC:xLN)(Qa:xvP (xlK=.local->xAi xhW)):xKB X N [] xN7:=by
 have rl:xb6 (xTz).names (x∈scope.names):=by
  intro x hx;obtain⟨⟨n,k⟩,m,e⟩:=Hk.mp hx;have hk:xEx k:=Ob _ m;have:Μ (k==NameKind.free):=by simpa using hk
  simp [this] at e;show xba e m
 refine⟨OB,OC,Qa,closureFor_none Ob,λ x c h=>(by cases h),P3 x h,EA ..,λ i x j h1 h2=>?_⟩
 ·rcases h with h|h
  ·show xaq rfl (OC _ (rl _ (F8 h)))
  ·show xaq rfl (Ob _ (rl _ (F8 h)))
 ·rw [FA] at h2;cases e:xaU N with
  |none=>show W1 e h2 h2
  |some y=>show W1 e h2 h2
def Du {N:xaO}{te:TE}{σ:St}{H:Hp}(h:AC N.length wi g te σ H Q):gj xN7 wi g ttT te σ H Q:=by
 show xm9 gj oN h
def Dt {N:xaO}{wi:TI}{g:TG}{tt:TT}(h:xP N.length wi g tt te σ H Q):gj xN7 wi g tt te σ H Q:=by
 show xm9 gj oN h
def qF {X:Cx}{N:xaO}{scope:Scope}{σ:St}{RR:LW->LV->xk5 Result}{Wx:xav->LX->Hp->xad}
  (hc:xq3) (Cp:xKB X N cl js)
  (hi:xL2) (hg:∀fp s H,PG xnS Mc g) (LR:xS X.prog X.w X.A elt Mc iter cs scope pos tw) (ht:∀fp s H,PTw xnS tw tt) (he:∀fp s H,xMa ((xnS).wish (Wx fp s H)) te)
  (I:SZ) (h:gj js wi g tt te σ H Q)
  (hR:∀(l C:LV) (H':Hp) (s':LX),xlH->xzW C->(∃m,s'.heap.Ns C m)->xat->RR xa0 C (.ok .next) s')
  (hE:∀(l:LV) (fp:xav) (s3:LX) (H3:Hp) (e:LW) (s':LX),xij H3 s3->(xs7 H3)->Wx fp s3 H3 e s'->xjt (noteFrame e X.env) (λ _ s'=>xTB xa0 xtQ s') (λ e s'=>xTB xa0 xtQ s') s'):
  xE3 iter (λ x s₁=>xf7 (pyIter x) (λ it s₂=>xf7 (newList []) (λ acc s₃=>
   xf7 (newFunctionEnv scope X.env.globals cl [] X.env.qual none .none (some X.env)) (λ cenv s₄=>
    xV2 X.A (.compStart (xI4 [xw7 cs 0]) 0 it acc {cenv with scope:=xTz}) (RR acc cenv.locals) s₄) s₃) s₂) s₁) s:=by
 refine xdM (xAp s H _ I h) v s1 h1 (xdM h1 itv s2 h2 ?_)
 obtain⟨it,fp,tn,J,H2,e,I2,T,O2,f2,hw⟩:=h2;subst e;have MD:xac (H2 s2.heap.objs.size):=xZQ;obtain⟨W,⟨m0,w0⟩,turn⟩:=hw s2.heap.objs.size MD;have lt2:xbQ fp (b<s2.heap.objs.size):=xbo (let⟨o,e,_⟩:=xDC _ O2 b hb;xdV)
 refine xMR;have I3:xij x0J {s2 with heap:=xR5 ([]:xa3)}:=
  I2.laid (t':=s2.toks) (λ b u e=>xd0) Tl ⟨xan,[],0,.nil,xg1⟩
 have Ni:tn 0 (xR5 ([]:xa3)):=xIK _ _ O2 λ b hb o e=>xd0
 have lt3:xbQ fp (b<(xR5 ([]:xa3)).objs.size):=xbo (by show LE JJ (HY (lt2 b hb)))
 have f3:xs7 x0J:=xbo ⟨by show υ (FL (lt2 b hb)) (f2 b hb).1,(f2 b hb).2⟩
 show xqB s2.heap.objs.size l (xdw H2 []) H3;have hs3:∃s3:LX,s3={s2 with heap:=xR5 ([]:xa3)}:=xbs;obtain⟨s3,e3⟩:=hs3;rw [<-e3] at I3;rw [<-e3];have Ni:tn 0 s3.heap:=by show LE e3 Ni
 have lt3:xbQ fp (b<s3.heap.objs.size):=by show LE e3 lt3
 clear e3;refine wpAny_newFunctionEnv Cp.nocell (by intro y hy;simp at hy) (Ε h4 hns hsb) Cp.kind;have kp:∀b o,s3.heap.get? b=Id->h4.get? b=Id:=λ b o e=>hsb.extBut b o xDt xd0
 have I4:=uC (N:=N) (t':=xGs s3.toks ([]:xtj LW)) I3 Cp f3 lt3 hns kp;have N7:tn 0 h4:=xIK _ _ Ni λ b hb o e=>kp b o e
 have T1:∀{H':Hp},(xFR)->xCp (MS xLE [] H' b):=λ hn b hb=>
  ⟨hn b hb,(I4.ok.exf b hb).1,I4.ok.exfs b hb,.inl hb,(I4.ok.exf b hb).2,xe9 p hp (xlf p ([]:Η) hp) Z6⟩
 have loop:xV2 X.A (.compLoop (xI4 [xw7 cs 0]) 0 xoj xa0 (x0R cl s3.heap.objs.size X.env)) (xTB xa0) {s3 with heap:=h4,toks:=xGs s3.toks ([]:xtj LW)}:=by
  refine LR _ _ _ _ _ (λ n s'=>∃i ys σ' H',xu8 xLE σ' H' s'/\xz5 s'.heap/\(xFR)/\W i n ys σ' H') ?_ m0 ⟨0,[],_,_,I4,N7,xbo (f3 b hb).1,w0⟩;rintro n s5 ⟨i,ys,σ5,H5,I5,Zs,RK,w5⟩;rcases turn i n ys σ5 H5 w5 with⟨stop,q⟩|⟨go,step⟩
  ·show xjH (xhy (T.done xLE rfl rfl rfl hc i [] s5 σ5 H5 _ I5 (T1 RK) Zs stop) r s6) hr I6 z9;show xcL hr (hR _ _ _ _ (rc I3 f3 I6) (I3.fpOk Tl I6.free) (let⟨m,hn,_⟩:=I6.loc;⟨m,hn⟩) q)
  ·show xgM (xhy (T.item xLE rfl rfl rfl hc i [] s5 σ5 H5 _ I5 (T1 RK) Zs go) r s6) u hr h6 z9;subst hr;refine xEW h6 s7 z9 ?_
   obtain⟨x,H7,I7,r7,y7,st7,VX⟩:=z9;have I7':=I7.pinned (T1 VX) (xDC _ st7);refine xiq (hg fp s3 H3 _ s7 σ5 H7 x u _ I7' r7 (step x H7 y7)) (λ _ s8 z9=>?_) z xHw;obtain⟨σ8,H8,I8,q8⟩:=z9;show xgM (ht fp s3 H3 _ s8 σ8 H8 _ _ _ I8 q8 (Ε bb s85 z85)) H85 I85 q85 z85;cases bb with
   |false=>
    rw [ES Fb] at q85 ⊢;show xbd m' hm' w9 q85 ⟨m',hm',i+1,ys,σ8,H85,I85.unpinned,xIK _ _ st7 λ b hb o e=>(I85.pin (b,o) xv8).1,xfi,w9⟩;show xbp o e d (xDC _ st7 b hb) (Ξ (I85.pin (b,o) xv8))
   |true=>
   rw [xai] at q85 ⊢;refine GJ (he fp s3 H3 _ s85 σ8 H85 _ (I85.wish _) q85) (Ε v s9 z9) λ e s' z=>hE l fp s3 H3 e s' I3 f3 z
   obtain⟨y,H9,I9',r9,hl9,hz9,m',hm',w9⟩:=z9;have I9:=I9'.unwish;refine xiq (bC (X:=xLE) _ s9 σ8 H9 xa0 [y] xa0 [v] (λ z Hz=>Hz=xdw H9 xAZ) I9 rfl (xmA r9) (xdc l ys y rfl hl9 hz9 rfl)) (λ _ YF ⟨z,Hz,I10,_,eH⟩=>?_) z xHw
   subst eH;refine⟨m',hm',i+1,xAZ,σ8,_,I10.unpinned,xIK _ _ st7 λ b hb o e=>(I10.pin (b,o) xv8).1,xfi,w9⟩;show xbp o e d (xDC _ st7 b hb) (Ξ (I10.pin (b,o) xv8))
 exact codeAny_compStart_list loop (T.self X.A 0 _ _ _ N7 loop)
def j8 {X:Cx}{N:xaO}{scope:Scope}{cl:xzL}(hc:xq3)(Cp:xKB X N cl js)
  (hi:xL2) (hg:∀fp s H,PG xnS Mc g) (LR:xS X.prog X.w X.A elt Mc iter cs scope pos tw) (ht:∀fp s H,PTw xnS tw tt) (he:∀fp s H,xMa xnS te)
  (hs:xxQ (∀x,xIT x=xKb)):xR9 [xw7 cs 0] (gj js wi g tt te):=by
 intro L8 s σ H Q I h;show Uf eval_ListComp (wpAny_comprehension_free rfl hs Cp.clos Cp.kind Cp.names
  (qF hc Cp hi hg LR ht he I h ?_ λ _ _ _ _ _ _ _ _ z=>xHw))
 rintro l C H' s' I' fC ⟨m,hn⟩ q;exact⟨m,hn,λ h' sb'=>xbY xa0 H' (I'.turned (λ b o hb e=>xqC sb' b hb e) fC.1 (Ξ fC) (xqV fC) (xv4 fC) (xzr fC)) q⟩
def yU (hc:xq3)(OB:xHO)(Ob:xvP (xEx xlK))(OC:xLN)(Qa:xvP (xlK=.local->xAi xhW))(hi:xL2)(hg:∀fp s H,PG (xx9 X N [] s H) Mc g)(he:∀fp s H,xMa (xx9 X N [] s H) te)(hs:xxQ (∀x,xIT x=xKb)):
  xR9 [xw7 [] 0] (AC N.length wi g te):=
 λ L8 s σ H Q I h=>j8 hc (Aj OB Ob OC Qa) hi hg (wC xt9) xZ2 he hs L8 s σ H Q I (Du h)
def jC {X:Cx}{N:xaO}{scope:Scope}{elt:L5}(hc:xq3)(OB:xHO)(Ob:xvP (xEx xlK))(OC:xLN)(Qa:xvP (xlK=.local->xAi xhW))(hi:xL2)(hg:∀fp s H,PG (xx9 X N [] s H) Mc g)(ht:∀fp s H,PT (xx9 X N [] s H) XI tt)(he:∀fp s H,xMa (xx9 X N [] s H) te)(hs:xxQ (∀x,xIT x=xKb)):
  xR9 [xw7 [XI] 0] (xP N.length wi g tt te):=
 λ L8 s σ H Q I h=>j8 hc (Aj OB Ob OC Qa) hi hg (wC (.inl (xaJ rfl))) (λ _ _ _=>CQ (ht _ _ _) xCo) he hs L8 s σ H Q I (Dt h)
def ic {X:Cx}{N:xaO}{scope:Scope}(hc:xq3)(Cp:xKB X N cl js)(hi:xL2)(hg:∀fp s H,PG xnS Mc g)(he:∀fp s H,xMa xnS te)(hs:xxQ (∀x,xIT x=xKb)):
  xR9 [xw7 [] 0] (CF js wi g te):=
 λ L8 s σ H Q I h=>j8 hc Cp hi hg (wC xt9) xZ2 he hs L8 s σ H Q I (h)
def iP {lo:Int}{g:TG}{te:TE}{R:xe2}(Pv:xby (M2->xfO))(h0:Pv 0 [] σ0 xHQ)
  (hs:∀i ys σ H,i<k->xUP σ H->xXw (lo+xgw i) H (λ σ3 H3=>xzT λ y H4=>xh1=xeM/\xjx/\xfr xAZ σ3 xIi))
  (hd:∀ys σ H,Pv k ys σ H->R H) (mg:∀x σ H (A B:xfO),(∀σ' H',xSi->xSj)->xnL A->xnL B) (mt:∀σ H (A B:VK),(∀v H',xBa->xBb)->xi8 A->xi8 B):
  ∃W:xsq,(∃m,xQt σ0)/\∀i m ys σ' H',xr7->
   (xoV (xvh k) H'/\R H')\/(xpC (xvh k) H'/\∀x H2,xo8 (xvh k) H' x H2->xwM λ σ3 H3=>xzT λ y H4=>
    xh1=xeM/\xjx/\xdo (m'<m/\xsY (i+1))):=by
 refine Ψ (λ i m ys σ H=>m=k-i/\i≤k/\xUP σ H) ⟨k,Z6,xan,h0⟩;rintro i m ys σ H ⟨rfl,hi,p⟩;by_cases Mb:i<k
 ·show xjH (xei Mb xw9) e y y;subst e y;exact mg _ _ _ _ _ (λ σ3 H3 z=>mt _ _ _ _ (λ y H4 z9=>by show xbp z1 z2 z4 z9 ⟨z1,z2,k-(i+1),xpB,rfl,Mb,z4⟩) z) (xss ys σ _ Mb p)
 ·have e:i=k:=xvD;show xr3 e ⟨Tl,hd ys σ H p⟩
structure NB (K:Frag)(x qual:Str)(st:L7)(dV:LW)(f:LV)(fd:L0):Prop where
 ex:∃(oc:LW) (od:xiy) (kV doc pm:LW) (an:xiy) (L9 ct:LW) (osl:xoK),
  fd=xCw x qual dV doc pm an L9 ct/\xGC fd/\xFC K L9
 kp:xiU
def NB.ok {K:Frag}{st:L7}(F:xA2 qual f fd)(S:ST N ps st)
  (hb:∀(L9:LW) (A:L3) (outer:xgO) (s:LX) (H:Hp) (vs:M2) (Q:VK) (E:XK),xHK k (xM7 xtl f L9)->xhp->
   let X:=(xII Mq P w K mg N xtl f L9 A outer s H E).nox;∃t,xiR xGR t/\xEo H' xxg Q xm7 H) (len:xOc (∀vs H Q E,xhp->xtG)):xAh (k+1) sp:=by
 obtain⟨oc,od,kV,doc,pm,an,L9,ct,osl,rfl,lk,QG⟩:=F.ex;refine vU lk QG S len λ A outer s H vs Q E hr Rq=>?_
 show xbp t h q (hb L9 A outer s H vs Q E hr Rq) ⟨t,h.nox,q⟩
def AI (P:LY)(w:LZ)(h:L4)(d:LV)(a b:Int):Prop:=∃t t':Tok,h.MapOf (intKind P w) d (valueAt [(xkd,xxZ a),(16,.int b t')])
def at8 (a b:LW):Tm (valueAt [(xkd,a),(16,b)] 8) a:=rfl
def El (a b:LW):Tm (valueAt [(xkd,a),(16,b)] 16) b:=rfl
def T6 (K:Frag)(d:LV)(a b:Int):Prop:=Μ (xSY d)/\∃(t1 t2 t3 t4:Tok) (ep:Nat),xqD d (some ⟨xNm,none,xRa #[⟨8,xQS t1,.int a t2⟩,⟨16,.int 16 t3,.int b t4⟩],#[]⟩)
def T6.map {K:Frag}{d:LV}{a b:Int}{h:L4}(P:LY)(w:LZ)(T:T6 K d a b)(X:xy4):AI P w h d a b:=by
 obtain⟨_,t1,t2,t3,t4,ep,e⟩:=T;refine⟨t2,t4,_,_,ep,X _ _ e,xrc rfl,rfl,?_,?_⟩
 ·intro en hen;have hen':en=⟨8,xQS t1,.int a t2⟩\/en=⟨16,.int 16 t3,.int b t4⟩:=by simpa using hen
  show xj3 hen'
  ·exact⟨8,intKind_is P w 8 t1,by show xJF (xkd=hashInt 8)⟩
  ·exact⟨16,intKind_is P w 16 t3,by show xJF (XV 16=hashInt 16)⟩
 ·intro k;show findBy Value.isInt _ k=_;unfold findBy valueAt;by_cases h8:k=8
  ·subst h8;simp [Value.isInt]
  ·by_cases VW:k=16
   ·subst VW;simp [Value.isInt]
   ·have e1:¬xkd=k:=On (h8 z.symm)
    have e2:¬XV 16=k:=On (VW z.symm)
    simp [Value.isInt,e1,e2]
def Eh (P:LY)(w:LZ)(d:LV)(a b:Int):HO:=.ext λ h=>AI P w h d a b
def Sq2 (X:Cx)(H:Hp)(d:LV)(a b:Int):Prop:=T6 X.K d a b\/xjw d (Eh X.prog X.w d a b)
def Inv.map2 {X:Cx}{L8:Η}{σ:St}{H:Hp}{s:LX}{d:LV}{a b:Int}(I:SZ)(h:Sq2 X H d a b):AI X.prog X.w s.heap d a b:=by
 rcases h with h|h
 ·exact h.map _ _ I.kIn
 ·exact(xhI d h).1
inductive rIx2 (X:Cx) (x:V) (y:V) (H:Hp) (Q:VK):Prop
 |mk (d:_) (i:_) (a:_) (b:_) (h0:x=xlg) (h1:y=xcq) (h2:Sq2 X H d a b) (h3:((i=8/\xku a)\/(i=16/\xku b))):rIx2 X x y H Q
def nN {X:Cx}:xKV (rIx2 X):=by
 intro value slice L8 s σ H x y v u Q I rx ry h hs;obtain⟨d,i,a,b,rfl,rfl,hm,hq⟩:=h;show xAc rx ry;obtain⟨t1,t2,hm⟩:=I.map2 hm;show xOq hq q rfl q
 ·exact xYC hm.typeIs (x0T (xUE _ _ _) (at8 _ _) (xnu a xcS xbs q)) hs
 ·exact xYC hm.typeIs (x0T (xUE _ _ _) (El _ _) (xnu b xcS xbs q)) hs
def mF {X:Cx}:xh8 .NotIn (λ x y H Q=>∃d i a b,x=xcq/\y=xlg/\T6 X.K d a b/\(i=8\/i=16)/\xgv false):=by
 intro L8 s σ H x y v u Q I rx ry h;obtain⟨d,i,a,b,rfl,rfl,hT,hi,q⟩:=h;show xjU;cases ry;show xbd t1 t2 hm (hT.map X.prog X.w I.kIn) (wpAny_notIn_of (xUE _ i t) hT.1 hm ?_);show xj3 hi
 ·exact xbY xxO H xcS q
 ·exact xbY xxO H xcS q
def oo {X:Cx}(hu:xyo 64<cLine):xh8 .Eq (λ x y H Q=>∃(p q:LV) (ns ms:xoJ),x=xbV/\y=xDR/\xwF p xip/\xwF q xTV/\xgv (xdt ns ms)):=by
 intro L8 s σ H x y v u Q I rx ry h;obtain⟨p,q,ns,ms,rfl,rfl,h1,h2,k⟩:=h;cases rx;cases ry;show xoo rv pl hz (I.list h1);show xbq Pw rv2 pl2 RN (I.list h2) (PySem.W.eq_intsK pl.isList xRd pl2.isList (cT rv2) hu (xrJ _ H I k))
universe L2
namespace QQ
open PySem
universe QQ
set_option maxHeartbeats 8000000
namespace L2
open PySem PySem.Spec PyProof.Rows QQ
noncomputable abbrev bmV:xa3:=[.type "ValueError",.type "Exception",xYX,xM0]
def ExC (K:Frag)(C:LV):Prop:=SL (excIn K C bmV "ValueError.__new__")
structure ExI (K:Frag)(C:LV):Prop where
 ga:xmI K "__getattribute__" (xom "BaseException.__getattribute__")
 gt:xmI K "__getattr__" none
 hd:xNF K C
 ha:xmI K "__class__" xYT
 hn:Tm (specialIn K xMy "__get__") xYo
 htk:xrw (takesIn K xMy)
 hm:xrw (mroIn K C xM0)
 be:xrw (mroIn K C xYX)
def pD {K:Frag}{g:TG}{tt:TT}{te:TE}{R:xe2}(Pv:xby xJS)(h0:Pv 0 [] xHQ)(hl:∀i ys H,xpR->xsK->xh9)
  (hs:∀i x ys σ H,xfg=xas->xsK->xyn n->xnL λ σ3 H3=>xF3 λ c H5=>xGt c (λ y H4=>xh1=xeM/\xjx/\xIx n/\xfr xAZ xIi) (xIx n/\Pv (i+1) ys H5))
  (hd:∀ys H,xUO H->R H) (mg:∀x σ H (A B:xfO),(∀σ' H',xSi->xSj)->xnL A->xnL B) (mtt:∀σ H (A B:xyJ),(∀v H',xBa->xBb)->xKW H A->xKW H B) (mt:∀σ H (A B:VK),(∀v H',xBa->xBb)->xi8 A->xi8 B):
  ∃W:xsq,(∃m,xLL)/\∀i m ys σ' H',xr7->
   (xoV xnC H'/\R H')\/(xpC xnC H'/\∀x H2,xo8 xnC H' x H2->xwM λ σ3 H3=>xF3 λ c H5=>xGt c (λ y H4=>
    xh1=xeM/\xjx/\xdo (m'<m/\xsY (i+1))) (xdo (m'<m/\xIe (i+1) ys H5))):=by
 refine Ψ (λ i m ys σ H=>m=xhB i/\xpR/\xyn n/\xsK) ⟨xs.length,Z6,xan,Fd,h0⟩;rintro i m ys σ H ⟨rfl,hi,hn,p⟩;have q:=xAt ys H hi p;by_cases Mb:xAI
 ·show xjH (xei ⟨xs,xs[i],q,by simp [Mb]⟩ xw9) e y y;subst e;refine mg _ _ _ _ _ (λ σ3 H3 z=>mtt _ _ _ _ (Ε c H5 z) z) (xss x ys σ _ (y xs q) p hn);cases c with
  |true=>
   rw [xai] at z ⊢;exact mt _ _ _ _ (λ y H4 z9=>by show xbq z1 z2 z3 z4 z9 (xdc z1 z2 (xhB (i+1)) xpB Mb z3 z4)) z
  |false=>
   rw [ES Fb] at z ⊢;exact⟨xhB (i+1),xpB,rfl,Mb,xeS,xh6⟩
 ·have e:xq6 i:=xvD;show xr3 e ⟨xKG xs q,hd ys H p⟩
universe L2
namespace L2
open PySem
def AQ {dV kV doc pm L9 ct oc:LW}
    (lk:xGC (xQR dV kV doc pm an L9 ct)) (QG:xFC K L9) (S:y' N ps scope)
  (len:∀vs H Q E,xhp->xtG)
  (P7:∀(A:L3) (outer:xgO) (s:LX) (H:Hp) (vs:M2) (Q:VK) (E:XK),xhp->
   ∃t,PSs (xw4 CX P w K mg N f L9 A outer s H E) body t/\xEo H' xxg Q xm7 H):
  xii P w K CX 0 f (xQR dV kV doc pm an L9 ct) ps sp:=by
 refine⟨len,λ A outer s H args us vs Q E hr e0 hb r Rq=>?_⟩;have hl:=len _ _ _ _ Rq;have KX:xox:=e0.mod.kin.keeps λ b o e=>(xQu o e).1
 have lim:s.heap.NoLimit:=e0.mod.nolimit.keeps λ b o e=>(xQu o e).1
 have OB:∀y∈xCz,xAi xh0\/(xth xh0 xf8/\xkX ((xTr xeh []).lookup xh0)):=λ⟨n,v⟩ hy=>by
  rcases S.par n (J7 hy).1 with q|q
  ·show xa8 q
  ·exact xei q (Kp _ _ _ (.inl q))
 show ρ (xYu (KX _ _ lk) rfl S.co S.gen rfl (x1i QG) (xzz _ _ _ ?_)) (xYp OB λ env he s1 x=>?_)
 subst he;show xgM ⟨xYN,x0o⟩ t ht hq (P7 A outer s H vs Q E Rq);have I:xu8 (xw4 CX P w K mg N f L9 A outer s H E) xm7 H s1:=lG S e0 hl r x;refine GJ (ht [] s1 xm7 H _ I hq) (Ε fl s' hs) λ e s' hs=>hs
 have fin:∀{σ'} {H'} {v} {u},xu8 (xw4 CX P w K mg N f L9 A outer s H E) σ' H' s'->xd5->xAE->xXa P w H s Q u s':=
  λ {σ' H' v u} J rv q=>⟨v,H',J.os,J.bare,J.base,J.hok,rv,q⟩
 cases fl with
 |ret u=>
  obtain⟨v,σ',H',J,rv,q⟩:=hs;exact fin J rv q
 |next=>
  show xbq σ' H' J q hs (fin (v:=V.non) J rfl q)
 |brk=>
  show xNh q hs q
 |cont=>
  show xNh q hs q
def MF.ok0 (F:xaL x qual st)(S:ST N ps st)
  (P7:∀(L9:LW) (A:L3) (outer:xgO) (s:LX) (H:Hp) (vs:M2) (Q:VK) (E:XK),xhp->
   let X:=(xII Mq P w K mg N xtl f L9 A outer s H E).nox;∃t,xiR xGR t/\xEo H' xxg Q xm7 H) (len:xOc (∀vs H Q E,xhp->xtG)):xAh 0 sp:=by
 obtain⟨oc,od,kV,doc,pm,an,L9,ct,osl,rfl,lk,QG⟩:=F.ex;refine AQ lk QG S len λ A outer s H vs Q E Rq=>?_
 show xbp t h q (P7 L9 A outer s H vs Q E Rq) ⟨t,h.nox,q⟩
universe L2
namespace L2
open PySem PySem.Spec PyProof.Rows QQ
def ao (h:∀R:xfO,(∀σ H,u D σ H->R σ H)->xs0 {D with nx:=R} H):Dj t u D σ H:=h (u D) xCo
inductive rNeL (K:Frag) (x:V) (y:V) (H:Hp) (Q:VK):Prop
 |mk (p q:LV) (ns ms:xoJ) (h0:x=xbV) (h1:y=xDR) (h2:Mm K H p xip) (h3:Mm K H q xTV) (h4:xgv (! xdt ns ms)):rNeL K x y H Q
def gO {X:Cx}(hu:xyo 64<cLine):xWL (rNeL X.K):=by
 intro L8 s σ H x y v u Q I rx ry h;obtain⟨p,q,ns,ms,rfl,rfl,h1,h2,k⟩:=h;cases rx;cases ry;show xoo rv pl hz (I.list h1);show xbq Pw rv2 pl2 RN (I.list h2) (PySem.W.ne_intsK pl.isList xRd pl2.isList (cT rv2) hu (xrJ _ H I k))
def dJ (xs)(k:Nat):xJB none (xjp k)=xs.take k:=by
 unfold cutV;rw [HT.Qh,HT.M6,Hy,IK];by_cases h:xxl k
 ·rw [FR h]
 ·rw [HC (KH h),Fs,E8 (KH h)]
def eu (xs)(k:Nat):xmN xs k none=xs.drop k:=by
 show xc2 cutV HT.Qh HT.M6;by_cases h:xxl k
 ·rw [FR h,<-EN,Fs]
 ·rw [HC (KH h),Lx,List.drop_of_length_le (KH h),List.take_nil]
def mx (xs:M2){m n:Nat}(hm:xc1 m)(hn:xxl n):xmN xs (xgw m) (xr8 n)=xj6 (xs.drop m) n m:=by
 unfold cutV;rw [HT.M6,HT.M6,FR (show xxl m from EF hm hn),FR hn]
def gN {a x:Str}{b c:LV}(h:xCg [(a,b)]=xa7):x=a/\c=b:=by
 rw [List.lookup_cons] at h;cases hx:x==a with
 |true=>show π hx h ⟨eq_of_beq hx,xIW h⟩
 |false=>show W1 hx h h
def none_of (s:Κ)(h:xac (H' q)):Χ q:=by
 cases e:H q with
 |none=>rfl
 |some o=>show W1 (xft e) h h
def aj (h:xi3):xef (xe4 p o):=λ b u e=>by
 show xgr h e
def jk (hb:PSs X.nox body tb):xnv (.Try body (h₀::hs) [] [] pos) tb:=by
 intro L8 s σ H D I h;refine wpAny_Try_except (GJ (hb L8 s σ H D (I.wish _) h) (Ε f s1 q) λ e s1 q=>q.elim);have q':SP X L8 D f s1:=SP.unwish q;cases f with
 |next=>exact Kb q'
 |brk=>exact q'
 |cont=>exact q'
 |ret u=>exact q'
universe L2
namespace QQ
open PySem PyProof.Rows
def nK {items}(hq:xp0)
  (hit:xTi l i) (hl:xTG l) (hx:xPp)
  (hE:∀h' e,xzZ->(∃o,xIw=Id/\o.cls=xMF)->E xoL xmz):
  xhf (Builtin.SmallTypes.nextOf xoj):=by
 show xmY o ho hc hd hit;obtain⟨ol,hol,_,nl,X7⟩:=hl;unfold Builtin.SmallTypes.nextOf;refine EG (xHn Ki (xZU Ki ?_ xYU));show xkw 0;refine xwd;show xvd (xxG l) _ _;rw [ES (show¬(SL (xxG l)) from Fb)];show xkw 1;refine xwd;show xiE (xCQ xa0 _);show xyZ (xFb hol X7 ?_) E2 hx;refine xLW Z6 ?_;have Ug:=xGM (h:=s.heap) it;refine xHF (λ a o' us e d' z'=>xLt (xL3 e d' z') e) (λ h' e k he=>?_)
 exact hE _ e (λ b ob hb e1=>xLu hb e1) he
universe QQ
namespace L2
open PySem PySem.Spec PyProof.Rows QQ
universe L2
namespace QQ
open PySem PyProof.Rows
def Tv (hq:xp0)
  (hit:xZi "str_ascii_iterator" x t i) (hx:xac (xaU x.cps))
  (hQ:∀h',xzZ->xF1):xLz:=by
 show xmY o ho hc hd hit;show xEV;refine xyP (xHn F.slot_str_ascii_iterator_next (xM9 F.slot_str_ascii_iterator_next F.entry_str_ascii_iterator_next ?_ (F.args_str_ascii_iterator_next_1 _)))
 show xkw 0;refine xwd;show xkw 1;show xyZ (EG (G8 ho hd (x:=xcq 0) rfl ?_)) E2 hx;refine xLW Z6 xP6;have Ug:=xGM (h:=s.heap) it;refine xHF (λ a o' us e d' z'=>xLt (xL3 e d' z') e) (λ h' e k z9=>?_)
 show xbd o' ge ce z9 (xFc (xbu ge ce) JN ?_);exact xy3 _ (λ b ob hb e1=>xLu hb e1)
def Ub (hq:xp0)
  (hit:xZi "str_iterator" x t i) (hx:xac (xaU x.cps))
  (hQ:∀h',xzZ->xF1):xLz:=by
 show xmY o ho hc hd hit;show xEV;refine xyP (xHn F.slot_str_iterator_next (xM9 F.slot_str_iterator_next F.entry_str_iterator_next ?_ (F.args_str_iterator_next_1 _)))
 show xkw 0;refine xwd;show xkw 1;show xyZ (EG (G8 ho hd (x:=xcq 0) rfl ?_)) E2 hx;refine xLW Z6 xP6;have Ug:=xGM (h:=s.heap) it;refine xHF (λ a o' us e d' z'=>xLt (xL3 e d' z') e) (λ h' e k z9=>?_)
 show xbd o' ge ce z9 (xFc (xbu ge ce) JN ?_);exact xy3 _ (λ b ob hb e1=>xLu hb e1)
universe QQ
namespace L2
open PySem PySem.Spec PyProof.Rows
def Its (x:Str):It:=⟨λ i _=>xXR i,λ i H y H'=>H'=H/\∃c,xaU x.cps=xa7/\y=xCW #[c],λ i _=>xV8 i⟩
def sh {K:Frag}(it)(x)(t):xEv w K tg (Its x) [it] it (λ i h=>x0U "str_ascii_iterator" x t i) where
 mem:=Z6
 obj:=λ i h st b hb=>by
  have e:b=it:=by show xiA
  subst e;show xbq o e c d st (xqh (λ v z=>by show W1 d z z))
 keep:=λ i h h' st k=>let⟨o,ho,r⟩:=st;xjS (k it Z6 o ho) r
 item:=by
  intro X hP hw hK hc i L8 s σ H E I hf st hg;subst hP hw hK;have X6:xXR i:=hg;show xlz f0 f1 f2 f3 f4 f5 Z6;refine wpAny_pyNext_ascii_item st (c:=x.cps[i]) (by simp [X6]) (xsU st' sb)
  have I1:xGv H xuD:=xDQ (λ b o hb e=>xHS o hb e);show xbq o e c d (id st') (xaJ (oK e c d Z9 ⟨xCW #[x.cps[i]],H,I1,xWv,xpe _ (by simp [X6]) rfl,st',xLU⟩))
 done:=by
  intro X hP hw hK hc i L8 s σ H E I hf st hg;subst hP hw hK;have X6:xV8 i:=hg;show xlz f0 f1 f2 f3 f4 f5 Z6;exact QQ.Tv I.hq st (by simp [X6]) λ h' eb=>xEm (λ b o hb e=>eb b o hb e)
 self:=xCM h (wpAny_pyIter_striter_ascii st h)
def vc {K:Frag}(it)(x)(t):xEv w K tg (Its x) [it] it (λ i h=>x0U "str_iterator" x t i) where
 mem:=Z6
 obj:=λ i h st b hb=>by
  have e:b=it:=by show xiA
  subst e;show xbq o e c d st (xqh (λ v z=>by show W1 d z z))
 keep:=λ i h h' st k=>let⟨o,ho,r⟩:=st;xjS (k it Z6 o ho) r
 item:=by
  intro X hP hw hK hc i L8 s σ H E I hf st hg;subst hP hw hK;have X6:xXR i:=hg;show xlz f0 f1 f2 f3 f4 f5 Z6;refine wpAny_pyNext_wide_item st (c:=x.cps[i]) (by simp [X6]) (xsU st' sb)
  have I1:xGv H xuD:=xDQ (λ b o hb e=>xHS o hb e);show xbq o e c d (id st') (xaJ (oK e c d Z9 ⟨xCW #[x.cps[i]],H,I1,xWv,xpe _ (by simp [X6]) rfl,st',xLU⟩))
 done:=by
  intro X hP hw hK hc i L8 s σ H E I hf st hg;subst hP hw hK;have X6:xV8 i:=hg;show xlz f0 f1 f2 f3 f4 f5 Z6;exact QQ.Ub I.hq st (by simp [X6]) λ h' eb=>xEm (λ b o hb e=>eb b o hb e)
 self:=xCM h (wpAny_pyIter_striter_wide st h)
inductive Xr (R:xr4) (x:V) (H1:Hp):Prop
 |mk (y:_) (h0:x=.str y) (h1:R xPr H1):Xr R x H1
def Ej (tl:TE):TI:=λ σ H R=>tl σ H λ x H1=>Xr R x H1
def Cg {l:L5}(hl:xar l tl):xLI l (Ej tl):=by
 intro L8 s σ H R I h;show xg8 (xk0 (hl L8 s σ H _ I h) v) x;obtain⟨y,e,q⟩:=q1;subst e;show xc4 t r1;cases ha:y.cps.all (·<128)
 ·show ρ (wpAny_pyIter_wide ha ?_) ⟨s1.heap.objs.size,xTl,_,_,H1,rfl,I1.kept λ b o e=>xd0,vc _ y t,xSL,xfi,q⟩;have e:xT3 b:=by show xiA
  show xc3 xKI
 ·show ρ (wpAny_pyIter_ascii ha ?_) ⟨s1.heap.objs.size,xTl,_,_,H1,rfl,I1.kept λ b o e=>xd0,sh _ y t,xSL,xfi,q⟩;have e:xT3 b:=by show xiA
  show xc3 xKI
def yk {g:TG}{tb:TS}{D:Ends}(Pv:xFJ)(h0:xne 0)
  (hs:∀i c σ H,xaU y.cps=xa7->xlY->g (xCW #[c]) σ H λ σ2 H2=>xn5 D xfr xfr) (hd:∀σ H,xne y.cps.size->xlV):
  ∃W:xFK,(∃m,xFZ H)/\∀i m σ H,xFY H->
   (xoV xPr H/\xlV)\/(xpC xPr H/\∃N,(∀σ' H',xz2->xdo (m'<m/\xFU (i+1) H'))/\∀x H',xo8 xPr H x H'->xFT λ σ2 H2=>xn5 D N N):=by
 refine Ψ (λ i m σ H=>m=y.cps.size-i/\i≤y.cps.size/\xlY) ⟨y.cps.size,Z6,xan,h0⟩;rintro i m σ H ⟨rfl,hi,p⟩;by_cases Mb:i<y.cps.size
 ·refine .inr ⟨Mb,xfr,λ σ' H' p'=>xbI (y.cps.size-(i+1)) (xhq [_,_,_,_] (xbi xDp) xP0 τ (xnd NE Mb)) Mb p',Ε x H' z⟩;show xvw e c hc z;show xc3 (xss c σ _ hc p)
 ·have e:i=y.cps.size:=xif (xBt hi) [_,_] IO IO (FS Mb);show xr3 e ⟨Tl,xKT H p⟩
def vQ (lo c:Int)(n:Nat):It:=⟨λ i _=>i<n,λ i H x H'=>H'=H/\x=.int (lo+i*c),λ i _=>n≤i⟩
def oZ {K:Frag}(it)(lo c)(n):xEv w K tg (vQ lo c n) [it] it (λ i h=>xHr h (lo+xgw i*c) (xay-xgw i) c) where
 mem:=Z6
 obj:=λ i h st b hb=>by
  have e:b=it:=by show xiA
  show xc3 (xbu st (λ v z=>by
   have z':xUi=xUX:=z;cases z'))
 keep:=λ i h h' st k=>k it Z6 _ st
 item:=by
  intro X hP hw hK hc i L8 s σ H E I hf st hg;subst hP hw hK;show xlz f0 f1 f2 f3 f4 f5 Z6;refine xYI (by have:i<n:=hg;omega) (xsU Ue sb)
  have st':xHr h' (lo+xgq*c) (xay-xgq) c:=by
   have e1:lo+xgq*c=lo+xer*c+c:=by rw [xce xgq (xer+1),Int.add_mul];lia
   have e2:xay-xgq=xay-xer-1:=Z5;rw [e1,e2];exact Ue
  have I1:xGv H xuD:=xDQ (λ b o hb e=>xHS o hb e);exact xaJ (oK st' rfl rfl Z9 ⟨.int (lo+i*c),H,I1,xWv,xkP,st',xLU⟩)
 done:=by
  intro X hP hw hK hc i L8 s σ H E I hf st hg;subst hP hw hK;show xlz f0 f1 f2 f3 f4 f5 Z6;exact QQ.Ph I.hq st (by have:n≤i:=hg;lia) λ h' eb=>xEm (λ b o hb e=>eb b o hb e)
 self:=xCM h (xYL h)
inductive Vg (R:xr4) (vs:M2) (H1:Hp):Prop
 |mk (i j c:Int) (n:Nat) (h0:vs=[xcq,xiI,xIm]) (h1:xcd 0) (h2:xTo i j c) (h3:xYP j c=xay) (h4:Μ (Builtin.divisionGoesByPylong (j-i) c)) (h5:R (vQ i c n) H1):Vg R vs H1
def DG (ta:TA):TI:=λ σ H R=>xFV vs (Vg R vs H1)
def lN {X:Cx}{tg:L5}{p pos:Pos}(hg:xV3)(hm:xVZ)(ha:xjT [a,b,c] ta)(hs:xal (xkH [a,b,c]=[xmM a,xmM b,xmM c]))(Rt:xal (xkH [b,c]=[xmM b,xmM c])):
  xLI (xIa "range" p [a,b,c] []) (DG ta):=by
 intro L8 s σ H R I h;show xg8 (Call_ (xVC I (HK xGp (by rw [hs,Rt]) (by show xak Rt)))) vs;obtain⟨i,j,c,n,e,h0,h1,h2,h3,q⟩:=q1;subst e;cases r1 with
 |cons r rr=>
  cases rr with
  |cons r' rr=>
   cases rr with
   |cons r'' rr=>
    show xAc rr r;show xc4 t' r';show xc4 t'' r'';show ρ (call_range_3 h0 ?_ (.inl h3)) (xYs .. h1 ?_);have I2:xqv H1 s1 (s1.heap.push (xIB #[xnj,xiI t',xR8])) s1.toks:=I1.kept λ b o e=>xd0
    refine⟨xS8 (xIB #[xnj,xiI t',xR8]),[xS8 (xIB #[xnj,xiI t',xR8])],_,_,H1,rfl,
     I2.kept λ b o e=>xd0,oZ _ i c n,?_,xfi,q⟩
    ·have e1:i+xwx*c=i:=Z6;have e2:xay-xwx=xYP j c:=by show xcj h2
     show x1f _ (i+xwx*c) (xay-xwx) c;rw [e1,e2];exact xg1
    ·have e:b=xS8 (xIB #[xnj,xiI t',xR8]):=by show xiA
     show xc3 (I2.fpOk Tl xZQ)
def kF {lo c:Int}{g:TG}{tb:TS}{D:Ends}(Pv:xFJ)(h0:xne 0)
  (hs:∀i σ H,i<n->xlY->xXw (lo+i*c) H (λ σ2 H2=>xn5 D xfr xfr)) (hd:∀σ H,xne n->xlV):
  ∃W:xFK,(∃m,xFZ H)/\∀i m σ H,xFY H->
   (xoV (vQ lo c n) H/\xlV)\/(xpC (vQ lo c n) H/\∃N,(∀σ' H',xz2->xdo (m'<m/\xFU (i+1) H'))/\∀x H',xo8 (vQ lo c n) H x H'->xFT λ σ2 H2=>xn5 D N N):=by
 refine Ψ (λ i m σ H=>m=n-i/\xc1 i/\xlY) ⟨n,Z6,xan,h0⟩;rintro i m σ H ⟨rfl,hi,p⟩;by_cases Mb:i<n
 ·show xjH (.inr ⟨Mb,xfr,λ σ' H' p'=>xbI (n-(i+1)) xpB Mb p',xw9⟩) e y y;subst e y;exact xss σ _ Mb p
 ·have e:i=n:=xvD;show xr3 e ⟨Tl,xKT H p⟩
def sgn (b:Bool):Nat:=if b then 49 else 48
def txt (bs:Θ):Str:=⟨(bs.map sgn).toArray⟩
def dn (bs:Θ):(xoD).cps.toList=bs.map sgn:=by simp [txt]
def bj (bs:Θ):xaI xoD bs.length:=by simp [txt,Str.length]
def wg (bs:Θ):(xoD).cps.size=bs.length:=by simp [txt]
def tM {x y:Str}(h:x.cps.toList=y.cps.toList):x=y:=by
 cases x;cases y;simp only [Str.mk.injEq];exact LD.mp h
def Ol (a b:Θ):txt a++xEX=txt (a++b):=by
 refine tM ?_;show xlw ((txt a).cps++(xEX).cps) _;rw [FD,dn,dn,dn,EO]
def yt {i:Nat}(h:xaU (xoD).cps=xa7):∃b,xaM bs b/\xcx ⟨#[c]⟩=xDA:=by
 rw [<-Jz,dn,FA] at h;cases e:xaU bs with
 |none=>show W1 e h h
 |some b=>show xhX e h h (xrc b)
def RE {a b:Θ}:txt a=xEX<->a=b:=by
 refine⟨xc5 h,λ h=>by rw [h]⟩;have h1:a.map sgn=b.map sgn:=by rw [<-dn,<-dn,h]
 refine(List.map_inj_right (xdm x y)).mp h1;cases x<;>cases y<;>first|rfl|show xaq e Z9
inductive rSlS (x:V) (lo:xc6) (hi:xc6) (H:Hp) (Q:VK):Prop
 |mk (y:_) (h0:x=.str y) (h1:xcN y.length) (h2:xXK (Txt.slice y lo hi)):rSlS x lo hi H Q
def lF (p:IsPart v o):∃l,l.map (·.1)=o/\v=partValue l:=by
 cases p with
 |none=>exact xC2
 |int i t=>exact xrc (some (i,t))
def qG:xwm rSlS:=by
 intro L8 s σ H x v vl vu lo hi sl Q I rx hs pl pu h;show xo6 y rfl hz q;show xjU;show xeB l rfl (lF pl);show xeB u rfl (lF pu);show ρ ⟨"str",_,F.slot_str_getitem.lookup,typeIs_str _ _ _,?_⟩ (wpAny_getItem_str_slice (st:=none) hs rfl ?_);exact post_val_or_str (xih (EF (Txt.slice_le y _ _) hz) t' k (xgu (.str (Txt.slice y (l.map (·.1)) (u.map (·.1)))) xcS xbs q))
def rX {a b:Nat}(YX:a≤b)(hb:b≤x.length):(xHy x a (xjp b)).cps.toList=xj6 (x.cps.toList.drop a) b a:=by
 have h:=StrLaws.sliced_plain x YX hb;show xAf Txt.slice
 ·rename_i e
  have e':xaI (xS1 a (xjp b) 1 x.length) x.length:=by show xuX
  rw [StrLaws.strSliceIndices_plain YX hb] at e';have e2:b-a=x.length:=by simpa using e'
  have ea:a=0:=(xnY (xgQ [_,_,_,_] xJi (xa2 xDr) IO 0 hb (Ez xUk (xdE IO Sc IO Sc YX))));subst ea;have hx:x.cps.toList.length=x.length:=by simp [Str.length]
  rw [Hy,e2,<-hx,Fs]
 ·exact h
def ur (x:Str)(a:Nat):xHy x a none=xHy x a x0D:=by
 have e:xS1 a none 1 x.length=xS1 a x0D 1 x.length:=by
  unfold Builtin.Str.strSliceIndices;simp only [];congr 1;simp;omega
 show xci Txt.slice e
def iC {a b:Nat}(YX:a≤b)(hb:xhz b):xHy xoD a (xjp b)=txt (xxc a (b-a)):=by
 refine tM ?_;rw [rX YX (by show LE bj hb),dn,dn,GV,G9]
def rV {bs:Θ}{a:Nat}(ha:xhz a):xHy xoD a none=txt (bs.drop a):=by
 rw [ur,bj,iC ha Tl,<-EN,Fs]
universe L2
namespace L2
open PySem PySem.Spec PyProof.Rows QQ
structure MkB (K:Frag)(C:LV):Prop where
 makes:xxU K C
 init:xxP K xYW
 kp:xLg
def Bo (C:LV):TE:=λ _ H Q=>∀x dx,Χ x->Χ dx->dx≠x->Q xcn (xdp (xra dx x) x C dx [])
def ii (M:MkB X.K C)(hg:xka)(hm:xuQ=xiZ)(TV:xgf (x==xhu)):xpu x p [] [] (Bo C):=by
 intro L8 s σ H Q I h;show ρ (Hu (gy I hg hm ?_ TV)) (xXc M.kp ?_);have I2:=Inv.made (C:=C) I;have hq:=x1h xeh xZz xkQ (FL xna);show xQH (vz I.kIn M.makes M.init (λ self=>Looks.of_pure (PySem.W.oi_bind self)) ?_);have Y:=LC (M:=xx4) I.kIn M.makes;have e2:xk1 xAk xeh (xGK C):=by
  have:=Fw xGL (o:=xGK C) rfl
  rwa [JJ] at this
 have t1:Looks xx4 xAk (typeOf xyk) xgD:=(Looks.ld e2).andThen .now;have t2:Looks xx4 xAk (isInstance xyk xM0) true:=t1.andThen (Y.top.keeps λ b o e=>xjD xd0);show xgk (codeAny_call_builtin PySem.W.oi_plain PySem.W.entry_oi (@PySem.W.check_slot xx4 _ _ _ "object.__init__" "object" "__init__" xyk [] [] _ PySem.W.oi_kind PySem.W.oi_split t2 (PySem.W.oi_args xyk) ?_)) oi_run (E1 (And.intro rfl (xbY xyk _ I2 hq)))
universe L2
namespace L2
open PySem PyProof.Rows
theorem kS (a f):xZF xbL xwZ=(do
    let items<-Builtin.List.listItems (.ref a)
    Builtin.List.listUpdate (.ref a) λ _=>#[]
    let before<-seqEpoch a
    let held<-newTuple items.toList
    let keyStore<-newList []
    holding [held,keyStore] do
      rule "list.sort.key"
      for x in items do
        match<-(call (.ref f) [x]).attempt with
        | .ok k=>Builtin.List.listUpdate keyStore (·.push k)
        | .error e=>
          rule "list.sort.key-raised"
          let made<-Builtin.List.listItems keyStore
          Builtin.List.listUpdate keyStore λ _=>#[]
          letGo made.toList.reverse [e]
          Builtin.List.listUpdate (.ref a) λ _=>items;throw e
      let keys<-Builtin.List.listItems keyStore
      let kind<-if items.size<2 then pure general' else keyKind' keys
      let((),s)<-(if items.size<2 then pure () else sortRuns').run (SortSt.mk' kind (keys.zip items) #[] 7 none)
      let sorted:=(arrOf s).map (·.2)
      Builtin.List.listUpdate keyStore λ _=>#[]
      letGo ((arrOf s).map (·.1)).toList (failedOf s).toList
      let touched:=(<-seqEpoch a) !=before
      Builtin.List.listUpdate (.ref a) λ _=>sorted
      if let some e:=failedOf s then rule "list.sort.comparison-raised";throw e
      if touched then rule "list.sort.modified";raiseError "ValueError" "list modified during sort"
      ret .none):=by
  first|rfl|(fail "not by rfl")
def gG (a v):argsOk "list.sort" ⟨xfv,[xWZ v]⟩:=by unfold argsOk;kernel_rfl
def je (a v):argsOk "sorted" ⟨xfv,[xWZ v]⟩:=by unfold argsOk;kernel_rfl
def uy (h:xFL):IntsAre (vs++[xdK n]) (ns++[n]):=by
 induction h with
 |nil=>exact xQT n t
 |cons m u _ ih=>exact .cons m u ih
def eZ:∀v,(seqObj c xs n).data≠ xyG:=λ v h=>by cases h
def Inv.turn {σ:St}(I:SZ)(fa:xp5 a):xJ9 (xYh g):=
 I.turned (λ b o hb e=>by show xwU _ hb e) fa.1 (Ξ fa) (xqV fa) (xv4 fa) (xzr fa)
universe L2
namespace L2
open PySem PyProof.Rows QQ
def Inv.adopt {σ:St}(I:SZ)(fa:xp5 a)(rv:xvv)(hz:xow)
  (ho:xgN a (xHj n)):xij (xfS a xs) s:=by
 have hn:=fa.1;refine xV9 xfv xfi (λ b o _ _ _ e _=>e) (λ b o _ _ _ e _=>xOw e) (λ b o hb e n=>?_) (λ b o _ e=>xMm e) (xdm b ys) (λ b o u e=>?_) (λ b ps e=>xde #[]) (λ m hm=>hm) (xdm b u) I.bare
 ·show xjG hb ⟨xqV fa,Ξ fa,xv4 fa,xzr fa⟩
 ·show υ (xuw (by simp [z])) n
 ·show xgr hn e
 ·show xgr hn e
 ·rw [xkt hn,e];simp
 ·by_cases hb:b=a
  ·show xb3 hb i' e e;exact⟨hz,its,n,rv,ho⟩
  ·show π xnn e (xH4 b u e (λ c v _ q=>q) (λ c q=>by show xjv q hn q) (λ c xs q=>by show xjv q hn q))
inductive PR:xea (xhs LW LW) (xhs Int V)
 |nil:PR [] []
 |cons {k v:LW} {n:Int} {x:V} {l:xhs LW LW} {m:xhs Int V}:(∃t,k=xdK n)->xnK->PR l m->PR ((k,v)::l) ((n,x)::m)
def Cb (h:xOi ks)(g:xvv):PR xtK (ks.zip xs):=by
 induction h generalizing xs its with
 |nil=>show xib
 |cons n t _ ih=>cases g with
  |nil=>show xib
  |cons r rs=>exact .cons (xcM t) r (ih rs)
def zv (h:PR l m):Vals (m.map (·.2)) (l.map (·.2)):=by
 induction h with
 |nil=>show xib
 |cons _ r _ ih=>exact xk7 r
def B9 (h:PR l m):l.length=m.length:=by
 induction h with
 |nil=>rfl
 |cons _ _ _ ih=>exact xG8 ih
def DX (h:PR l m):∀{i:Nat} {q},xaM m q->∃t v,xaM l (xdK xbt,v):=by
 induction h with
 |nil=>intro i q hq;cases hq
 |cons e _ _ ih=>
  intro i q hq;cases i with
  |zero=>show xoH t e e hq;show xc3 (xee t _)
  |succ i=>exact ih hq
def w8 (e1:ns=xTj)(h:xIX i):xIq i=ns[i]:=by
 subst e1;rw [EA,Gk] at h;simp [numAt,h]
def vF (hc:xxy):xtE X "max" (λ xs H Q=>∃(p:LV) (ns:xoJ),xs=xbk/\xwF p xip/\xIX 0/\∀n∈ns,(∀m∈ns,xc1 m)->xku n):=by
 intro L8 s σ H xs us Q I r h;show xgW p ns rfl hq Oe q;show xlL u rx xwl rx;show xod rv pl;have hi:=xRd;show xks ys hx hi.allInts.items hl (xTU x0r) (hx▸pl.isList);have e1:ns=xTj:=by
  rw [<-nums_intItems,<-hx];exact(Ω xYO ns hi.numsOf).symm
 have hsz:ns.length=ys.size:=by show xb8 e1
 refine max_intList hc hl (EW Oe hsz) λ v h' tk hv hk=>?_
 show xc4 t (intItems_at hv);obtain⟨h1,h2⟩:=argBest_gt xIq (ys.size-1);generalize argBest (λ i j=>decide (xIq i>xIq j)) (ys.size-1)=b at*;have hb:xIX b:=(xhq [_,_,_,_] (xa2 (xag xm6)) xJf xUd (xPD h1 (xae [_,_] (xv9 xdR) Pi xaH Sc Oe (EC hsz))));have eb:=w8 e1 hb;refine xnu ns[b] (I.kept hk) ⟨t,by rw [eb]⟩ (q _ (Hc hb) (P3 m hm));show xeB j hj (List.getElem_of_mem hm);show xMl (h2 j (HP (EW hj hsz))) (w8 e1 hj) eb
universe L2
namespace L2
open PySem PySem.Spec PyProof.Rows QQ
universe L2
namespace W16
def Pc.size:xoa Pc
 | .sg _=>1
 | .cp _ z=>z
noncomputable def al (S:Fr) (p b:Nat):xbz
 |0=>0
 |m+1=>if xkb=m/\S[p+m]?=S[p+m-b]? then m+1 else xkb
theorem tN (S:Fr)(p b:Nat):∀m,xkb≤m
 |0=>Tl
 |m+1=>by
  unfold al;have:=tN S p b m
  split<;>lia
theorem m7 {S:Fr}{p b:Nat}:∀{m:Nat},∀i<xkb,S[p+i]?=S[p+i-b]?
 |0,i,h=>by simp [al] at h
 |m+1,i,h=>by
  show xzg al h h
  ·rename_i c
   by_cases e:i=m
   ·show xc3 xi5
   ·exact m7 (m:=m) i (by show LE xg6 (xJK h e))
  ·exact m7 (m:=m) i h
theorem xr {S:Fr}{p b:Nat}:∀{m:Nat},(∀i<m,S[p+i]?=S[p+i-b]?)->xkb=m
 |0,_=>rfl
 |m+1,h=>by
  show xzm al ⟨xr λ i hi=>h i (LG 1 hi),h m (Kt _)⟩
theorem yh {S:Fr}{p b r:Nat}(h:∀i<r,S[p+i]?=S[p+i-b]?)(hn:S[p+r]?≠S[p+r-b]?):∀m,r≤m->xkb=r
 |0,hm=>by
  show xgy (r=0) (xnY (xaf Τ IO xed IO xed hm));rfl
 |m+1,hm=>by
  by_cases e:r=m+1
  ·show xc3 (xr h)
  ·have ih:=yh h hn m Z5;show xci al ih
   split
   ·rename_i c
    rw [<-xg6] at c;show xaq xi5 hn
   ·rfl
def zL {S:Fr}{p b m:Nat}(h:xkb<m):S[p+xkb]?≠S[p+xkb-b]?:=by
 induction m with
 |zero=>simp [al] at h
 |succ m ih=>
  by_cases c:xkb=m/\S[p+m]?=S[p+m-b]?
  ·have e:xm2 b (m+1)=m+1:=by show xzm al c
   exact xdX [_,_] xrj (xnr IO) (Ez h xkR)
  ·have e:xm2 b (m+1)=xkb:=by rw [al,xwn]
   rw [e];by_cases q:xkb=m
   ·show LE q (On (c ⟨q,z⟩))
   ·exact ih (by have:=tN S p b m;lia)
noncomputable def lc (S:Fr) (p m:Nat):xby xfl
 |0=>(0,0)
 |n+1=>if xvc m n<xm2 (n+1) m then(n+1,xm2 (n+1) m) else xGk
theorem tI (S:Fr)(p m:Nat):∀n,xvc m n≤m
 |0=>xan
 |n+1=>by
  show xAf lc
  ·exact tN ..
  ·exact tI S p m n
theorem tF {S:Fr}{p m k:Nat}(h:xvc m k=m):∀n,xwJ->xGk=xWQ k
 |0,hk=>by
  show xgy (k=0) (xnY (xaf Τ IO xed IO xed hk));rfl
 |n+1,hk=>by
  by_cases e:k=n+1
  ·subst e;rfl
  ·have ih:=tF h n Z5;rw [lc,ih,h,ES];show xaE (tN S p (n+1) m) (Ll.mpr this)
def yF {S:Fr}{p m n:Nat}(h:S[p+xvc m n]?≠S[p+xvc m n-(n+1)]?):xWQ (n+1)=xGk:=by
 rw [lc,ES];intro c;exact h (m7 _ c)
theorem sQ {S:Fr}{p m:Nat}:∀{n:Nat},0<xvc m n->Ν xGk.1/\xc1 xGk.1/\xvc m n=xm2 xGk.1 m
 |0,h=>by simp [lc] at h
 |n+1,h=>by
  show xwi lc
  split
  ·exact xee (HS xan) Tl
  ·rename_i c
   rw [xwn] at h;show xbp a b e (sQ h) ⟨a,Gr b,e⟩
def most (S:Fr)(p:Nat):Nat:=min 18 (xrg p)
def far (p:Nat):Nat:=min 255 p
def lcAt (S:Fr)(p:Nat):xfl:=lc S p xcp xhN
def pcAt (S:Fr)(p:Nat):Pc:=if 3≤xpq then .cp xzR xpq else .sg (S.getD p 0)
def Walk (S:Fr):xby (xea xfa Nat)
 |p,[],q=>p=q
 |p,x::xs,q=>xAK/\x=xrp/\Walk S (p+x.size) xs q
theorem du {S:Fr}:∀{P:xfa} {p q:Nat},xwE P q->xiw q->xwE (P++[xGg]) (q+(xGg).size)
 | [],p,q,h,hq=>by
  cases h;exact xrc hq
 |x::P,p,q,h,hq=>⟨xb0,xng,du xu4 hq⟩
def iF {S:Fr}{p:Nat}(h:xAK):Ν xIU/\xdO (p+xIU):=by
 show xAf pcAt
 ·rename_i c
  have:=tI S p xcp xhN;show Ν xpq/\xdO (p+xpq);unfold lcAt at c ⊢;unfold most at this c ⊢;show xaj (xbn Τ xdU IO xaH IO c) (xdF [_,_,_,_,_] (xag (xD0 Sc)) (xD0 WF) xaR this (Ez xfR (xAl h)))
 ·show Ν 1/\xdO (p+1);exact xZj
theorem cY {S:Fr}:∀{P:xfa} {p q:Nat},xwE P q->p+P.length≤q
 | [],p,q,h=>by cases h;simp
 |x::P,p,q,h=>by
  have:=cY xu4;have h1:=(iF xb0).1;rw [<-xng] at h1;simp;exact(xdF [_,_,_,_] xXC xc7 xb1 this h1)
def zV {S:Fr}{p b z:Nat}(hp:xAK)(h:xrp=xzA z):xcJ/\b≤p/\xA7/\xw6/\xwN/\xdO (p+z)/\(∀i<z,S[p+i]?=S[p+i-b]?)/\(z<18->xiw (p+z)->S[p+z]?≠S[p+z-b]?):=by
 show xzg pcAt h h
 ·rename_i c
  have e1:xzR=b:=by injection h
  have e2:xpq=z:=by injection h
  rw [e2] at c;have g:=sQ (S:=S) (p:=p) (m:=xcp) (n:=xhN) (by show 0<xpq;exact(xae [_,_] (xff 3) xaR xdR IO c xUk));have l:=tI S p xcp xhN;change Ν xzR/\xzR≤xhN/\xpq=xm2 xzR xcp at g;change xpq≤xcp at l;rw [e1,e2] at g;rw [e2] at l;have hf:xhN≤255/\xhN≤p:=by unfold far;show xaj xfV xfR
  have hm:xcp≤18/\xcp≤xrg p/\(xcp=18\/xcp=xrg p):=by unfold most;lia
  refine⟨g.1,EF (Ξ g) hf.2,EF (Ξ g) hf.1,c,EF l hm.1,(xdF [_,_,_,_,_] (xaV (xD0 IO)) (xD0 WF) Pi l (Ez (Ξ hm) (xAl hp))),λ i hi=>m7 (m:=xcp) i (EM hi (EC (xbM g))),P3 h1 h2⟩;have:=zL (S:=S) (p:=p) (b:=b) (m:=xcp) (by rw [<-xbM g];lia);rw [<-xbM g] at this;exact this
 ·cases h
def zo {S:Fr}{p s:Nat}(hp:xAK)(h:xrp=xq4):xbS S p s:=by
 show xzg pcAt h h
 ·cases h
 ·show xMb h
  rw [<-h];show xQU hp
universe W16
namespace BP
def val (B:Fr):Nat:=xKL a b (a*256+b) 0
def lB (B:Fr):∀a,xKL a b (a*256+b) a=a*xiL+xhQ:=by
 induction B with
 |nil=>intro a;simp [val]
 |cons b B ih=>
  intro a;have h0:val (b::B)=b*xiL+xhQ:=by
   show xKL a b (a*256+b) (0*256+b)=_;rw [ih,Ju,Ge]
  show xKL a b (a*256+b) (a*256+b)=_;rw [ih,h0,EV,Gj,Io,FV,F2 256,FK]
def tU:val []=0:=rfl
def fX (b:Nat)(B:Fr):val (b::B)=b*xiL+xhQ:=by
 show xKL a b (a*256+b) (0*256+b)=_;rw [lB,Ju,Ge]
def jW (A B:Fr):val (A++B)=xu9*xiL+xhQ:=by
 show xRe A B (λ a b=>a*256+b) 0=_;rw [IT,lB];rfl
def NC (A:Fr)(b:Nat):val (A++xey)=xu9*256+b:=by
 show xRe A xey (λ a b=>a*256+b) 0=_;show xak IT
def Oi {B:Fr}(h:xAN):xhQ<xiL:=by
 induction B with
 |nil=>simp [val]
 |cons b B ih=>
  rw [fX,EV,Gj];have h1:=ih λ x hx=>xiP x hx
  have h2:xAS:=xl7 b;have h3:b*xiL≤255*xiL:=KI _ (F9 h2);exact(xae [_,_,_] (xnr IO) (xa2 (xkN 255)) xeF (.w WF 256) h1 h3)
def OY (n:Nat):256^n=2^(8*n):=by rw [Nat.pow_mul]
def Qi (n:Nat):0<2^n:=xgU
def vW {B:Fr}(h:xAN)(n:Nat)(hn:xgL n):val xN5=xhQ/256^(xuc n):=by
 have e:xhQ=val xN5*xMh xN3+val xN3:=by rw [<-jW,Ft]
 have hd:val xN3<xMh xN3:=Oi (xbo (h b (FU hb)))
 rw [EN] at e hd;rw [e,F2,JY xgU,Ji hd,Ig]
def um {B:Fr}(h:xAN){m n:Nat}(hmn:xc1 m)(hn:xgL n):val xAH=xhQ/256^(xuc n)%256^(n-m):=by
 have e:val xN5=val ((xN5).take m)*xMh xAH+val xAH:=by rw [<-jW,Ft]
 have hl:xaI xAH (n-m):=by rw [EN,ER];omega
 have hd:val xAH<xMh xAH:=Oi (xbo (h b (FN (FU hb))))
 rw [hl] at e hd;rw [<-vW h n hn,e,F2,LI,Gx hd]
def Xw {B:Fr}(h:xAN){p s:Nat}(hp:p+s≤xdA):
  val (xBA ((p+s+7)/8) (p/8))/2^(8*((p+s+7)/8)-(p+s))%2^s=xhQ/2^(xdA-(p+s))%2^s:=by
 have h1:p/8≤(p+s+7)/8:=(xdv 8 [_,_,_,_] (xjR (xml xc7 7)) xXH IO Sc xR3);have h2:xgL ((p+s+7)/8):=(xdv 8 [_,_,_,_] (.a xc7 xem) (xlF (xa4 xc7 7)) IO Sc (xnx hp));rw [um h h1 h2,OY,OY];have ha:8*(p/8)≤p:=(xfk xem xem xiF);have hb:p+s≤8*((p+s+7)/8):=xbn [_,_,_] (xml Pi 7) xPU Pi xbK xsp;show xqB (p/8) a ((p+s+7)/8) b;generalize B.length=n at*;show xc4 c (Iv h1);show xc4 y (Iv ha);obtain⟨x,hx⟩:=Iv hb;show xc4 z (Iv h2);rw [F3,F3,hx,F3,show 8*c=x+(s+y) by exact xcY (xaf [_,_,_,_,_] (xlM (xdh IO)) (xdf (xel (xFw xaS))) xem xui (EC hx)) [_,_,_,_,_] (xdf (xel (xFw xaS))) (xlM (xdh IO)) xui xem (EC hx.symm),show 8*(a+c+z)-(8*a+y+s)=8*z+x by exact xfU (xae [_,_,_,_,_,_,_] (xir xgT (xag (.a xPZ xD8))) (.a (xel (.a xPZ xD8)) (xlM (xdf xgT))) IO (xlF WF) (EC hx) (xeX [_,_,_,_,_] (xnh (xlF xaS)) (xlM Φ) (xnh (xlF xaS)) (xlM (xv9 Φ)) hb)) [_,_,_,_,_,_,_] (.a (xel (.a xPZ xD8)) (xlM (xdf xgT))) (xir xgT (xag (.a xPZ xD8))) (xlF WF) (EC hx.symm) τ];rw [Hh 2 x,K5,Kj,<-Hh,Hh 2 s,Nat.mod_mul_right_mod]
structure BR (N T:Nat)(B:Fr)(r k:Nat):Prop where
 tot:T=xdA+k
 num:N=xhQ*2^k+r
 low:r<2^k
 byt:xAN
def BR.init:BR 0 0 [] 0 0:=xpe rfl Z9 (xmx h h)
def BR.put {N T:Nat}{B:Fr}{r k:Nat}(h:BR N T B r k){n s:Nat}(hn:n<2^s):BR (N*2^s+n) (T+s) B (r*2^s+n) (k+s):=by
 refine⟨by show LE h.tot (FK _ _ _),?_,?_,h.byt⟩
 ·rw [h.num,Hh,Io,FV,FK]
 ·have h1:r+1≤2^k:=h.low;have h2:(r+1)*2^s≤2^k*2^s:=KI _ h1;rw [Io,Nat.one_mul] at h2;show LE Hh (xKC hn _ h2)
def BR.move {N T:Nat}{B:Fr}{r k:Nat}(h:BR N T B r (k+8)):BR N T (B++[r/2^k]) (r%2^k) k:=by
 have e:=HF r (2^k);refine⟨by rw [h.tot,EB,II];exact xcK [_,_] (xjR xEl) (xir NE Sc) [_,_] (xir NE Sc) (xjR xEl),?_,Hf _ (Qi k),xfi⟩
 ·rw [h.num,NC,Io,Hh];have:xhQ*(2^k*2^8)=xhQ*256*2^k:=by rw [F2 (2^k),<-FV]
  rw [this,FK];rw [F2 (r/2^k),e]
 ·show xbX hb hb hb
  ·exact h.byt b hb
  ·rw [xIS];show xgb h.low Hh (KJ this)
structure O8 (N T:Nat)(R:Fr):Prop where
 len:xEY ((T+7)/8)
 byt:xi4
 num:xzB=N*2^(Ο-T)
def BR.row0 {N T:Nat}{B:Fr}{r:Nat}(h:BR N T B r 0):O8 N T B:=by
 have h1:=h.low;refine Ψ (by show LE h.tot (ED (xdv 8 [_,_] (xml (xqj xem) 7) (xiD xaA) IO Sc xsp) (xdv 8 [_,_] xaA (xa4 (xqj xem) 7) Sc IO xiF))) h.byt;rw [h.num,h.tot];show xgy (r=0) (by show xur);simp
def BR.row1 {N T:Nat}{B:Fr}{r k:Nat}(h:BR N T B r k)(h0:0<k)(h8:k<8):O8 N T (B++[r*2^(8-k)]):=by
 refine Ψ (by rw [h.tot,EB,II];exact(ED (xdv 8 [_,_,_] (.a xdR (xml (xjR WF) 7)) xXH NE Sc (Ez h0 xsp)) (xdv 8 [_,_,_] (xgg xaA) (xAQ (xa4 (xjR WF) 7)) Sc NE (xnx h8)))) xfi
 ·show xbX hb hb hb
  ·exact h.byt b hb
  ·rw [xIS];have h2:r*2^(8-k)<2^k*2^(8-k):=xIC (Qi _) h.low;rw [<-Hh] at h2;have:k+(8-k)=8:=xJL h8;show π this h2 h2
 ·have e:8*xcm B [r*2^(8-k)]-T=8-k:=by rw [h.tot,EB,II];exact xfU (xcI [_,_,_,_] (xAQ (xag (xln WF))) (xLK (xlM xm6)) τ (xdE NE xiG (xlF IO) (xlM Β) h8)) [_,_,_,_] (xir xm6 Φ) (xiD (xag (xln WF))) Sc τ (xeX Τ NE xiG IO xiG h8)
  have e2:256=2^k*2^(8-k):=by
   rw [<-Hh];have:k+(8-k)=8:=xcY (xim [_,_] xaR 8 Pi (.n 8) (xeX Τ NE xiG IO xiG h8)) [_,_] xiG xaR xiG Pi τ;rw [this]
  rw [e,NC,h.num,Io,FV,<-e2]
noncomputable def cL:xbf->xbz
 | [],N=>N
 |p::ps,N=>xIV (N*2^xhZ+xaC)
def tots (ps:xbf):Nat:=(ps.map (·.2)).sum
def bZ (a b:xbf)(N:Nat):cL (a++b) N=cL b (cL a N):=by
 induction a generalizing N with
 |nil=>rfl
 |cons p a ih=>exact ih _
def aV (a b:xbf):tots (a++b)=tots a+tots b:=by simp [tots,EO,ID]
def cg (p:xfl)(b:xbf):tots (p::b)=xhZ+tots b:=by simp [tots]
def Good (ps:xbf):Prop:=xdI ps (xaC<2^xhZ)
def num (bs:Θ):Nat:=bs.foldl (λ a b=>xso (2*a)) 0
def vk (bs:Θ):∀a,bs.foldl (λ a b=>xso (2*a)) a=a*xIY 2+xRP:=by
 induction bs with
 |nil=>intro a;simp [num]
 |cons b bs ih=>
  intro a;have h0:num (b::bs)=b.toNat*xIY 2+xRP:=by
   show bs.foldl (λ a b=>xso (2*a)) (xso (2*0))=_;rw [ih,Nat.mul_zero,Ge]
  show bs.foldl (λ a b=>xso (2*a)) (xso (2*a))=_;rw [ih,h0,EV,Gj,Io,F2 2 a,FV a 2,F2 2 (xIY 2),FK]
def cR (a b:Θ):num (a++b)=num a*2^b.length+num b:=by
 show xRe a b (λ a b=>xso (2*a)) 0=_;rw [IT,vk];rfl
def Tq (a:Θ)(b:Bool):num (a++xey)=xso (2*num a):=by
 show xRe a xey (λ a b=>xso (2*a)) 0=_;show xak IT
def ix (b:Bool)(bs:Θ):num (b::bs)=b.toNat*xIY 2+xRP:=by
 have:=cR xey bs;simpa [num] using this
def Nd (bs:Θ):xRP<xIY 2:=by
 induction bs with
 |nil=>decide
 |cons b bs ih=>
  rw [ix,EV,Gj];cases b<;>simp<;>omega
def dig (n:Nat):xby Θ
 |0=>[]
 |k+1=>xnZ (n/2^k%2)::xvt k
def Mp (n k:Nat):xaI (xvt k) k:=by
 induction k with
 |zero=>rfl
 |succ k ih=>show(xvt k).length+1=k+1;rw [ih]
def dg (n k:Nat):num (xvt k)=n%2^k:=by
 induction k with
 |zero=>simp [dig,num,Nat.mod_one]
 |succ k ih=>
  show num (xnZ (n/2^k%2)::xvt k)=_;rw [ix,Mp,ih,Gj,LS];have h2:n/2^k%2<2:=xls;by_cases h:n/2^k%2=1
  ·rw [EJ h,h];simp;exact xcK [_,_] Pi xaR [_,_] xaR Pi
  ·have h0:n/2^k%2=0:=Z4;rw [FZ h,h0];simp
theorem sC:∀{A B:Fr},xfd A->xAO->A.length=B.length->xu9=xhQ->A=B
 | [],[],_,_,_,_=>rfl
 | [],_::_,_,_,h,_=>by cases h
 |_::_,[],_,_,h,_=>by cases h
 |a::A,b::B,hA,hB,hl,hv=>by
  have YR:A.length=B.length:=by simpa using hl
  rw [fX,fX,YR] at hv;have h1:xu9<xiL:=by show xba YR (Oi λ x hx=>hA x xJl)
  have h2:xhQ<xiL:=Oi λ x hx=>hB x xJl
  have p:0<xiL:=xgU;have e1:a=b:=by
   have q1:(a*xiL+xu9)/xiL=a:=by rw [F2,JY p,Ji h1,Ig]
   have q2:(b*xiL+xhQ)/xiL=b:=by rw [F2,JY p,Ji h2,Ig]
   rw [<-q1,hv,q2]
  subst e1;rw [sC (λ x hx=>hA x xJl) (λ x hx=>hB x xJl) YR (Nat.add_left_cancel hv)]
universe BP
namespace W13
noncomputable def run (a:Nat):xoa Fr
 | []=>0
 |x::xs=>xbc x a (xGW xs+1) 0
theorem kn (a:Nat):∀L:Fr,xmL xgh
 | []=>Tl
 |x::xs=>by
  unfold run;have:=kn a xs
  split<;>simp<;>assumption
theorem qP {a:Nat}:∀{L:Fr} {i:Nat},i<xgh->xaM L a
 | [],i,h=>by simp [run] at h
 |x::xs,0,h=>by
  show xzg run h h
  ·rename_i c;simp [c]
  ·exact xdX [] xdR xed h
 |x::xs,i+1,h=>by
  show xzg run h h
  ·simpa using qP (L:=xs) (i:=i) (Nat.succ_lt_succ_iff.mp h)
  ·exact xdX Τ xeH xed h
theorem rH {a:Nat}:∀{L:Fr} {n:Nat},(∀i<n,xaM L a)->n≤xgh
 | [],0,_=>xan
 | [],n+1,h=>by simpa using h 0 (xrL xdR)
 |x::xs,0,_=>xan
 |x::xs,n+1,h=>by
  have h0:x=a:=by simpa using h 0 (xrL xdR)
  rw [run,E5 h0];show xaE (rH (L:=xs) (n:=n) (λ i hi=>by simpa using h (i+1) (Nat.add_lt_add_right hi 1))) (Gb this 1)
def vX {a:Nat}{L:Fr}{n:Nat}(h:∀i<n,xaM L a)(hn:xvT L[n]? a):xgh=n:=by
 have h1:=rH h;show xbx n xgh h2 h2
 ·show xaq (qP h2) hn
 ·exact ED h2 h1
inductive Itm where
 |one (x:Nat)
 |rep (r:Nat)
def Itm.size:xoa Itm
 | .one _=>1
 | .rep r=>r
def Itm.cost:xoa Itm
 | .one _=>3
 | .rep _=>9
def Itm.next (a:Nat):xoa Itm
 | .one x=>x
 | .rep _=>a
noncomputable def Itm.puts:Itm->xbf
 | .one x=>[(x,3)]
 | .rep r=>[(7,3),(r-3,6)]
def stAt (L:Fr)(p a:Nat):Itm:=if 3≤xyg a p then .rep (xyg a p) else .one (xtd p)
def Walk (L:Fr):xmK (xk3->xux Nat)
 |p,a,[],q,b=>p=q/\a=b
 |p,a,x::xs,q,b=>xmn p/\x=xo3 p a/\xR4 (p+x.size) (x.next a) xs q b
theorem du {L:Fr}:∀{P:xk3} {p a q b:Nat},xCA L a P q b->xpV->xCA L a (P++[xo3 q b]) (q+(xo3 q b).size) ((xo3 q b).next b)
 | [],p,a,q,b,h,hq=>by
  show xpU h (xc8 hq rfl rfl)
 |x::P,p,a,q,b,h,hq=>⟨xb0,xng,du xu4 hq⟩
def lS {L:Fr}{p a:Nat}(h:xmn p):Ν (xo3 p a).size/\xmL (p+(xo3 p a).size):=by
 show xAf stAt
 ·rename_i c
  show xg7 (kn a xCS) EN;show Ν (xyg a p)/\xmL (p+xyg a p);show xaj (xbn Τ xdU IO xaH IO c) (xdF [_,_,_,_,_] (xbi (xag (xdh Sc))) (xdh xoE) xaR this (Ez xfR (xAl h)))
 ·show Ν 1/\xmL (p+1);exact xZj
theorem cY {L:Fr}:∀{P:xk3} {p a q b:Nat},xCA L a P q b->p+P.length≤q
 | [],p,a,q,b,h=>by show xBs h;simp
 |x::P,p,a,q,b,h=>by
  have h1:=cY xu4;have h2:=(lS (a:=a) xb0).1;rw [<-xng] at h2;simp;exact(xdF [_,_,_,_] xXC xc7 xb1 h1 h2)
def nxtS (a:Nat):xoa xk3
 | []=>a
 |x::xs=>nxtS (x.next a) xs
def uh {L:Fr}{p a:Nat}(hp:xmn p):(∀x,xo3 p a=.one x->xEe p 1=xIR++xcZ/\L[p]?=xas)/\(∀r,xo3 p a=.rep r->3≤r/\r≤66/\xmL (p+r)/\xEe p r=xIR++xB6 r):=by
 show xaK hle (kn a xCS) EN hle;show xAf stAt
 ·rename_i c
  refine xen (λ x h=>(by cases h)) r h;show xMb h
  have hr:r≤run a (L.drop p):=(xcI [_,_,_] xcB xcc xUF xfR);refine⟨Ku c h,xbl [_,_] Pi (xlN 66) IO 66 xUF xfV,KB (E4 hp) (EF hr hle),?_⟩;rw [KO];congr 1;apply Hg;intro i;rw [Lc,Jb]
  split
  ·rename_i hi
   exact qP (EM hi hr)
  ·rfl
 ·refine xih (P3 x h) r h (by cases h);show xMb h
  have e:L[p]?=xas:=by rw [<-h];show xQU hp
  show xaj (by rw [Ga,e];rfl) e
noncomputable def M5 (a:Nat):xk3->Fr
 | []=>[]
 | .one x::P=>x::M5 x P
 | .rep r::P=>xB6 r++M5 a P
def VF:xdq Itm
 | .one x=>x≤6
 | .rep r=>3≤r/\r≤66
theorem Qb {L:Fr}:∀{P:xk3} {p a q b:Nat},xCA L a P q b->L.take q=xIR++M5 a P
 | [],p,a,q,b,h=>by show xBs h;simp [M5]
 |x::P,p,a,q,b,h=>by
  show xjP hp hx hw h ih (Qb hw);have ht:=uh (a:=a) hp;rw [ih];cases x with
  |one y=>
   have h1:=(ht.1 y hx.symm).1;show xEe p 1++M5 y P=xIR++y::M5 y P;show xb8 h1
  |rep r=>
   have h1:=xbM (ht.2 r hx.symm).2;show xEe p r++M5 a P=xIR++(xB6 r++M5 a P);rw [h1,EE]
theorem PF {L:Fr}(hL:xqp L 6):∀{P:xk3} {p a q b:Nat},xCA L a P q b->xb6 P (VF x)
 | [],p,a,q,b,h,x,hx=>by simp at hx
 |y::P,p,a,q,b,h,x,hx=>by
  show xe6 hx hx
  ·have ht:=uh (a:=a) xb0;cases x with
   |one y=>exact hL _ (FO (ht.1 y (xng).symm).2)
   |rep r=>have:=ht.2 r (xng).symm;show xaj xDD (Ξ this)
  ·exact PF hL xu4 x hx
noncomputable def puts (P:xk3):xbf:=P.flatMap Itm.puts
def jc (P Q:xk3):puts (P++Q)=puts P++puts Q:=by simp [puts]
theorem iV:∀P:xk3,((puts P).map (·.2)).sum=xUY Itm.cost
 | []=>rfl
 | .one x::P=>by
  show((Itm.puts (.one x)++puts P).map (·.2)).sum=_;rw [EO,ID,iV P];simp [Itm.puts,Itm.cost]
 | .rep r::P=>by
  show((Itm.puts (.rep r)++puts P).map (·.2)).sum=_;rw [EO,ID,iV P];simp [Itm.puts,Itm.cost]
def VI {P:xk3}(h:xb6 P (VF x)):∀q∈puts P,xbt<2^xb7:=by
 intro q hq;show xjP x hx hq (Ly.mp hq) ok (h x hx);cases x with
 |one y=>
  have:y≤6:=ok;simp [Itm.puts] at hq;subst hq;show y<2^3;exact xo1 this
 |rep r=>
  obtain⟨h1,h2⟩:3≤r/\r≤66:=ok;simp [Itm.puts] at hq;show xj3 hq
  ·decide
  ·show r-3<2^6;omega
universe W13
namespace W17
open BP W13
def bitsP (ps:xbf):Θ:=ps.flatMap λ q=>dig xbt xb7
def bQ (q:xfl)(ps:xbf):bitsP (q::ps)=dig xbt xb7++xt0:=by simp [bitsP]
def eG (a b:xbf):bitsP (a++b)=xsj a (bitsP b):=by simp [bitsP]
theorem cI:∀ps:xbf,xaI xt0 xdb
 | []=>rfl
 |q::ps=>by rw [bQ,EB,Mp,cI ps,cg]
theorem lR:∀{ps:xbf},xQv->∀N,xIV N=N*2^xdb+num xt0
 | [],_,N=>by simp [cL,tots,bitsP,num]
 |q::ps,h,N=>by
  have h1:xbt<2^xb7:=xl7 q;have ih:=lR (ps:=ps) λ z hz=>xiP z hz
  show xIV (N*2^xb7+xbt)=_;rw [ih,bQ,cR,cI,dg,Gx h1,cg,Hh,Io,FV,FK]
def vC {ps:xbf}(h:xQv):num xt0=xIV 0:=by show xb8 (lR h 0)
noncomputable def rlF:xby (Fr->xbf)
 |0,_=>[]
 |_+1,[]=>[]
 |n+1,a::L=>(a,1+xgh)::xSI
theorem ku:∀{n m:Nat} {L:Fr},xmq n->xmq m->xPe L=rlF m L
 |0,0,_,_,_=>rfl
 |0,m+1,[],_,_=>rfl
 |0,_+1,_::_,h,_=>by show xbG
 |n+1,0,[],_,_=>rfl
 |_+1,0,_::_,_,h=>by show xbG
 |n+1,m+1,[],_,_=>rfl
 |n+1,m+1,a::L,h1,h2=>by
  have NU:xmq n:=by show xur
  have RJ:xmq m:=by show xKd
  show(a,1+xgh)::xSI=(a,1+xgh)::rlF m xBY;rw [ku (n:=n) (m:=m) (by show LE EN (EF xet NU)) (by show LE EN (xcI [_,_,_] xdQ Φ RJ xet))]
def rl (L:Fr):xbf:=rlF L.length L
def AZ:rl []=[]:=rfl
def zp (a:Nat)(L:Fr):rl (a::L)=(a,1+xgh)::rl xBY:=by
 show(a,1+xgh)::rlF L.length xBY=_;show xak (ku (n:=L.length) (m:=(xBY).length) (by show LE EN xet) Tl)
def yp {T:Fr}{b e a:Nat}(TF:b<e)(heT:xt3 e)(RI:∀j,b≤j->j<e->xbS T j a)(Yz:xvT T[e]? a):rl (T.drop b)=(a,e-b)::rl (T.drop e):=by
 have hb:b<T.length:=EM TF heT;have e1:T.drop b=a::T.drop (b+1):=by
  show xg7 (RI b Tl TF) (EI hb);rw [GG hb,Fx this]
 have e2:xGW (T.drop (b+1))=e-(b+1):=by
  refine vX (P3 i hi) ?_
  ·show LE Ik (RI _ Z5 (GF hi))
  ·rw [Ik,Ω (b+1+(e-(b+1))) e (FY TF)];exact Yz
 rw [e1,zp,e2,Gg,Ω (b+1+(e-(b+1))) e (FY TF),show 1+(e-(b+1))=e-b by exact(ED (xae [_,_,_,_] (xbi xDp) xP0 xfL Sc τ (xnd NE TF)) (xae [_,_,_,_] xPz (xrq xDp) Sc xfL τ (xAl TF)))]
def exp (rs:xbf):Fr:=rs.flatMap λ q=>xMV xbt
theorem sJ {a:Nat}:∀L:Fr,L=xB6 xgh++xBY
 | []=>rfl
 |x::L=>by
  by_cases h:x=a
  ·have e:xGW (x::L)=xgh+1:=by rw [run,xvU]
   rw [e,Gm,List.drop_succ_cons,Ir,<-sJ L,h]
  ·have e:xGW (x::L)=0:=by rw [run,xvV]
   show xak e
theorem tq:∀{n:Nat} {L:Fr},xmq n->exp (xPe L)=L
 |0,[],_=>rfl
 |0,_::_,h=>by show xbG
 |n+1,[],_=>rfl
 |n+1,a::L,h=>by
  have h':xmq n:=by show xuY
  show xou 1 xgh a++exp xSI=_;rw [tq (by show LE EN (EF xet h')),Ix,Gm,Ir,<-sJ]
def my (L:Fr):exp (rl L)=L:=tq Tl
theorem sr:∀{n:Nat} {L:Fr},∀q∈xPe L,xFF/\xmL xb7/\xbt∈L
 |0,_,q,h=>by cases h
 |n+1,[],q,h=>by cases h
 |n+1,a::L,q,h=>by
  have hr:=kn a L;show xe6 (xlf q ((a,1+xgh)::xSI) h) h
  ·exact⟨by show Ν (1+xgh);exact Fg 1 _,by show xro (1+xgh) (a::L);show LE EV (xbn [_,_] IO Sc xfL Β hr),E7⟩
  ·obtain⟨h1,h2,h3⟩:=sr q h;show π EN h2 ⟨h1,by show LE EV (xae [_,_,_] xcB xcc IO Β h2 xet),xmC (FU h3)⟩
def rC {L:Fr}{q:xfl}(h:q∈rl L):xFF/\xmL xb7/\xbt∈L:=sr q h
def xA (q:xfl)(b:xbf):exp (q::b)=xMV xbt++exp b:=by simp [exp]
def pR (rs:xbf):xbf:=rs.flatMap λ q=>[(xb7-1,6),(xbt,8)]
def vp (a b:xbf):pR (a++b)=pR a++pR b:=by simp [pR]
def jm (q:xfl)(b:xbf):pR (q::b)=(xb7-1,6)::(xbt,8)::pR b:=by simp [pR]
noncomputable def pf:Bool->Fr->xbf
 |false,T=>xQg s (s,8)
 |true,T=>pR xlc
theorem gF:∀{rs:xbf},(∀q∈rs,xFF)->xro rs.length xQh
 | [],_=>Tl
 |q::rs,h=>by
  have h1:=xl7 q;have ih:=gF (rs:=rs) λ z hz=>xiP z hz
  rw [xA,EB,Fd,EV];exact(xae [_,_,_] xfL Φ NE Φ h1 ih)
theorem jo:∀rs:xbf,xmH rs=14*rs.length
 | []=>rfl
 |q::rs=>by rw [jm,cg,cg,jo rs,EV];show 6+(8+14*rs.length)=_;exact xcK Τ (xaZ 6 (xAQ (xgH 14))) (.m 14 NE) Τ (.m 14 NE) (xaZ 6 (xAQ (xgH 14)))
theorem cy:∀T:Fr,tots xnA=xRf 8
 | []=>rfl
 |s::T=>by
  show tots ((s,8)::xnA)=_;rw [cg,cy T,EV];show 8+xRf 8=_;exact xcK Τ (xAQ xem) xP5 Τ xP5 (xAQ xem)
def tE (u:Bool)(T:Fr):tots (pf u T)≤xRf 14:=by
 cases u with
 |false=>show LE cy (xmv xem (xgH 14))
 |true=>
  show xmH xlc≤_;rw [jo];show xgb (gF (rs:=xlc) λ q hq=>(rC hq).1) my (xlB this)
def zU {rs:xbf}(h:∀q∈rs,xFF/\xfY xb7/\xch xbt):Good (pR rs):=by
 intro z hz;obtain⟨q,hq,hz⟩:=Ly.mp hz;obtain⟨h1,h2,h3⟩:=h q hq;simp at hz;show xj3 hz
 ·show xb7-1<2^6;omega
 ·show xbt<2^8;assumption
def wR {T:Fr}(hT:xvs)(hb:xe3 T):∀q∈xlc,xFF/\xfY xb7/\xch xbt:=λ q hq=>by
 show xbp h1 h2 h3 (rC hq) ⟨h1,EF h2 hT,xzz h3⟩
def sH (u:Bool){T:Fr}(hT:xvs)(hb:xe3 T):Good (pf u T):=by
 cases u with
 |false=>
  intro z hz;show xeB s hs (Hk.mp hz);exact hb s hs
 |true=>exact zU (wR hT hb)
universe W17
namespace K30
open PySem L2 QQ W17 W16
seal PE PA PS PSs PT PW PG PI
noncomputable def top (i:Nat):L7:=PySem.Challenge.pw_balepress_k30_whole_read_by_the_document.main.body.getD i (.Pass ⟨0,0,0,0⟩)
abbrev mW:L7:=top 19
abbrev cm:L7:=top 20
abbrev cD:L7:=top 21
abbrev jQ:L7:=top 22
abbrev ca:L7:=top 23
abbrev cN:L7:=top 26
abbrev gz:L7:=top 27
abbrev d7:L7:=top 70
abbrev oa:L7:=top 71
abbrev j9:L7:=top 72
abbrev iW:L7:=top 73
abbrev kc:L7:=top 74
abbrev dF:L7:=top 79
abbrev gQ:L7:=top 80
abbrev kx:L7:=top 84
abbrev iG:L7:=top 85
abbrev kP:L7:=top 86
abbrev gs:L7:=top 45
abbrev tV:L7:=top 46
abbrev im:L7:=top 47
abbrev kz:L7:=top 48
abbrev m8:L7:=top 49
abbrev j7:L7:=top 50
abbrev xw:L7:=top 52
abbrev fU:L7:=top 53
abbrev ik:L7:=top 54
abbrev fk:L7:=top 61
abbrev mf:L7:=top 62
abbrev iJ:L7:=top 63
abbrev rN:L7:=top 64
abbrev gP:L7:=top 65
abbrev kj:L7:=top 82
abbrev iL:L7:=top 83
abbrev jM:L7:=top 87
abbrev kM:L7:=top 88
abbrev se:L7:=xql 29
abbrev BQ:L7:=xqk 29
abbrev sG:L7:=xs9 29
abbrev vZ:L7:=xjo 29 3
abbrev nr:L7:=xjo 29 4
abbrev sCInit:L7:=xql 55
abbrev wu:L7:=xqk 55
abbrev fV:L7:=xs9 55
abbrev wx:L7:=xjo 89 3
abbrev mh:L7:=xs9 93
abbrev mI:L7:=xqk 93
abbrev iX:L7:=xql 93
abbrev iw:L7:=top 81
abbrev gD:L7:=xql 90
abbrev jK:L7:=xqk 90
abbrev jG:L7:=xs9 90
abbrev gL:L7:=xql 91
abbrev jR:L7:=xqk 91
abbrev kC:L7:=xs9 91
abbrev gi:L7:=xql 92
abbrev iK:L7:=xqk 92
abbrev iz:L7:=xs9 92
abbrev x6:L7:=top 94
abbrev jH:L7:=top 95
abbrev vN (n:Nat):V:=.int xb4
structure Txt (K:Frag)(mg:Α):Prop where
 isi:xk6 "isinstance"
 bool:xk6 "bool"
 int:xk6 "int"
 list:xk6 "list"
 len:xk6 "len"
 range:xk6 "range"
 max:xk6 "max"
 min:xXs
 great:∃t,mg "GREATEST"=xcz 255
 most:∃t,mg "MOST_SIZE"=xcz 24
 signs:∃t,mg "MOST_SIGNS"=xcz 64
 ahead:∃t,mg "MOST_AHEAD"=xcz 192
 far:∃t,mg "FARTHEST"=xcz 255
 least:∃t,mg "LEAST_COPIED"=xcz 3
 mostC:∃t,mg "MOST_COPIED"=xcz 18
 sum:xk6 "sum"
 enum:xk6 "enumerate"
 sort:xk6 "sorted"
 bits:∃t,mg "MOST_BITS"=xcz 6
 mlen:∃t,mg "MOST_LENGTH"=xcz 12
 things:∃t,mg "MOST_THINGS"=xcz 300
 count:∃t,mg "MOST_COUNT"=xcz 1000000
 many:∃t,mg "MANY"=xcz 272
 again:∃t,mg "AGAIN"=xcz 7
 leastA:∃t,mg "LEAST_AGAIN"=xcz 3
 mostA:∃t,mg "MOST_AGAIN"=xcz 66
 first:∃t,mg "FIRST_COPY"=xcz 256
 isnumb:∃(f:LV) (fd:L0),xaL "is_number" "is_number" mW/\mg "is_number"=xeL/\xlh Jag
structure Fn (K:Frag)(mg:Α)(x:Str)(st:L7)(ps:xaO)(f:LV)(fd:L0):Prop where
 F:xaL x x st
 m:xwo=xeL
 b:xps
structure Me (K:Frag)(C:LV)(x qual:Str)(st:L7)(ps:xaO)(f:LV)(fd:L0):Prop where
 F:xaL x qual st
 m:xrM K x f
 b:xps
def ay {X:Cx}{pos:Pos}(F:xHE Mq k f fd ps sp)(hr:xp1)(M:Fn X.K X.mg x st ps f fd)(ha:xsI)(hg:xal xka)(TV:xgf (x==xhu))(he:xal (xpt=xi6::xpp))(Od:xtc):xpu x p xew [] (sP sp [] E0 t):=ci F hr hg M.m M.F.kp M.b .nil bf ha TV he Od
def bh {X:Cx}{pos:Pos}{pl:xDe}(he:xAR)(c:xA0)(M:Me X.K C m qu st ps f fd)(F:xHE Mq k f fd ps sp)(hr:xp1)(ha:xsI)(OR:xal (xpt=xi6::xpp))(Od:xtc)(ht:xal (xGA o m xew=(do
      let ov<-xsb
      xBN
      let xEw f<-xBZ [ov] ov m pl
      xDM f (xua xew) xFX))):xGB o m xew (pc C m sp [] E0 ta t):=mJ he c M.m F hr M.b .nil bf ha OR Od ht
def bG {X:Cx}{pos:Pos}{pl:xDe}(he:xAR)(c:xA0)(M:Me X.K C m qu st ps f fd)(F:xHE Mq k f fd ps sp)(hr:xp1)(ht:xal (xGA o m []=(do
      let ov<-xsb
      xBN
      let xEw f<-xBZ [ov] ov m pl
      xDM f xJW xFX))):xGB o m [] (pc C m sp [] E0 ta kU):=wr he c M.m F hr M.b .nil bf ht
def aG {X:Cx}{e:L5}{te:TE}{p pos:Pos}(hm:xqT "len")(he:xwL)(hg:xal (xCL "len"))(h1:xal (xkH [e]=xi6::xkH [])):=bw (p:=p) (pos:=pos) (he:=h1) eM hg hm JI (aa (hs:=h1) he af)
section
variable (K:Frag)
def BH:Tm (xXe xHl (.type "bool")) false:=by
 show xJF (Tm (if(Value.type "int"==Value.type "bool")=true then some true else if kitMeta "bool"=true then(fastBuiltinMro "int").map (·.contains (.type "bool")) else none) false)
def B4:xrw (xXe xHl xHl):=by
 show xJF (xrw (if(Value.type "int"==Value.type "int")=true then some true else if kitMeta "int"=true then(fastBuiltinMro "int").map (·.contains (.type "int")) else none))
def wa:xrw (xXe xxA xxA):=by
 show xJF (xrw (if(Value.type "list"==Value.type "list")=true then some true else if kitMeta "list"=true then(fastBuiltinMro "list").map (·.contains (.type "list")) else none))
universe s
def MU:vN x=xsx<->x=y:=by
 constructor
 ·intro h;show xMb h
  exact KN.mp h
 ·show xl9;rfl
def dE {S:Fr}(h:xiw i):xaU (xoi)=UV S[i]:=by simp [h]
def cz {B:Fr}{i:Nat}(h:xaM (xeC) y):∃b,xaM B b/\y=xd6:=by
 rw [FA] at h;cases e:xaU B with
 |none=>show W1 e h h
 |some z=>show π e h (xf2 z (xIW h))
def bO {B:Fr}(h:xaM B b):B.take (i+1)=xqK++xey:=by rw [Ga,h];rfl
def aW (h:xiX n):xcN n:=xdj h
def bz (h:xiX n):xGS n:=xo1 h
inductive N4 (vs:M2) (H:Hp) (Q:VK) (Ml:XK):Prop
 |mk (i lo hi:Int) (h0:vs=[xcq,.int lo,xuq]) (h1:xgv (xhH lo i&&xhH i hi)):N4 vs H Q Ml
def zH:ST Jab Jab cm:=Os
inductive Xa (vs:M2) (H:Hp) (Q:VK) (Ml:XK):Prop
 |mk (x:V) (b:Bool) (h0:vs=xcZ) (h1:((∃i,x=xcq)/\SL b)) (h2:xgv b):Xa vs H Q Ml
def AK:ST Jag Jag mW:=Os
def zA (F:xaL "is_number" "is_number" mW)(T:xbN):xam 0 Jag Xa:=by
 refine F.ok0 AK λ L9 A outer s H vs Q E h=>?_
 intro _;show xeE x b hw k h;refine xjK (xKM (xw3 gW T.isi Iw PP (jq (v:=.ty "int") Z7 T.int Jw rfl)) (Cc (xw3 gW T.isi Iw PP (jq (v:=.ty "bool") Z7 T.bool PyProof.Rows.boot_bool rfl))));obtain⟨⟨i,rfl⟩,rfl⟩:=hw;refine⟨_,rfl,_,_,_,_,rfl,.int _,B4 K,_,rfl,xjY⟩;exact⟨_,rfl,_,_,_,_,rfl,.int _,BH K,_,rfl,k⟩
def fJ (F:Δ "is_whole" cm Jab)(T:xbN):xdl Jab N4:=by
 obtain⟨fN,TJ,NF,Nm,Nb⟩:=T.isnumb;show xau zH (λ L9 A outer s H vs Q E hr h=>?_);obtain⟨i,lo,hi,rfl,k⟩:=h;show xax (xbh (xKM (xwk (zA NF T) Nm NF.kp Nb bf xoQ) (pQ kX kX No PP Ps))) ⟨_,rfl,_,true,rfl,xcM (xcM i),_,rfl,xjY⟩;show ρ ⟨_,rfl,_,rfl,_,_,rfl,rfl,_,rfl,?_⟩ xj5
 ·refine xwc;rw [h1,Bool.true_and] at k;exact k
 ·have h2:Μ (xhH lo i):=by show xur
  rw [h2,LQ] at k;exact k
inductive Qu (vs:M2) (H:Hp) (Q:VK) (Ml:XK):Prop
 |mk (a:LV) (B:Fr) (lo hi:Int) (h0:vs=[Γ,.int lo,xuq]) (h1:UF=xfQ) (h2:(xbQ B (lo≤xd4/\xd4≤hi))) (h3:xgv true):Qu vs H Q Ml
def Qy:ST ["thing","least","most","number"] Jab cD:=Os
def fF (F:Δ "are_whole" cD Jab)(W:xF6)(T:xbN):xsA Jab Qu:=by
 have GW:xp7 fW QO Jab N4:=fJ W T;show xau Qy (λ L9 A outer s H vs Q E hr h=>?_);obtain⟨a,B,lo,hi,rfl,hB,hb,k⟩:=h;show xgY (ab (xE1 (xqM (xw3 gW T.isi Iw PP (jq (v:=.ty "list") Z7 T.list Gh rfl))) et az)
  (xjM (xnc PP 3 Qy.nd (ac (xE1 (xqM (xfe GW hr W TD No Ps)) et az))) et)) ⟨_,rfl,_,_,_,_,rfl,.lst hB,wa K,_,rfl,xiS⟩ (xvg a hB (xn4 K a xeC (λ i σ H2=>∃v,σ=[xaQ,xio lo,xio hi,v]/\H2=H) xC2 (λ i σ H2 _ z9=>by show xCr e;exact by show xfs xC6) ?_ ?_))
 ·rintro i y σ H2 hi ⟨v,rfl,rfl⟩;show xlv b MR hi;show xck h2 h3 xSF ⟨_,rfl,_,rfl,_,rfl,_,_,_,rfl,_,rfl,?_⟩;rw [EJ h2,EJ h3];exact aS xPm
 ·show xwp σ H2 v rfl;exact k
inductive UZ (vs:M2) (H:Hp) (Q:VK) (Ml:XK):Prop
 |mk (a:LV) (B:Fr) (h0:vs=xbL) (h1:UF=xfQ) (h2:xAO) (h3:xgv true):UZ vs H Q Ml
def yK:ST Jag Jag jQ:=Os
structure Rows (K:Frag)(mg:Α):Prop where
 X:xbN
 whole:xMf
 arewhole:xWB cD Jab
 isrow:Wp "is_row" jQ Jag
def wm (F:Δ "is_row" jQ Jag)(Y:xlX):xam 3 Jag UZ:=by
 obtain⟨T,⟨_,_,W⟩,⟨_,_,AW⟩,_⟩:=Y;show xhU tg hg T.great yK (λ L9 A outer s H vs Q E hr h=>?_) _;show xgW a B rfl hB hb k;refine xjK (xfe (fF AW W T) hr AW PP ad (xbw 255 hg tg));exact⟨_,rfl,a,B,0,255,rfl,hB,λ b z=>by have:=xj4 z;show xaj xu5 (xj9 (xfN NE 256 IO 255 this)),k⟩
inductive spNeedRow (vs:M2) (H:Hp) (Q:VK) (Ml:XK):Prop
 |mk (a:LV) (B:Fr) (h0:vs=xbL) (h1:UF=xfQ) (h2:xAO) (h3:∀l,Ι->xww (xlS xeC)):spNeedRow vs H Q Ml
def u6:ST Jag Jag ca:=Os
def bU (F:Δ "need_row" ca Jag)(Y:xlX):xam 4 Jag spNeedRow:=by
 show xjP fR fdR R Y.isrow T Y.X;show xau u6 (λ L9 A outer s H vs Q E hr h=>?_);show xgW a B rfl hB hb k;show xax (xjM (xCP (xd2 (wm R Y) R PP)) (bu bp Z7 T.list Gh xoQ)) ⟨_,rfl,a,B,rfl,hB,hb,_,rfl,xiS⟩;exact xrQ a hB k
inductive spNeedSize (vs:M2) (H:Hp) (Q:VK) (Ml:XK):Prop
 |mk (s:Nat) (h0:vs=xwA) (h1:s≤24) (h2:xlj H):spNeedSize vs H Q Ml
def qI:ST Jai Jai cN:=Os
def i8 (F:Δ "need_size" cN Jai)(W:xF6)(T:xbN):xsA Jai spNeedSize:=by
 have GW:xp7 fW QO Jab N4:=fJ W T;show xhU tg hg T.most qI (λ L9 A outer s H vs Q E hr h=>?_) _;show xo6 z rfl hz k;show xax (ac (xCP (xfe GW hr W PP ad (xbw 24 hg tg)))) ⟨_,rfl,_,_,_,rfl,_,rfl,?_⟩;have e1:SL (xhH xcU (XV z)&&xhH (XV z) 24):=by
  rw [xrR,EJ (by exact LK rfl rfl hz)];rfl
 show LE e1 (aS k)
inductive spOnes (vs:M2) (H:Hp) (Q:VK) (Ml:XK):Prop
 |mk (s:Nat) (h0:vs=xwA) (h1:xbC s) (h2:xn2 (2^s-1)):spOnes vs H Q Ml
def AX:ST Jai Jai gz:=Os
def mY (F:Δ "ones" gz Jai):xdl Jai spOnes:=by
 show xau AX (λ L9 A outer s H vs Q E hr h=>?_);show xo6 z rfl hz k;show xax (xbh (xlu (xFO PP))) ⟨_,rfl,_,_,rfl,rfl,⟨xd1,xQ6 1000 hz,Z9⟩,_,_,rfl,rfl,?_⟩;have e1:xcv*2^xCF z-1=LT (2^z-1):=by
  have:=BP.Qi z;rw [E2,Int.one_mul];have e2:LT (2^z)=XV 2^z:=Z6;exact xmy this
 try dsimp only
 show LE e1 k
def pi (a b k)(h:b<2^k):(a*2^k)&&& b=0:=by
 have e1:b&&& (2^k-1)=b:=by rw [I0,Gx h]
 have e2:(a*2^k)&&& (2^k-1)=0:=by rw [I0,Nat.mul_mod_left]
 have e3:(a*2^k)&&& (b&&& (2^k-1))=((a*2^k)&&& (2^k-1))&&& b:=by rw [Nat.and_comm b,Nat.and_assoc]
 rw [e1,e2,Nat.zero_and] at e3;exact e3
def kL (k):LT (2^k)=XV 2^k:=Z6
def qL (a b k:Nat)(h:b<2^k):Builtin.bitOr (XV a*2^xCF k) xpx=LT (a*2^k+b):=by
 have e0:XV a*2^xCF k=LT (a*2^k):=by rw [E2,Int.natCast_mul,kL]
 rw [e0,PyProof.Rows.bitOr_and,Kl (Fu (_*2^_)) xd1,E2,E2,pi a b k h];exact Ih ((λ {a b}=>Int.neg_inj.mp) rfl)
def eh (x k:Nat):xTC x (LT (2^k-1))=LT (x%2^k):=by
 rw [Kl xd1 Z5,E2,E2,I0]
def gk (x k:Nat):XV x/2^xCF k=LT (x/2^k):=by
 rw [E2,<-kL];rfl
def eV (x k:Nat):XV x*2^xCF k=LT (x*2^k):=by
 rw [E2,Int.natCast_mul,kL]
def y9 {B:Fr}(hm:xc1 m)(hn:xgL n):xmN xeC m (xjp n)=Ρ xAH:=by
 unfold cutV;rw [HT.M6,HT.M6,EA,FR hn,FR (EF hm hn),G9,GV,List.drop_take]
inductive OH (vs:M2) (H:Hp) (Q:VK) (Ml:XK):Prop
 |mk (a:LV) (B:Fr) (p s:Nat) (h0:vs=[Γ,xke,xcV]) (h1:UF=xfQ) (h2:xAO) (h3:p+s≤xdA) (h4:s≤24) (h5:xez (Κ->xmZ (xWj/2^(xdA-(p+s))%2^s))):OH vs H Q Ml
def vY:¬(xSS="rest"):=Z8
def pE:¬(xSS="rest_size"):=Z8
def y8:¬(xIt="rest_size"):=Z8
noncomputable def fW (d:LV) (r k:Nat):xfn:=[("whole_bytes",xlg),("rest",vN r),xOQ (vN k)]
def Aq (d):x0a xon (putF "rest" xon (xUf d []))=xoN 0 0:=by
 show(x0a xon (xSA xv6 [("rest",xek)]))=_;rw [xKX];show(xWE xv6 (xcW "rest" "rest_size" (xIt,xek) [xOQ xek]))=_;rw [xzC,ES y8];rfl
def uf (d)(r k r'):xe1 "rest" r' xj2=xoN r' k:=by
 show(xSA xv6 (xik "rest" "rest" ((xIt,vN r'):: [xOQ (vN k)]) _))=_;rw [xKX,xai];rfl
def sM (d)(r k k'):xe1 "rest_size" k' xj2=xoN r k':=by
 show(xWE xv6 (xcW "rest" "rest_size" (xIt,vN r) (xik "rest_size" "rest_size" [(xcx "rest_size",vN k')] _)))=_;rw [xzC,ES y8,xai];rfl
def ud (d)(r k):xj2=xe1 "rest_size" k (xe1 "rest" r (xUf d [])):=by
 have h:=Aq d;have h2:xe1 "rest" r (xUf d [])=[xv6,("rest",vN r)]:=by
  show(xSA xv6 [("rest",vN r)])=_;rw [xKX]
 rw [h2];show _=(xWE xv6 (xcW "rest" "rest_size" (xIt,vN r) [xOQ (vN k)]));rw [xzC,ES y8];rfl
def jZ (d)(r k):xds xj2 "whole_bytes"=xhd:=by
 rw [ud,ap,xzC,ap,xKX,ap,xai]
def ij (d)(r k):xds xj2 "rest"=UV r:=by
 rw [ud,ap,ES y8,ap,xai]
def c4 (d)(r k):xds xj2 "rest_size"=UV k:=by
 rw [ud,ap,xai]
def dO (d)(r k){m:Str}(h1:xl8 "rest_size")(h2:xl8 "rest")(h3:xl8 "whole_bytes"):xmt xj2 m:=by
 rw [ud,ap,xpg,ap,xno,ap,ES h3];rfl
def ml (d)(r k):xFr xj2:=by show xdi 3
def Mt (C:LV)(H:Hp)(p d:LV)(N T:Nat):Prop:=∃dx B r k,xbF=xLw/\H d=xfQ/\BP.BR N T B r k/\k<8
structure CB (K:Frag)(mg:Α)(C:LV):Prop where
 cl:xhm
 nW:xdC "whole_bytes"
 nR:xdC "rest"
 nS:xdC "rest_size"
inductive U3 (C:LV) (vs:M2) (H:Hp) (Q:VK) (Ml:XK):Prop
 |mk (p dx:LV) (h0:vs=xbk) (h1:xbF=xzN) (h2:∀(d:LV) (H':Hp),xAJ->Mt C H' p d 0 0->xdH (∀b o,xaN=Id->xhn->xeN=Id)):U3 C vs H Q Ml
def yC:xdW se:=Os
def oW (F:x0M se)(T:CB K mg C):xh5 (U3 C):=by
 show xao yC (λ L9 A outer s H vs Q E hr h=>?_);show xeE p dx hp k h;show xax (xeo xe8 (xu2 ad ad)) (xen xan d hd);have Pj:xGE:=xrY hd;show ρ ⟨_,rfl,p,C,dx,[],rfl,(by show υ Pj hp),T.cl,T.nW,(by show xdi 0),_,rfl,p,C,dx,_,rfl,i',T.cl,T.nR,(by show xdi 1),?_⟩ ⟨_,rfl,p,C,dx,_,rfl,i',T.cl,T.nS,?_,?_⟩
 ·show xFr (xSA xv6 [("rest",xek)])
  try dsimp only
  rw [xKX];show xdi 2
 refine k d _ hd ⟨dx,[],0,0,LU i' (xyw l (xIZ C l) (Aq d)),by rw [xoz,xoz,xoz,i'];rfl,BP.BR.init,Z9⟩ λ b o e hb=>?_
 rw [xnn,xnn,xnn,xkt hd];exact e
inductive spMove (C:LV) (vs:M2) (H:Hp) (Q:VK) (Ml:XK):Prop
 |mk (p d dx:LV) (B:Fr) (r k:Nat) (h0:vs=xbk) (h1:xbF=xdx (xoN r (k+8))) (h2:H d=xfQ) (h3:xNY) (h4:k≤100) (h5:xez (xwq=xdx (xoN (r%2^k) k)->H' d=xkx B [r/2^k]->xdH (∀c o,ω=Id->xaD->xgs->xaY=Id))):xVK vs H Q Ml
def AM:xdW sG:=Os
def yy (F:xaL "move_byte" "BitRow.move_byte" sG)(O:xL7)(T:CB K mg C):xgJ 2 xVK:=by
 have GO:xp7 fO Y4 Jai spOnes:=mY O;show xao AM (λ L9 A outer s H vs Q E hr h=>?_);obtain⟨p,d,dx,B,r,k,rfl,hp,hd,hB,hk,q⟩:=h;have Pj:xGE:=xKY hd (by show Υ);refine xca (xeo (xlu Ζ) (xej (xw2 Ζ (xzJ Ζ Ζ)) (xDc (ak iD Ζ (xd2 GO O Ζ)))))
 have e1:XV (xgw (k+8))-8=xnw:=Int.sub_eq_iff_eq_add.mpr rfl;refine⟨_,rfl,p,C,dx,_,_,rfl,hp,T.cl,T.nS,xwV,_,_,rfl,rfl,_,rfl,p,C,dx,_,rfl,hp,T.cl,T.nS,ml _ _ _,?_⟩
 try dsimp only
 rw [e1,sM];have MW:(xfm H xj2) p=xLw:=i';have hd1:(xfm H xj2) d=xfQ:=by show υ Pj.symm hd
 show xnm ⟨_,rfl,p,C,dx,_,_,rfl,MW,T.cl,T.nW,jZ _ _ _,xhj hd1,?_⟩ ⟨_,rfl,p,C,dx,_,_,rfl,MW,T.cl,T.nR,ij _ _ _,_,rfl,p,C,dx,_,_,rfl,MW,T.cl,T.nS,xwV,_,_,rfl,rfl,xu5,?_⟩ (xdc d _ _ rfl hd1 (lP (by show xaT hB)) ?_)
 try dsimp only
 rw [gk];generalize hH2:xbP (xfm H xj2) d (xeC++[vN (r/2^k)])=H2;have ME:H2 p=xLw:=by rw [<-hH2,ai Pj];exact MW
 have hd2:H2 d=xkx B [r/2^k]:=by rw [<-hH2,i',EO];rfl
 have RH:∀c o,ω=Id->xaD->xgs->xh2=Id:=λ c o e n1 n2=>by rw [<-hH2,ai n2,ai n1];exact e
 refine⟨_,rfl,p,C,dx,_,_,rfl,ME,T.cl,T.nR,ij _ _ _,_,rfl,p,C,dx,_,_,rfl,ME,T.cl,T.nS,xwV,k,rfl,xdj hk,_,_,rfl,rfl,?_⟩
 try dsimp only
 show Uf eh ⟨_,rfl,p,C,dx,_,rfl,ME,T.cl,T.nR,ml _ _ _,?_⟩
 try dsimp only
 show Uf uf (q _ i' (by show υ Pj.symm hd2) λ c o e n1 n2=>?_)
 show υ n1 (RH c o e n1 n2)
inductive Zj (C:LV) (vs:M2) (H:Hp) (Q:VK) (Ml:XK):Prop
 |mk (p d:LV) (N T n s:Nat) (h0:vs=[xbV,xcG,xcV]) (h1:xn7 C T) (h2:T≤4000) (h3:s≤24) (h4:n<2^s) (h5:xez (Mt C H' p d (N*2^s+n) (T+s)->xdH (∀c o,ω=Id->xaD->xgs->xaY=Id))):Zj C vs H Q Ml
def DV:ST xOA xOA BQ:=Os
def jT (F:xaL "put" "BitRow.put" BQ)(S:x05 cN Jai fS fdS)(W:xOn fW' QO)
  (O:xL7) (M:Me K C "move_byte" "BitRow.move_byte" sG Jaa fM fdM) (T:CB K mg C) (X:xbN):xam 3 xOA (Zj C):=by
 have GO:xp7 fO Y4 Jai spOnes:=mY O;have GW:xp7 fW' QO Jab N4:=fJ W X;have GS:xrF 2 fS fdS Jai spNeedSize:=i8 S W X;have GM:xrF 2 fM fdM Jaa xVK:=yy M.F O T;show xao DV (λ L9 A outer st H vs Q E hr h=>?_);obtain⟨p,d,N,T',n,s,rfl,⟨dx,B,r,k,hp,hd,br,ZK⟩,hT,hs,hn,q⟩:=h;have Pj:xGE:=xKY hd (by show Υ);have Mw:xbg:=Ty;show xgY (xej (xd2 GS S Ps) (xR6 (xfe GW Mw W No ad (xl5 GO O Ps)) (xeo (ak xj (xLr Ζ Ps) No) (xeo (xbv Ζ Ps) (ac (xoP (xlk lH Ζ) (xqP (xKw PP M GM hr)))))))) (xkr s hs ?_) ⟨_,rfl,_,rfl,s,rfl,(xlO 24 1000 hs),_,_,_,rfl,_,rfl,?_⟩;have e1:SL (xhH xcU xay&&xhH xay (LT (2^s-1))):=by
  rw [EJ xd1,xrR];rfl
 try dsimp only
 show xs5 xiS;have hr128:r<128:=EM br.low ((xiT (F9 ZK):2^k≤2^7));refine⟨_,rfl,p,C,dx,_,_,rfl,hp,T.cl,T.nR,ij _ _ _,_,rfl,_,_,rfl,rfl,⟨xd1,xQ6 24 hs,Z4⟩,_,rfl,_,_,rfl,rfl,?_⟩
 try dsimp only
 show Uf (qL r n s hn) ⟨_,rfl,p,C,dx,_,rfl,hp,T.cl,T.nR,ml _ _ _,?_⟩
 try dsimp only
 rw [uf];have MW:∀o,(xe4 p o) p=Id:=λ _=>i'
 refine⟨_,rfl,p,C,dx,_,_,rfl,MW _,T.cl,T.nS,xwV,_,rfl,_,_,rfl,rfl,_,rfl,p,C,dx,_,rfl,MW _,T.cl,T.nS,ml _ _ _,?_⟩;have e2:xnw+XV s=LT (k+s):=(xjy [_,_] Pi Pi [_,_] Pi Pi)
 try dsimp only
 rw [e2,sM];have br1:=br.put hn;generalize hH1:xfm (xfm H (xoN (r*2^s+n) k)) (xoN (r*2^s+n) (k+s))=H1;have hpA:H1 p=xdx (xoN (r*2^s+n) (k+s)):=by show xba hH1 i'
 have hdA:H1 d=xfQ:=by rw [<-hH1,xoz,xoz];exact hd
 have RH:∀c o,ω=Id->xaD->xgs->H1 c=Id:=λ c o e n1 _=>by rw [<-hH1,ai n1,ai n1];exact e
 refine Ψ (λ m σ H2=>σ=[xfX,xhk,xi0]/\∃B2 r2,H2 p=xdx (xoN r2 m)/\H2 d=XL (B2.map vN)/\BP.BR (N*2^s+n) (T'+s) B2 r2 m/\m≤40/\(∀c o,ω=Id->xaD->xgs->xh2=Id)) ⟨k+s,rfl,B,_,hpA,hdA,br1,(xgQ [_,_] NE (xiD (.n 24)) Pi 40 hs ZK),RH⟩
 rintro m σ H2 ⟨rfl,B2,r2,ME,hd2,br2,hm,oth2⟩;show ρ ⟨_,rfl,p,C,dx,_,_,rfl,ME,T.cl,T.nS,xwV,_,_,rfl,rfl,_,rfl,?_⟩ xj5
 ·have h8:8≤m:=by show xaE xt8 (xbn Τ xiG IO xiG IO (x0s this))
  show xhi m' m' (m=m'+8) ⟨m-8,xcY (xaf [_,_] IO xEl IO xEl τ) [_,_] xEl IO xEl IO (xl6 xiG xiG h8)⟩;have Ws:xbC B2.length:=by have:=br2.tot;lia
  refine⟨_,λ σ' H' h=>h,_,rfl,p,dx,_,rfl,ME,xja,p,d,dx,B2,r2,m',rfl,ME,hd2,Ws,(xfN (xcT 8) 40 IO 100 hm),λ H3 M4 hd3 Yn=>?_⟩;exact⟨m',(xmv NE (xcT 8)),rfl,_,_,M4,hd3,br2.move,(xfN (xcT 8) 40 IO 40 hm),λ c o e n1 n2=>Yn c o (oth2 c o e n1 n2) n1 n2⟩
 ·have h8:m<8:=by
   have NU:xhH xkd xpA≠true:=h1;by_cases h:xkd≤xpA
   ·show xjQ h NU
   ·lia
  exact q H2 ⟨dx,B2,r2,m,ME,hd2,br2,h8⟩ oth2
inductive Xe (C:LV) (vs:M2) (H:Hp) (Q:VK) (Ml:XK):Prop
 |mk (p d:LV) (N T:Nat) (h0:vs=xbk) (h1:xn7 C T) (h2:xn2 T):Xe C vs H Q Ml
def BD:xdW vZ:=Os
def ym (F:xaL "many" "BitRow.many" vZ)(T:CB K mg C)(X:xbN):xh5 (Xe C):=by
 show xao BD (λ L9 A outer st H vs Q E hr h=>?_);obtain⟨p,d,N,T',rfl,⟨dx,B,r,k,hp,hd,br,ZK⟩,q⟩:=h;show xgY (xbh (xRC xPx Ζ)) ⟨_,rfl,p,C,dx,_,_,rfl,hp,T.cl,T.nW,jZ _ _ _,d,_,rfl,xab hd,_,_,rfl,rfl,xuj,?_⟩ ⟨_,rfl,p,C,dx,_,_,rfl,hp,T.cl,T.nS,xwV,_,_,rfl,rfl,?_⟩;have e:xkd*xmm xeC+xnw=XV T':=by rw [EA,br.tot];exact(xjy [_,_] xPW xPW [_,_] xPW xPW)
 try dsimp only
 show xfs q
inductive SJ (C:LV) (vs:M2) (H:Hp) (Q:VK) (Ml:XK):Prop
 |mk (p d:LV) (N T:Nat) (h0:vs=xbk) (h1:xn7 C T) (h2:T≤4000) (h3:xie l LV R Fr (Ι->xaz=xlD->BP.O8 N T R->Κ->xat)):SJ C vs H Q Ml
def Tc:xtp (xkO "told") nr:=Os
def uw (F:xaL "row" "BitRow.row" nr)(T:CB K mg C)(X:xbN):xh5 (SJ C):=by
 show xao Tc (λ L9 A outer st H vs Q E hr h=>?_);obtain⟨p,d,N,T',rfl,⟨dx,B,r,k,hp,hd,br,ZK⟩,hT,q⟩:=h;show xax (xa6 1 Tc.nd (xEJ bp Gh Ζ) (xkC cF Ζ ad (aC (xw2 No (xLr Ζ (xdz ad Ζ))))) No) ⟨_,rfl,p,C,dx,_,_,rfl,hp,T.cl,T.nW,jZ _ _ _,d,_,rfl,xab hd,P3 l hl⟩;have npl:p≠l:=xrY hl;have MW:(xlS xeC) p=xLw:=by show υ npl hp
 show ρ ⟨_,rfl,p,C,dx,_,_,rfl,MW,T.cl,T.nS,xwV,_,_,rfl,rfl,_,rfl,?_⟩ xj5
 ·have h0:0<k:=by show xaE xt8 (xbn Τ xdR IO xdR IO xq1)
  have hr128:r<128:=EM br.low ((xiT (F9 ZK):2^k≤2^7));have Ws:xNY:=by have:=br.tot;lia
  have e1:xkd-xnw=LT (8-k):=xmy (E4 ZK);refine⟨_,rfl,xhj i',_,rfl,p,C,dx,_,_,rfl,MW,T.cl,T.nR,ij _ _ _,_,rfl,p,C,dx,_,_,rfl,MW,T.cl,T.nS,xwV,_,_,rfl,rfl,?_⟩
  try dsimp only
  show xs5 ⟨_,_,rfl,rfl,⟨xd1,xQ6 8 xet,Z4⟩,l,_,_,rfl,rfl,i',lP (by show xaT Ws),_,rfl,?_⟩
  try dsimp only
  show Uf eV (q l (B++[r*2^(8-k)]) _ hl (by rw [i',EO];rfl) (br.row1 h0 ZK) (xdm b o))
  rw [xkt hl,xkt hl];exact e
 ·have h0:k=0:=by
   have NU:xfK xcU xnw≠true:=h1;by_cases h:xcU<xnw
   ·show xjQ h NU
   ·lia
  subst h0;show xax rfl (q l B _ hl i' br.row0 (xdm b o))
  show xgr hl e
def BF:¬(xVn="taken"):=Z8
noncomputable def fR (d:LV) (t:Nat):xfn:=[("held",xlg),("taken",vN t)]
def tT (d)(t):xe1 "taken" t (xkI "held" d [])=xpv:=by
 show(xcW "held" "taken" (xg2 xVn d) [("taken",vN t)])=_;show xak (ES BF)
def BC (d)(t t'):xe1 "taken" t' xpv=fR d t':=by
 show(xcW "held" "taken" (xg2 xVn d) (xik "taken" "taken" [(xcx "taken",vN t')] _))=_;rw [ES BF,xai];rfl
def kO (d)(t):xds xpv "held"=xhd:=by
 rw [<-tT,ap,ES BF,ap,xai]
def gc (d)(t):xds xpv "taken"=UV t:=by
 rw [<-tT,ap,xai]
def fu (d)(t){m:Str}(h1:xl8 "taken")(h2:xl8 "held"):xmt xpv m:=by
 rw [<-tT,ap,xpg,ap,xno];rfl
def B1 (d)(t):xFr xpv:=by show xdi 2
universe K30
namespace K30
open PySem L2 QQ W17 W16 BP
seal PE PA PS PSs PT PW PG PI
def NR (H:Hp)(x:V)(W:Fr):Prop:=(xn9 x/\W=[])\/∃a,x=Γ/\UF=xlE
def NR.same {H H':Hp}{x:V}(h:xjb)(s:Κ):NR H' x W:=by
 rcases h with h|⟨a,e,h⟩
 ·show xa8 h
 ·show xdG ⟨a,e,xft h⟩
inductive QP (H:Hp):xea xav xbf
 |nil:QP H [] []
 |cons {t:LV} {q:xfl} {ts:xav} {ps:xbf}:H t=xeY [vN xbt,vN xb7]->xwb H->QP H (t::ts) (q::ps)
def QP.keep (h:xwb H)(s:∀c xs,ω=xhR->xaY=xhR):xwb H':=by
 induction h with
 |nil=>show xib
 |cons a _ ih=>exact xk7 (xft a)
def QP.mono (h:xwb H)(s:Κ):xwb H':=h.keep λ c xs e=>xft e
def QP.app (h:xwb H)(g:QP H us qs):QP H (ts++us) (ps++qs):=by
 induction h with
 |nil=>exact g
 |cons a _ ih=>exact xk7 a
def QP.len (h:xwb H):xBV ts.length:=by
 induction h with
 |nil=>rfl
 |cons a _ ih=>rw [EV,EV,ih]
theorem QP.at (h:xwb H):∀{i:Nat} {t},xaM ts t->∃q,xaM ps q/\H t=xeY [vN xbt,vN xb7]:=by
 induction h with
 |nil=>intro i t h;show xbG
 |cons a _ ih=>
  intro i t h;cases i with
  |zero=>show xbG;show xcL h (xaJ a)
  |succ i=>show xbG;exact ih h
def jh {ts:xav}{i:Nat}(h:xaM (xdr) y):∃t,xaM ts t/\y=xgR:=by
 rw [FA] at h;cases e:xaU ts with
 |none=>show W1 e h h
 |some z=>show π e h (xf2 z (xIW h))
def oO {α:Type}{B:xb2}{b:α}(h:xaM B b):B.take (i+1)=xqK++xey:=by rw [Ga,h];rfl
def Mt.keep (h:xn7 C T)(s:∀c o,ω=Id->(c=p\/c=d)->xaY=Id):Mt C H' p d N T:=by
 show xiN dx B r k h1 h2 h3;exact⟨dx,B,r,k,xft h1 xec,xft h2 xx7,h3⟩
def Mt.sm (h:xn7 C T):(∃o,xbF=Id)/\∃o,H d=Id:=by
 show xiN dx B r k h1 h2 h3;show xaj (xbR h1) (xbR h2)
def Mt.ob (h:xn7 C T):∃dx r k,xbF=xLw:=by
 show xiN dx B r k h1 h2 h3;exact⟨dx,r,k,h1⟩
def cU {H:Hp}(h:∃o,UF=Id)(n:xd3):a≠b:=On (by
 obtain⟨o,h⟩:=h;show xbm n h h)
structure Yi (K:Frag)(mg:Α)(C:LV):Prop where
 R:xlX
 T:CB K mg C
 m:mg "BitRow"=xiZ
 needsize:xWA cN Jai
 ones:Wp "ones" gz Jai
 init:∃f fd,x0M se/\xEG/\xsL
 put:∃f fd,xeV C "put" "BitRow.put" BQ xOA
 move:xic "move_byte" "BitRow.move_byte" sG
 many:xic "many" "BitRow.many" vZ
 row:xic "row" "BitRow.row" nr
structure FnD (K:Frag)(mg:Α)(x:Str)(st:L7)(ps:xaO)(f:LV)(fd:L0):Prop where
 F:∃dV,xA2 x f fd
 m:xwo=xeL
 b:xps
 d:xDb K xJv
theorem FnD.kp (F:xKA x st ps f fd):xiU:=F.F.elim λ _ z=>z.kp
noncomputable def itm:Pc->M2
 | .sg s=>[xWz,xcV]
 | .cp b z=>[xtY,xd6,vN z]
def Wz (H:Hp)(ts:xav)(P:xfa):Prop:=ts.length=P.length/\∀(i:Nat) a x,xaM ts a->xaU P=xas->UF=xQm x
def PL (H:Hp)(l:LV)(P:xfa):Prop:=∃ts,xjm=xvn/\xAg H P
def Wz.keep (h:xAg H P)(k:∀a xs,UF=xhR->xAw=xhR):xAg H' P:=⟨xb0,λ i a x h1 h2=>xo0 (xeU i a x h1 h2)⟩
def Wz.snoc {P:xfa}(h:xAg H P){t:LV}{x:Pc}(e:H t=xQm x):Wz H (ts++[t]) (P++xcZ):=by
 refine⟨by simp [xb0],λ i a y h1 h2=>?_⟩;rw [List.getElem?_append] at h1 h2;rw [<-xb0] at h2
 split at h1
 ·rename_i c
  show π (E5 c) h2 (xeU i a y h1 h2)
 ·rename_i c
  rw [xwn] at h2;have e0:i-ts.length=0:=by
   have:=xSv;simp at this
   assumption
  rw [e0] at h1 h2;cases h1;cases h2;exact e
def wq:xTm "copy"≠xTm "sign":=xnk (V.str.inj h) Z8
noncomputable def cpy (B:Fr) (b:Nat):xby Fr
 |0=>B
 |n+1=>xET++[(xET).getD (xxW B n-b) 0]
theorem bV (B)(b):∀n,xaI xET (xud n)
 |0=>rfl
 |n+1=>by
  rw [cpy,EB,bV B b n];simp;exact xcK [_,_] xeF xb1 [_,_] xb1 xeF
theorem pW {S:Fr}(MR:xcJ)(hb:b≤p)(hz:xdO (p+z))(h:∀i<z,S[p+i]?=S[p+i-b]?):∀n,n≤z->cpy xx1 b n=S.take (p+n)
 |0,_=>rfl
 |n+1,hn=>by
  have hl:xaI (S.take (p+n)) (p+n):=by show xcj ER
  rw [cpy,pW MR hb hz h n (G1 hn),hl];have h1:xiw (p+n):=xKC hn _ hz;rw [show p+(n+1)=p+n+1 by exact xcK [_,_] xb1 xeF [_,_] xeF xb1,Ga,EI h1];congr 1;show xaK h2 (h n xe5) (EI h1) h2;rw [E9,Lc,xKv,<-h2];rfl
inductive Q1 (vs:M2) (H:Hp) (Q:VK) (Ml:XK):Prop
 |mk (x:V) (m:Nat) (W:Fr) (h0:vs=[x,xkf]) (h1:xjb) (h2:xAL) (h3:xMw m) (h4:∀l H',Κ->Ι->xaz=xlE->xat):Q1 vs H Q Ml
def Rh:ST ["before","most","window"] xxB d7:=Os
def jP {P:LY}(F:Δ "need_window" d7 xxB)(N:xL6)(Y:xlX):xam 5 xxB Q1:=by
 have T:=Y.X;show xau Rh (λ L9 A outer s H vs Q E hr h=>?_);obtain⟨x,m,W,rfl,hx,hb,hl,k⟩:=h;refine xca (ab (xuN dW PP bP (xbh xe8)) (xa6 2 Rh.nd (xd2 (bU N Y) N PP) (xkC cF xPE No aM) Ps))
 rcases hx with⟨rfl,rfl⟩|⟨b,rfl,hB⟩
 ·exact xdy (aT (λ _=>xju (λ l nl=>xp8 xtT nl i')) (xnk xdT h))
 ·show xnm (xv5 (xnk xb5 (by show Υ))) (xc0 b W hB hb (P3 l hn)) ⟨_,rfl,l,_,rfl,xab i',_,rfl,_,_,rfl,rfl,_,rfl,xqy h xfA⟩
  ·show xgb xb5 EA (xdX [_,_] xb1 xaR (Ez hl xq1))
  ·exact xaJ (xp8 (aj hn) hn i')
inductive Pf (vs:M2) (H:Hp) (Q:VK) (Ml:XK):Prop
 |mk (x:V) (W:Fr) (h0:vs=xcZ) (h1:xjb) (h2:xAL) (h3:xo4) (h4:∀l H',Κ->Ι->xaz=xlE->xat):Pf vs H Q Ml
def qg:ST xkT xkT dF:=Os
def ir {P:LY}{f fW fN:LV}{fd QO TJ:L0}(F:Δ "need_ahead" dF xkT)(Wi:x0d d7 xxB fW QO)(N:xL6)(Y:xlX):xam 6 xkT Pf:=by
 show xhU tg hg Y.X.ahead qg (λ L9 A outer s H vs Q E hr h=>?_) _;show xiN x W rfl hx hb hl k;refine xjK (xcQ (jP Wi N Y) hr Wi PP (xbw 192 hg tg));exact⟨_,rfl,x,192,W,rfl,hx,hb,hl,k⟩
inductive Pe (vs:M2) (H:Hp) (Q:VK) (Ml:XK):Prop
 |mk (a:LV) (x:V) (T W:Fr) (h0:vs=[Γ,x]) (h1:UF=xcf) (h2:xfd T) (h3:xHY) (h4:xvs) (h5:xjb) (h6:xAL) (h7:xo4) (h8:∀l H',Κ->Ι->xaz=xcf->xat):Pe vs H Q Ml
def Pg:ST ["text","before","signs"] Jae gQ:=Os
def dj {P:LY}{f fA fW fN:LV}{fd fdA QO TJ:L0}(F:Δ "need_signs" gQ Jae)(Ah:xbD "need_ahead" dF xkT fA fdA)(Wi:x0d d7 xxB fW QO)(N:xL6)(Y:xlX):xam 7 Jae Pe:=by
 have T:=Y.X;show xhU tg hg T.signs Pg (λ L9 A outer s H vs Q E hr h=>?_) _;obtain⟨a,x,S,W,rfl,ha,hSb,h1,MG,hx,hb,hl,k⟩:=h;have Ru:xAF:=Ty;show xgt (xcl 2 Pg.nd (xcO (bU N Y) Ru N PP) (xzf (xv7 xPE) (xa5 cF xPE (xbw 64 hg tg))) (xej (xd2 (ir Ah Wi N Y) Ah No) (xbh Ps))) (xc0 a S ha hSb (xdB l nl));have s0:=xa1 xoi nl;have VQ:(xlS xoi) l=xgl:=i';show xbU (xlS xoi) H1 (xdd ⟨_,rfl,l,_,rfl,xab VQ,rfl,_,rfl,xqy h xfA⟩)
 ·have:=xb5;injection this with this
  show xxh EA (xdX Τ xfL (xcT 0) (xgV h1 (xxu this)))
 refine⟨_,rfl,l,_,rfl,xab VQ,_,_,rfl,rfl,_,rfl,xEb h xaa⟩
 ·show xgb xb5 EA (xdX Τ (xag (xaG xPY)) (xdP 64) (Ez MG xq1))
 clear g1;refine xdd ⟨_,rfl,x,W,rfl,xVL,hb,hl,λ l2 H2 s2 n2 Sd=>xaa⟩
 exact xaJ (xLC (s0.trans s2) nl (xcg VQ))
inductive U5 (vs:M2) (H:Hp) (Q:VK) (Ml:XK):Prop
 |mk (a:LV) (S:Fr) (p b m:Nat) (h0:vs=[Γ,xke,xd6,xkf]) (h1:UF=xgl) (h2:b≤p) (h3:xdO (p+m)) (h4:xn2 xkb):U5 vs H Q Ml
def RF:ST ["signs","place","back","most","size"] xJo oa:=Os
def xJ (F:Δ "alike_from" oa xJo):xdl xJo U5:=by
 show xau RF (λ L9 A outer st H vs Q E hr h=>?_);obtain⟨a,S,p,b,m,rfl,hS,hb,hm,k⟩:=h;show xax (xa6 4 RF.nd ad (xoP (xuS (xa5 cH χ TD) (xa5 bd xXD (xjX (xdz (xEp χ) Ps)))) (xhx 4 RF.nd xPJ)) χ) (ao (xdB R1 g1));clear g1;refine xdd (Ψ (λ n σ H2=>∃i,n=m-i/\σ=[xaQ,xnE,xhl,xwu,UV i]/\H2=H/\i≤m/\∀j<i,S[p+j]?=S[p+j-b]?) (xjj m 0 rfl rfl xan (xe9 j hj hj (KQ _))))
 rintro n σ H2 ⟨i,rfl,rfl,rfl,hi,MB⟩;refine⟨_,rfl,_,rfl,_,_,rfl,rfl,_,rfl,xj5⟩
 ·have h2:i<m:=by show xaE xt8 xx2
  have e1:xlU+xhT=xjg i:=(xjy [_,_] Pi Pi [_,_] Pi Pi);have e2:xjg i-xd4=LT (p+i-b):=xmy (Gr hb);have l1:xiw (p+i):=(xdF [_,_,_,_] (.a xfH Β) xc7 xeF hm h2);have l2:xiw (p+i-b):=Gy l1;refine⟨_,rfl,_,rfl,_,rfl,_,_,rfl,rfl,?_⟩
  try dsimp only
  show xhO e1 ⟨a,_,_,_,rfl,rfl,xPk,xmV l1,?_⟩ ⟨_,rfl,_,rfl,_,rfl,_,_,rfl,rfl,_,rfl,_,_,rfl,rfl,?_⟩
  try dsimp only
  rw [e1,e2];refine⟨a,_,_,_,rfl,rfl,xPk,xmV l2,rfl,_,rfl,xc9 h3 h3⟩
  ·have h4:S[p+i]=S[p+i-b]:=xWF h3;refine Ψ (λ σ' H'=>σ'=[xaQ,xnE,xhl,xwu,xA9]/\H'=H2) (λ σ' H' z=>⟨m-(i+1),(xhq [_,_,_,_] (xa2 (xag xm6)) (xel xrh) τ (xdE Β IO Β IO h2)),i+1,rfl,xeS,xh6, xe5,xvZ⟩)
   ·by_cases e:j=i
    ·subst e;rw [xKZ,EI l2,h4]
    ·exact MB j (xJK hj e)
   ·exact xc0 _ _ rfl rfl rfl
  ·refine xEM;have h4:S[p+i]?≠S[p+i-b]?:=by
    rw [xKZ,EI l2];intro z;exact h3 xXG
   show π (yh MB h4 m xe5) k k
 ·refine aS xEM;have h2:i=m:=by
   have NU:¬(SL (xfK xer xpA)):=h1;have:¬(xer<xpA):=On (NU xy5)
   lia
  subst h2;show π (xr MB) k k
inductive Q3 (vs:M2) (H:Hp) (Q:VK) (Ml:XK):Prop
 |mk (a:LV) (S:Fr) (p:Nat) (h0:vs=[Γ,xke]) (h1:UF=xgl) (h2:xAK) (h3:xbC S.length) (h4:∀t,Χ t->Q xgR (xdJ H t [xtY,vN xzR,vN xpq])):Q3 vs H Q Ml
def MP:ST ["signs","place","most","best_back","best_size","back","size"] ["signs","place"] j9:=Os
def rg (F:Δ "longest_copy" j9 ["signs","place"])(AF:xbD "alike_from" oa xJo fA fdA)(T:xbN):xpl ["signs","place"] Q3:=by
 show xbH tf hf T.far tm hm T.mostC;show xau MP (λ L9 A outer st H vs Q E hr h=>?_);obtain⟨a,S,p,rfl,hS,hp,hlen,k⟩:=h;have hn:=xDf;have Mw:xbg:=Ty;show xgt (xdD 2 MP.nd (xw3 (iA hn) T.min Kv (xbw 18 hm tm) (xdz xmP No)) 3 MP.nd ad (xa6 4 MP.nd ad (xg0 (xXS Z7 (xfy ad (xcD (xw3 (iA hn) T.min Kv (xbw 255 hf tf) No)))) 5 MP.nd (ab (xkC bd χ Ps o6)
   (ac (xqq xXD (xjX (xdz (xEp χ) xa9)) (xaF 6 MP.nd (ay (xJ AF) Mw AF (xvN PP No xa9 Ps)) (ac (xuN cF xco χ (xaF 3 MP.nd xa9 (xhx 4 MP.nd xco))))))))) (dz (xin de TD χ)))) ⟨_,rfl,a,_,rfl,xab hS,_,rfl,_,_,rfl,rfl,_,_,rfl,xaa⟩;have em:xfT (xKH-xlU<18) (xKH-xlU) 18=LT xcp:=by
  rw [EA];unfold most
  split<;>lia
 try dsimp only
 rw [em];have hm2:xcp≤18/\xdO (p+xcp):=by unfold most;show xaj (xlO 18 18 xfV) (xdF [_,_,_,_] (xag xDr) xoE xaR xfR (xAl hp))
 show xnW;show xnW;refine xbT
 have JR:∀v5 v6,R1 [xaQ,xnE,UV xcp,UV xzR,UV xpq,v5,v6] H:=λ v5 v6=>by
  refine xaa;exact xkr _ (by show xe7 3) k
 clear g1;have ef:xfT (xlU<255) xlU 255=LT xhN:=by
  unfold far
  split<;>lia
 refine⟨_,rfl,_,_,rfl,?_⟩
 try dsimp only
 rw [ef];have hfar:xhN≤255/\xhN≤p:=by unfold far;show xaj xfV xfR
 refine⟨_,_,rfl,rfl,1,LT xhN+1,rfl,⟨Z5,Z5,Z5,Z5⟩,?_⟩;have en:xlQ (LT xhN+1) 1=xhN:=Z5
 try dsimp only
 show Uf en (xnN 1 xhN (λ j σ H2=>∃v5 v6,σ=[xaQ,xnE,UV xcp,UV (lc S p xcp j).1,UV xkq,v5,v6]/\H2=H) (xc8 none none rfl) ?_ ?_)
 ·rintro j σ H2 hj ⟨v5,v6,rfl,rfl⟩;have eb:xcv+xrG=xiH j:=(xid xfL NE NE xfL)
  try dsimp only
  show Uf eb (xmf g2 (xc0 _ rfl _ rfl xj5))
  ·have h2:xkq=xcp:=xXv;have e:=tF h2 xhN (G1 hj);have J:=JR xGy v6;unfold lcAt at J;show π e J J
  ·have h2:xkq≠xcp:=On (h1 (xTq z))
   have hle:=tI S p xcp j;show xko xcX;have e1:xlU+LT xkq=xjg xkq:=(xjy [_,_] Pi Pi [_,_] Pi Pi);have e2:xjg xkq-xiH j=LT (p+xkq-(j+1)):=Z5;have l1:xiw (p+xkq):=Z5;have l2:xiw (p+xkq-(j+1)):=(xhq [_,_,_,_] (xv9 xPy) xui l1 xet);refine⟨_,rfl,_,rfl,_,rfl,_,_,rfl,rfl,?_⟩
   try dsimp only
   show xhO e1 ⟨a,_,_,_,rfl,rfl,xPk,xmV l1,?_⟩ ⟨_,rfl,_,rfl,_,rfl,_,_,rfl,rfl,_,rfl,_,_,rfl,rfl,?_⟩
   try dsimp only
   rw [e1,e2];refine⟨a,_,_,_,rfl,rfl,xPk,xmV l2,rfl,_,rfl,xc9 h3 h3⟩
   ·show ρ ⟨_,rfl,_,rfl,_,rfl,_,rfl,a,S,p,j+1,xcp,rfl,hS,EF hj hfar.2,String.Pos.Raw.mk_le_mk.mp hm2.2,?_⟩ ⟨_,rfl,_,rfl,_,_,rfl,rfl,_,rfl,xc9 h4 h4⟩
    ·have h5:xkq<xm2 (j+1) xcp:=by show xaE (EL h4) xx2
     refine⟨_,rfl,_,rfl,xGy,UV (xm2 (j+1) xcp),?_,rfl⟩;rw [lc,E5 h5];rfl
    ·have h5:¬xkq<xm2 (j+1) xcp:=On (h4 (EJ (xKa z)))
     refine⟨xGy,UV (xm2 (j+1) xcp),?_,rfl⟩;rw [lc,ES h5];rfl
   ·refine⟨xGy,v6,?_,rfl⟩;have h4:S[p+xkq]?≠S[p+xkq-(j+1)]?:=by
     rw [xKZ,EI l2];intro z;exact h3 xXG
    show xak (yF h4)
 ·rintro σ H2 ⟨v5,v6,rfl,rfl⟩;exact JR v5 v6
inductive Ql (vs:M2) (H:Hp) (Q:VK) (Ml:XK):Prop
 |mk (a:LV) (x:V) (W T:Fr) (h0:vs=[Γ,x]) (h1:UF=xcf) (h2:xjb) (h3:xAL) (h4:xfd T) (h5:xMw 255) (h6:xMC 500) (h7:∀l P H',Κ->Ι->PL H' l P->xvQ (W++T) P W T->xat):Ql vs H Q Ml
def MK:ST ["text","before","own_signs","signs","place","pieces","found"] Jae iW:=Os
structure YD (K:Frag)(mg:Α):Prop where
 R:xlX
 needrow:xOu ca Jag
 needwin:Wp "need_window" d7 xxB
 alike:Wp "alike_from" oa xJo
 longest:Wp "longest_copy" j9 ["signs","place"]
def i6 {P:LY}{w:LZ}{K:Frag}(F:x1a iW Jae f fd)(Y:YD K mg):xpk Jae Ql:=by
 show xZ3 R N NW AF L;have T:=R.X;show xbH tl hlc T.least tf hfr T.far;show xck dV FF F.F (FF.ok MK λ L9 A outer st H vs Q E hr h=>?_)
 intro _;obtain⟨a,x,W,Tx,rfl,ha,hx,hbW,hbT,hW,hT,k⟩:=h;have Ru:xAF:=Ty;have hr5:xbr 5:=Ty;show xgt (xdD 2 MK.nd (xcO (bU N R) Ru N PP) 3 MK.nd (xfb (xcQ (jP NW N R) hr5 NW No (xbw 255 hfr tf)) Ps) (xaF 4 MK.nd (xdz (xBF TD) xPE) (xa6 5 MK.nd xe8 (xve cH χ (xBF TD) (xaF 6 MK.nd (xcQ (rg L AF R.X) hr L TD χ) (ac (aF (xa5 lH (xqX xco) (xbw 3 hlc tl)) (xej (xw2 xa9 xco) (xhx 4 MK.nd (xbv χ (xqX xco)))) (xej (xw2 xa9 (xo2 de (xq2 TD χ))) (xhx 4 MK.nd xPJ)))))) xa9))) (xc0 a Tx ha hbT (xdB l1 n1));have s1:xef (xpa xNU):=aj n1;refine xdd ⟨_,rfl,x,255,W,rfl,xUZ,hbW,hW,λ l2 H2 s2 n2 Sd=>?_⟩
 have h1a:H2 l1=XL xNU:=xcg i';show xcC ⟨_,rfl,l2,l1,_,_,rfl,rfl,Sd,h1a,aW (by rw [EA,EA];exact xlR [_,_] Pi (xm4 255 500) Pi hW hT),xdB l3 n3⟩;have s3:=xa1 (xti++xNU) n3
 try dsimp only
 rw [<-EO] at s3 ⊢;have hS3:xd8 H2 l3 (W++Tx) l3=xkx W Tx:=i';have hS1:=xbZ h1a;have Ui:=xLm;generalize hH3:xgz H2 l3 (W++Tx)=H3 at*;clear hH3 s3 n3 h1a s2 n2 s1;show xjh ⟨_,rfl,l3,_,rfl,xab hS3,_,rfl,l1,_,rfl,xab hS1,_,_,rfl,rfl,xaa⟩;have ep:xmm (Ρ (W++Tx))-xmm xNU=LT W.length:=by
  rw [EA,EA,EB];lia
 try dsimp only
 rw [ep];generalize hS:W++Tx=S at*;have hSl:xyL (xBU Tx.length):=by rw [<-hS,EB]
 show xjh (xju (xdB l5 n5));have s5:=xDo n5;have n5':Χ l5:=xIy Ui;have hS5:=xbb hS3;have n35:l3≠l5:=ae hS3 n5;have Xx:=Ui.trans s5;refine xdd (Ψ (λ n σ H2=>∃q Pp ts v6,n=xrg q/\σ=[xaQ,xas,xap l1,xK7,xwv,xFq,v6]/\xdO q/\xST S Pp q/\H2 l3=xgl/\H2 l5=xvn/\xAg H2 Pp/\xjZ) ⟨xrg W.length,W.length,[],[],none,rfl,rfl,Nat.le.intro hSl.symm,rfl,hS5,i',xgB (λ i b y h=>by show xbG),Xx⟩)
 rintro n σ H2 ⟨q,Pp,ts,v6,rfl,rfl,hq,hw,h3,h5,Rp,sm⟩;refine⟨_,rfl,_,rfl,l3,_,rfl,xab h3,_,_,rfl,rfl,_,rfl,xc9 hc hc⟩
 ·have QE:xiw q:=by show xgb xK0 EA xx2
  refine Ψ (λ σ' H'=>∃q' Pp ts v6,q<q'/\σ'=[xaQ,xas,xap l1,xK7,UV q',xFq,v6]/\xdO q'/\xST S Pp q'/\H' l3=xgl/\H' l5=xvn/\xAg H' Pp/\Κ) (λ σ' H' z9=>by obtain⟨q',Pp,ts,v6,Mb,z1,z2,z⟩:=z9;exact⟨xrg q',(xhq [_,_,_,_,_] (xhv 3 (xa2 (xag xdL))) (xdh (xel xrh)) Mb (xFv (xdE Sc IO Sc IO z2))),q',Pp,ts,v6,rfl,z1,z2,z⟩)
  have hlen:xdO Pp.length:=by show xaE (cY hw) (xcI [_,_,_,_] (xbi xdQ) xrh hq this)
  have hpz:=iF QE;show xol g2 ⟨_,rfl,_,rfl,l3,S,q,rfl,h3,QE,(xgQ [_,_,_] xdQ (xaZ 255 (xaZ 500 Φ)) IO 1000 hW (xgV hT hSl)),λ t nt=>xcX⟩ g2;have st:=xjF [xtY,xF2,xFQ] nt;have ht:(xj7 t [xtY,xF2,xFQ]) t=xeY [xtY,xF2,xFQ]:=i';have h3t:=xhc h3;have h5t:=xhc h5;have htst:=Rp.keep (H':=xj7 t [xtY,xF2,xFQ]) (xMz (xhc z))
  have smt:=sm.trans st;generalize hHt:xj7 t [xtY,xF2,xFQ]=Ht at*;clear hHt st;have hap:∀H4 u,H4 l5=xvn->H4 l3=xgl->xAg H4 Pp->xLb->H4 u=xQm xGg->
    (xhb (xdr++[xKe])) l3=xgl/\(xhb (xdr++[xKe])) l5=XL (xtV (ts++xky))/\Wz (xhb (xdr++[xKe])) (ts++xky) (Pp++[xGg])/\xef (xhb (xdr++[xKe])):=by
   intro H4 u a5 a3 at' as au;have kt:∀b xs,H4 b=xhR->(xhb (xdr++[xKe])) b=xhR:=λ b xs z=>by
    show υ (xlT a5 (by show xjk)) z
   refine⟨by show υ n35 a3,by rw [i',EO];rfl,(at'.keep kt).snoc (kt _ _ au),Ε b o z⟩;show xjv z n5' (as _ _ z)
  refine⟨_,rfl,t,_,_,_,rfl,rfl,xq9,xxe 2,_,_,rfl,rfl,_,rfl,xc9 h6 h6⟩
  ·have h7:3≤xrr:=by show xaE (EL h6) (Ld.mp this)
   have epc:xGg=.cp xUy xrr:=by show xzm pcAt h7
   obtain⟨b3,b5,bt,bs⟩:=hap Ht t h5t h3t htst smt (by show LE epc ht);refine⟨_,rfl,xhj h5t,_,rfl,l5,_,_,rfl,rfl,h5t,bz (by rw [EA,xvi];exact(xqf [_,_,_,_] xJi (xaZ 255 (xaZ 500 xP0)) IO hW (xnb hT hSl hlen))),?_⟩;have ht2:(xbP Ht l5 (xdr++[xgR])) t=xeY [xtY,xF2,xFQ]:=by
    show υ (aH ht h5t (by show xjk)) ht
   refine⟨_,rfl,_,rfl,t,_,_,_,rfl,rfl,MT.of ht2,xxe 2,_,_,rfl,rfl,?_⟩;rw [epc] at bt hpz;show xaK YO (du hw QE) epc YO;have hz:xVM xUy xrr=xrr:=rfl;rw [hz] at YO hpz;refine⟨q+xrr,_,_,xap t,Ha hpz.1,?_,hpz.2,YO,b3,b5,bt,bs⟩;have e2:xnG+LT xrr=LT (q+xrr):=(xjy [_,_] Pi Pi [_,_] Pi Pi)
   try dsimp only
   show xak e2
  ·have h7:¬3≤xrr:=On (h6 (EJ (xqu (xaf Τ xdU IO xdU IO z))))
   have epc:xGg=.sg S[q]:=by show xci pcAt (ES h7);show xQU QE
   refine⟨_,rfl,xhj h5t,_,rfl,_,rfl,l3,_,_,_,rfl,rfl,Mm.of h3t,xmV QE,(by show xdn),P3 u nu⟩;show xph su (xjF [xWz,vN S[q]] nu) b3 b5 bt bs (hap (xdJ Ht u [xWz,vN S[q]]) u (xBg h5t) (xBg h3t) (htst.keep (xMz (xBg z))) (smt.trans su) (by show LE epc i'));show ρ (xdc l5 _ _ rfl (xBg h5t) (bz (by rw [EA,xvi];exact(xqf [_,_,_,_] xJi (xaZ 255 (xaZ 500 xP0)) IO hW (xnb hT hSl hlen)))) ?_) xwc;have YO:=du hw QE;rw [epc] at bt YO hpz;exact⟨q+1,_,_,xap t,Kt _,rfl,hpz.2,YO,b3,b5,bt,bs⟩
 ·have QE:xuu q:=by
   have h1:¬(SL (xfK xnG xKH)):=hc;rw [EA] at h1;have:¬(xnG<xVi):=On (h1 xy5)
   lia
  subst QE;refine xEM;exact k l5 Pp H2 sm n5' ⟨ts,h5,Rp⟩ hw
noncomputable def app (B:Fr):Pc->Fr
 | .sg s=>B++[s]
 | .cp b z=>xJT z
def runP (B:Fr)(P:xfa):Fr:=P.foldl app B
noncomputable def pcP:Pc->xbf
 | .sg s=>[(0,1),(s,8)]
 | .cp b z=>[(1,1),(b,8),(z-3,4)]
def pP (P:xfa):xbf:=P.flatMap pcP
def gE (B:Fr):xdq Pc
 | .sg s=>xch s
 | .cp b z=>xcJ/\xA7/\xgL b/\xw6/\xwN
def GR:xea Fr xfa
 |_,[]=>True
 |B,x::P=>gE B x/\GR xKJ P
def gK (B)(x):xaI xKJ (xud x.size):=by
 cases x with
 |sg s=>show xcm B [s]=xud 1;simp
 |cp b z=>exact bV B b z
def ux (P Q:xfa):pP (P++Q)=pP P++pP Q:=by simp [pP]
def eO (x)(P):pP (x::P)=pcP x++pP P:=by simp [pP]
def Cf (x:Pc):pP xcZ=pcP x:=by simp [pP]
theorem GR.at:∀{P} {B} {i} {x},GR B P->xaU P=xas->gE (runP B (P.take i)) x
 |y::P,B,0,x,h,e=>by simp at e;show xc3 xb0
 |y::P,B,i+1,x,h,e=>by
  show xaE (GR.at (P:=P) (B:=app B y) (i:=i) (x:=x) xeU (by show xuX)) this
def vE (h:gE B x):Ν x.size/\x.size≤18:=by
 cases x with
 |sg s=>show xaj Tl (by show xjz (Ν 18))
 |cp b z=>
  obtain⟨_,_,_,h1,h2⟩:xcJ/\xA7/\xgL b/\xw6/\xwN:=h;show xaj (by show Ν z;exact xbn Τ xdU IO xaH IO h1) h2
theorem GR.len:∀{P} {B:Fr},GR B P->xro (xud P.length) (xMc B)
 | [],B,_=>Tl
 |x::P,B,h=>by
  have h1:=GR.len (P:=P) (B:=xKJ) xeU;show xaK h2 (vE xb0) gK h1;show xro (xud (xgF 1)) (xMc xKJ);exact(xdF [_,_,_,_] xXC xc7 xb1 h1 xpf)
theorem sA:∀{P} {B},GR B P->Good (pP P)
 | [],_,_=>λ q hq=>by cases hq
 |x::P,B,h=>by
  have ih:=sA (P:=P) (B:=xKJ) xeU;intro q hq;rw [eO] at hq;show xbX hq hq hq
  ·cases x with
   |sg s=>
    have hs:xch s:=xb0;simp [pcP] at hq;show xj3 hq
    ·decide
    ·exact hs
   |cp b z=>
    obtain⟨_,h2,_,h4,h5⟩:xcJ/\xA7/\xgL b/\xw6/\xwN:=xb0;simp [pcP] at hq;show xsX hq
    ·decide
    ·show b<2^8;exact HE h2
    ·show z-3<2^4;omega
  ·exact ih q hq
def yl (x):xxz x=9\/xxz x=13:=by
 cases x with
 |sg s=>exact xec
 |cp b z=>exact xx7
theorem mX:∀P:xfa,xSV P≤13*P.length
 | []=>Tl
 |x::P=>by
  rw [eO,aV,EV];have:=mX P;rcases yl x with h|h<;>lia
def CA (hb:xe3 S)(hp:xAK):gE xx1 xrp/\app xx1 xrp=S.take (p+xIU):=by
 cases e:xrp with
 |sg s=>
  have h:=zo hp e;refine xde (hb s (FO h));show xx1++[s]=S.take (p+1);rw [Ga,h];rfl
 |cp b z=>
  obtain⟨h1,h2,h3,h4,h5,h6,h7,_⟩:=zV hp e;refine xde ⟨h1,h3,by show xcj ER,h4,h5⟩;exact pW h1 h2 h6 h7 z Tl
theorem p6 (hb:xe3 S):∀{P} {p q},xwE P q->GR xx1 P/\xMc xx1=S.take q
 | [],p,q,h=>by cases h;exact xcM trivial
 |x::P,p,q,⟨h1,h2,h3⟩=>by
  subst h2;show xbH g e (CA hb h1) i1 i2 (p6 hb h3);refine xde ⟨g,by show xfs i1⟩;show xMc (app xx1 xrp)=_;show xfs i2
theorem d9:∀{P P'} {p q},xwE P q->xwE P' q->P=P'
 | [],[],_,_,_,_=>rfl
 | [],x::P',p,q,h,h'=>by
  cases h;show xgb (cY h') EV (xdX [_,_] xb1 IO this)
 |x::P,[],p,q,h,h'=>by
  cases h';show xgb (cY h) EV (xdX [_,_] xb1 IO this)
 |x::P,x'::P',p,q,⟨_,h2,h3⟩,⟨_,RJ,XG⟩=>by
  subst h2 RJ;rw [d9 h3 XG]
def dt {P:xfa}(hW:xe3 W)(hT:xe3 T)(h:xvQ (W++T) P W T):GR W P/\xMc W=W++T/\xt3 P.length:=by
 have hb:xe3 (W++T):=λ b z=>by
  show xbX z z z
  ·exact hW b z
  ·exact hT b z
 obtain⟨h1,h2⟩:=p6 hb h;rw [Jq] at h1 h2;rw [Fs] at h2;show xgb (cY h) EB ⟨h1,h2,HG.mp this⟩
structure Wys (K:Frag)(mg:Α):Prop where
 V:YD K mg
 pieces:∃f fd,x1a iW Jae f fd
 needahead:Wp "need_ahead" dF xkT
 needsigns:Wp "need_signs" gQ Jae
universe K30
namespace SM
section
variable {α κ:Type}{blt:κ -> xvy}{kf:α -> κ}
structure Ord (blt:κ->xvy):Prop where
 irr:∀a,xDS a a
 tr:∀a b c,xri a b->xri b c->xri a c
 neg:∀a b c,xri a c->xri a b\/xri b c
 tot:∀a b,xDS a b->xDS b a->a=b
variable (O:xQw)
abbrev Le (blt:κ->xvy)(kf:α->κ)(x y:α):Prop:=xDS xry xgP
abbrev Lt (blt:κ->xvy)(kf:α->κ)(x y:α):Prop:=xri xgP xry
include O
def le_of_lt {x y:α}(h:xvB x y):xAW y:=by
 cases e:xMi xry with
 |false=>exact e
 |true=>have:=O.tr _ _ _ h e;show W1 O.irr this this
def le_trans {x y z:α}(h1:xAW y)(h2:xCO y z):xAW z:=by
 cases e:xMi (kf z) with
 |false=>exact e
 |true=>
  rcases xQx xry _ e with h|h
  ·show W1 (Ω (blt (kf z) xry) false h2) h h
  ·show W1 (Ω (xMi xry) false h1) h h
def cZ {x y z:α}(h1:xvB x y)(h2:xCO y z):xvB x z:=by
 rcases xQx (kf z) _ h1 with h|h
 ·exact h
 ·show W1 (Ω (blt (kf z) xry) false h2) h h
def gg {x y z:α}(h1:xAW y)(h2:xvB y z):xvB x z:=by
 rcases xQx xgP _ h2 with h|h
 ·show W1 (Ω (xMi xry) false h1) h h
 ·exact h
omit O in
noncomputable def eqv (blt:κ->xvy) (kf:α->κ) (k:κ) (x:α):Bool:= ! blt xgP k&& ! xMi k
omit O in
def Nj {k:κ}{x:α}:xuG k x<->xDS xgP k/\xDS k xgP:=by unfold eqv;simp
omit O in
def Mv (blt:κ->xvy)(kf:α->κ)(xs ys:xb2):Prop:=∀k,xs.filter xQ2=ys.filter xQ2
omit O in
def Mv.refl (xs:xb2):xN0 xs:=xhA
omit O in
theorem Mv.trans {xs ys zs:xb2}(h:xzY)(g:xmE ys zs):xN0 zs:=λ k=>(xkz).trans (g k)
omit O in
theorem Mv.symm {xs ys:xb2}(h:xzY):xmE ys xs:=λ k=>(xkz).symm
omit O in
def Mv.app {xs ys us vs:xb2}(h:xzY)(g:xmE us vs):xmE (xs++us) (ys++vs):=λ k=>by rw [Fp,Fp,xkz,g k]
omit O in
def M0 (O:xQw)(x:α):xuG xgP x:=by unfold eqv;simp [O.irr]
def Mv.mem {xs ys:xb2}(h:xzY){x:α}(hx:x∈xs):x∈ys:=by
 have:x∈xs.filter xQL:=HI.mpr ⟨hx,M0 O x⟩;show xxh h (HI.mp this).1
def d8 {X Y:xb2}(h:∀y∈Y,xb6 X (xvB y x)):xmE (X++Y) (Y++X):=λ k=>by
 rw [Fp,Fp];by_cases hx:∃x∈X,xuG k x
 ·show xeP x hx ex hx hy (Y.filter xQ2=[]) (Hi.mpr λ y hy ey=>by
   have l:=h y hy x hx;have ex:=Nj.mp ex;have ey:=Nj.mp ey;have:xri xry k\/xri k xgP:=xQx k _ l;show xfw this
   ·show W1 ey.1 z z
   ·show W1 ex.2 z z)
  rw [hy,Fv,F6]
 ·have ZD:X.filter xQ2=[]:=Hi.mpr λ x ZD ex=>hx ⟨x,ZD,ex⟩
  rw [ZD,Fv,F6]
theorem Qc:∀{xs ys:xb2},xs.Pairwise xCO->ys.Pairwise xCO->xzY->xs=ys
 | [],[],_,_,_=>rfl
 | [],y::ys,_,_,h=>by have:=xWH (xF4 y ys);cases this
 |x::xs,[],_,_,h=>by have:=xHV h (xF4 x xs);cases this
 |x::xs,y::ys,hx,hy,h=>by
  have hxm:=xHV h (xF4 x xs);have hym:=xWH (xF4 y ys);have l1:xAW y:=by
   show xe6 hym z
   ·exact O.irr _
   ·exact xIj hx y z
  have l2:xCO y x:=by
   show xe6 hxm z
   ·exact O.irr _
   ·exact xIj hy x z
  have ex:xuG xgP x:=M0 O x;have ey:xuG xgP y:=Nj.mpr ⟨l1,l2⟩;have e:=h xgP;rw [Ff ex,Ff ey] at e;obtain⟨rfl,_⟩:=J8 e;have ht:xzY:=λ k=>by
   have e:=xkz;by_cases z:xuG k x
   ·rw [Ff z,Ff z] at e;exact(J8 e).2
   ·rw [Fl z,Fl z] at e;exact e
  rw [Qc (xI7 hx) (xI7 hy) ht]
omit O in
structure Mg (blt:κ->xvy)(kf:α->κ)(all out A B:xb2):Prop where
 s1:xv2 (xfu A)
 s2:xv2 (xfu B)
 sq0:xFG (xfu A++B)
omit O in
def Mg.pushA {all out A B X:xb2}(h:xSk (X++A) B)(hX:xb6 X (∀y∈B,xAW y)):xWb (xfu X) A B:=by
 refine xsZ (by show LE EE h.s1) (by show LE (EE out) h.sq0);rw [EE,EZ];have h1:=xCx;have h2:=xCy;refine xsZ h1.1 (λ a ha b hb=>?_)
 ·show LE EZ ⟨(EZ.mp (Ξ h1)).1,Ξ h2,hX⟩
 ·show xbX hb z z
  ·exact xbM h1 a ha b (xpP z)
  ·exact xbM h2 a ha b z
def Mg.pushB {all out A B Y:xb2}(h:xSk A (Y++B))(hY:∀y∈Y,xb6 A (xvB y x)):xWb (xfu Y) A B:=by
 have h1:=xCx;have h2:=xCy;refine Ψ ?_ (by show LE EE h.s2)
 ·rw [EE,EZ];refine xsZ h1.1 (λ a ha b hb=>?_)
  ·show LE EZ ⟨(EZ.mp (Ξ h2)).1,Ξ h1,λ a ha b hb=>le_of_lt O (hY a ha b hb)⟩
  ·show xbX hb z z
   ·exact xbM h2 a ha b (xpP z)
   ·exact xbM h1 a ha b z
 ·refine xHW h.sq0;have:xmE (xfu (Y++A)++B) (xfu (A++Y)++B):=xVz (Mv.refl out|>.app (d8 O hY).symm) B;rw [<-EE,<-EE] at this;show xba (EE (xfu A)) this
omit O in
def Mg.endA {all out A:xb2}(h:xSk A []):xv2 (xfu A)/\xFG (xfu A):=⟨h.s1,by have:=h.sq0;rwa [Fv] at this⟩
omit O in
def Mg.endB {all out B:xb2}(h:xSk [] B):xv2 (xfu B)/\xFG (xfu B):=⟨h.s2,by have:=h.sq0;rwa [Fv] at this⟩
omit O in
structure Mh (blt:κ->xvy)(kf:α->κ)(all A B out:xb2):Prop where
 s1:xv2 (A++out)
 s2:xv2 (B++out)
 sq0:xFG (A++B++out)
omit O in
def Mh.pushB {all A B out Y:xb2}(h:xGb A (B++Y) out)(hY:xb6 A (∀y∈Y,xAW y)):xGb A B (Y++out):=by
 refine⟨?_,by show xba EE h.s2,by rw [<-EE,EE A];exact h.sq0⟩;have h1:=xCx;have h2:=xCy;show Uf EZ (xsZ h1.1 (λ a ha b hb=>?_))
 ·show LE EZ ⟨Ξ (EZ.mp xpf),Ξ h2,λ a ha b hb=>xbM h2 a (xq5 ha) b hb⟩
 ·show xbX hb z z
  ·exact hY a ha b z
  ·exact xbM h1 a ha b z
def Mh.pushA {all A B out X:xb2}(h:xGb (A++X) B out)(hX:∀y∈B,xb6 X (xvB y x)):xGb A B (X++out):=by
 have h1:=xCx;have h2:=xCy;refine Ψ (by show xba EE h.s1) ?_
 ·show Uf EZ (xsZ xpf (λ a ha b hb=>?_))
  ·show LE EZ ⟨Ξ (EZ.mp h1.1),Ξ h1,λ a ha b hb=>xbM h1 a (xq5 ha) b hb⟩
  ·show xbX hb z z
   ·exact le_of_lt O (hX a ha b z)
   ·exact xbM h2 a ha b z
 ·refine xHW h.sq0;have:xmE (A++(B++X)++out) (A++(X++B)++out):=xVz (Mv.refl A|>.app (d8 O hX).symm) out;rw [<-EE,<-EE] at this;show xba (EE (A++B)) this
omit O in
def Mh.endA {all A out:xb2}(h:xGb A [] out):xv2 (A++out)/\xFG (A++out):=⟨h.s1,by have:=h.sq0;rwa [Fv] at this⟩
omit O in
def Mh.endB {all B out:xb2}(h:xGb [] B out):xv2 (B++out)/\xFG (B++out):=⟨h.s2,h.sq0⟩
universe s
universe SM
namespace SG
open PySem PyProof.Rows
noncomputable def io:Bool->Keyed->SB->xmK (xby (xuO xoq)):=sortPriv%PySem.Builtin.gallop
def xL:SB->SB->xuO SB:=sortPriv%PySem.Builtin.mergeLo
def xM:SB->SB->xuO SB:=sortPriv%PySem.Builtin.mergeHi
noncomputable def kf (κ:KeyKind) (p:Keyed):κ.α:=(x0G).getD κ.dflt
def O6 (κ:KeyKind)(p:Keyed):Prop:=∃a,Tm x0G a
def ord (κ:KeyKind):SM.Ord κ.blt:=⟨κ.irrefl,κ.trans,κ.negTrans,κ.total⟩
def ki (hO:κ.OneLt)(hk:xlG)(hx:xBW x)(hy:xBW y)(h:xrO (xjL x y)):
  xd7 (lt' x y):=by
 show xbH a ha hx b hb hy;rw [lt'_eq];show xpM;rw [hk,keyLt'_oneType];show xbB (wpS_lift (Jf (hO prog w A _ s xhW xh0 a b ha hb xjJ)));unfold kf at h;rw [ha,hb] at h;exact Fh h
def aX (hi:i<arr.size)(h:Q arr[i] sq0):xd7 (elem' arr i):=by
 rw [elem'_eq,xZ4 i hi];exact Fh h
noncomputable def PD (κ:KeyKind) (left:Bool) (key:Keyed) (arr:SB) (j:Nat):Bool:=xcA left (κ.blt (xMv arr j) xyj) (! xYl (xMv arr j))
def dR {κ:KeyKind}{arr:SB}{j:Nat}(h:j<arr.size):xMv arr j=xjr arr[j]:=by show xci KK (xZ4 j h);rfl
noncomputable def B0 (left:Bool) (key:Keyed) (arr:SB) (j:Nat):xuO xNH:=elem' arr j>>= λ y=>xcA left (lt' y key) (lt' key y>>= λ o=>pure (o.map λ c=> ! c))
def zl {prog:LY}{w:LZ}{A:L3}{E:xad}{s:LX}{κ:KeyKind}(hO:κ.OneLt){sq0:SortSt}{left:Bool}{key:Keyed}{arr:SB}{j:Nat}{Q:xNH->xf9}(hk:xlG)(hj:j<arr.size)(Oz:xEE)(ha:xBW arr[j])
  (h:xrO (xYg j)):xd7 (B0 left key arr j):=by
 unfold B0;unfold PD at h;rw [dR hj] at h;show xvl hj ?_;cases left with
 |true=>
  simp only [if_true] at h ⊢;exact xK1 hk ha Oz h
 |false=>
  simp only [Hj,JP] at h ⊢;exact wpS_bind (xK1 hk Oz ha (Fh h))
def mid {l r:Nat}(h:l<r):l+(r-l)/2<r:=GF (Nat.div_lt_self (IW h) (by decide))
def mz (h:l≤r)(k:r-l≤n-xPd n):l=r:=ED h (xBC (Nat.le_zero.1 (xuI k (IM n))))
def dbl (a:Nat):a≤2*a:=Nat.le_mul_of_pos_left a (by decide)
def sV {prog:LY}{w:LZ}{A:L3}{E:xad}{s:LX}{sq0:SortSt}{n MN hi:Nat}{c:xby Bool}{f:xby ((xOM×xfl)->xuO (ForInStep (xOM×xfl)))}{Q:(xOM×xfl)->xf9}
  (h1:MN≤hi) (h2:xc1 hi) (mono:∀i j,i≤j->j<n->SL (c j)->SL (c i)) (QF:∀i,i<MN->SL (c i)) (Uo:∀i,hi≤i->i<n->Μ (c i))
  (fd:∀x MN hi,MN≥hi->xIn (f x (xhh MN hi)) (λ r st'=>st'=sq0/\r=.done (xhh MN hi)))
  (fy:∀x MN hi,MN<hi->xc1 hi->xIn (f x (xhh MN hi)) (λ r st'=>st'=sq0/\r=xcA (c (MN+(hi-MN)/2)) (.yield (xhh (MN+(hi-MN)/2+1) hi)) (.yield (xhh MN (MN+(hi-MN)/2)))))
  (h:∀k,xwJ->(∀i,i<k->SL (c i))->(∀i,k≤i->i<n->Μ (c i))->Q (xhh k k) sq0):xd7 (forIn [:n] (xhh MN hi) f):=by
 refine xTe (λ x d st'=>st'=sq0/\∃MN hi,d=xhh MN hi/\MN≤hi/\xc1 hi/\hi-MN≤n-x/\(∀i,i<MN->SL (c i))/\(∀i,hi≤i->i<n->Μ (c i))) ?_ ?_ ⟨rfl,MN,hi,rfl,h1,h2,EF xet h2,QF,Uo⟩
 ·rintro x d st' _ hx ⟨rfl,MN,hi,rfl,h1,h2,h3,QF,Uo⟩;by_cases Np:MN≥hi
  ·refine HV (fd x MN hi Np) ?_;rintro r st' ⟨rfl,rfl⟩;show xb9 MN hi (ED h1 Np) (h MN h2 QF Uo)
  ·have hm:=mid (Jj Np);refine HV (fy x MN hi (Jj Np) h2) ?_;rintro r st' ⟨rfl,rfl⟩;by_cases hc:SL (c (MN+(hi-MN)/2))
   ·show xnf hc ⟨rfl,_,_,rfl,hm,h2,EF (K4 (HS xes) _) (HN h3 1),λ i hi'=>mono i _ (F9 hi') (EM hm h2) hc,Uo⟩
   ·show xrT hc ⟨rfl,_,_,rfl,xes,xJQ hm h2,EF (HN (HP hm) _) (by show LE Lh (HN h3 1)),QF,Ε i h1 h2⟩;cases e:c i with
    |false=>rfl
    |true=>show xaq (mono _ i h1 h2 e) hc
 ·rintro d st' ⟨rfl,MN,hi,rfl,h1,h2,h3,QF,Uo⟩;show xb9 MN hi (mz h1 h3) (h MN h2 QF Uo)
def fg {prog:LY}{w:LZ}{A:L3}{E:xad}{s:LX}{κ:KeyKind}(hO:κ.OneLt){left:Bool}{key:Keyed}{arr:SB}{base n hint:Nat}{sq0:SortSt}{Q:xoq->xf9}(hk:xlG)(hn:base+n≤arr.size)(hh:hint<n)(Oz:xEE)
  (MB:xlb p arr.toList p) (mono:∀i j,i≤j->j<n->SL (xni j)->SL xvf)
  (h:∀k,xwJ->(∀i,i<k->SL xvf)->(∀i,k≤i->i<n->Μ xvf)->xrO k):
  xd7 (xMd left arr base n hint):=by
 have hB:∀(i:Nat) {Q':xNH->xf9},i<n->Q' (some xvf) sq0->xIn (B0 left key arr (base+i)) Q':=λ i Q' hi hq=>
  zl hO hk (xKC hi _ hn) Oz (MB _ Z6) hq
 show xtM (hB hint hh ?_);cases hr:xni hint with
 |true=>
  rw [xai];show xiW (λ x d st'=>st'=sq0/\∃la of,d=xhh la of/\la<of/\x<of/\xLO<n/\SL (xni (xLO))) (Q:=λ d st'=>st'=sq0/\∃la of,d=xhh la of/\la<of/\xLO<n/\SL (xni (xLO))/\(n-hint≤of\/(xSJ<n/\Μ (xni (xSJ))))) ?_ ?_ ⟨rfl,0,1,rfl,by show xO1,by show xO1,by assumption,hr⟩ ?_
  ·rintro x d st' _ hx ⟨rfl,la,of,rfl,h1,h2,h3,h4⟩;dsimp only;by_cases Np:of≥n-hint
   ·show xnf Np (Fh ⟨rfl,la,of,rfl,h1,h3,h4,.inl Np⟩)
   ·rw [ES Np];show xtM (hB xSJ (by exact GF xJj) ?_);cases e:xni (xSJ) with
    |false=>
     show xnf Z7 (Fh ⟨rfl,la,of,rfl,h1,h3,h4,xei (by exact GF xJj) e⟩)
    |true=>
     show xlq Z9 (Fh ⟨rfl,of,2*of+1,rfl,HE xOR,x0t h2 xOR,by exact GF xJj,e⟩)
  ·rintro d st' ⟨rfl,la,of,rfl,h1,h2,h3,h4⟩;exact⟨rfl,la,of,rfl,h1,h3,h4,.inl (xKQ xet h2)⟩
  ·rintro d st' ⟨rfl,la,of,rfl,h1,h3,h4,h5⟩;dsimp only;show xbB (sV (c:=λ i=>xvf) (HX (xUl ⟨h1,xME h3⟩) _) (xuI (Hb xfR _) (xJL hh)) mono (λ i hi=>mono i _ (show i≤xLO by exact F9 hi) h3 h4) (Ε i h6 h7) ?_ ?_ λ k h6 h7 h8=>?_)
   ·show xKN h5 z z2
    ·rw [HC z,xJL hh] at h6;show xaq h7 (xBK h6)
    ·cases e:xvf with
     |false=>rfl
     |true=>show W1 (mono _ i (by show π (FR (E4 (xME z))) h6 h6) h7 e) z2 z2
   ·intro x MN hi Np;dsimp only;show xnf Np xpm
   ·intro x MN hi Mb hhn;dsimp only;rw [ES (by exact Lw Mb)];show xtM (hB _ (EM (mid Mb) hhn) ?_)
    split
    ·exact xpm
    ·exact xpm
   ·exact Fh (xkz h6 h7 h8)
 |false=>
  rw [ES Z9];show xiW (λ x d st'=>st'=sq0/\∃la of,d=xhh la of/\la<of/\x<of/\la≤hint/\Μ (xni (hint-la))) (Q:=λ d st'=>st'=sq0/\∃la of,d=xhh la of/\la<of/\la≤hint/\Μ (xni (hint-la))/\(hint+1≤of\/(of≤hint/\SL (xni (hint-of))))) ?_ ?_ ⟨rfl,0,1,rfl,by show xO1,by show xO1,by exact xan,hr⟩ ?_
  ·rintro x d st' _ hx ⟨rfl,la,of,rfl,h1,h2,h3,h4⟩;dsimp only;by_cases Np:of≥hint+1
   ·show xnf Np (Fh ⟨rfl,la,of,rfl,h1,h3,h4,.inl Np⟩)
   ·rw [ES Np];show xtM (hB (hint-of) (by exact Gy hh) ?_);cases e:xni (hint-of) with
    |true=>
     show xnf Z7 (Fh ⟨rfl,la,of,rfl,h1,h3,h4,xei (by exact FS Np) e⟩)
    |false=>
     show xlq Z9 (Fh ⟨rfl,of,2*of+1,rfl,HE xOR,x0t h2 xOR,by exact FS Np,e⟩)
  ·rintro d st' ⟨rfl,la,of,rfl,h1,h2,h3,h4⟩;exact⟨rfl,la,of,rfl,h1,h3,h4,.inl (by exact xKQ hh h2)⟩
  ·rintro d st' ⟨rfl,la,of,rfl,h1,h3,h4,h5⟩;dsimp only;show xbB (sV (c:=λ i=>xvf) (xuI (K4 (xUl ⟨h1,HE h3⟩) _) (Nat.add_sub_add_right ..)) (xKQ xet hh) mono (P3 i hi) (Ε i h6 h7) ?_ ?_ λ k h6 h7 h8=>?_)
   ·show xKN h5 z z2
    ·rw [HC z,IM] at hi;cases hi
    ·exact mono i _ (show i≤hint-of by rw [FR (Ln z),LF z] at hi;exact F9 hi) (by exact Gy hh) z2
   ·cases e:xvf with
    |false=>rfl
    |true=>show W1 (mono _ i (show hint-la≤i by assumption) h7 e) h4 h4
   ·intro x MN hi Np;dsimp only;show xnf Np xpm
   ·intro x MN hi Mb hhn;dsimp only;rw [ES (by exact Lw Mb)];show xtM (hB _ (EM (mid Mb) hhn) ?_)
    split
    ·exact xpm
    ·exact xpm
   ·exact Fh (xkz h6 h7 h8)
universe SG
namespace SG
open PySem PyProof.Rows SM
abbrev MM (κ:KeyKind):xea Keyed Keyed:=Le κ.blt xjr
abbrev OU (κ:KeyKind):xea Keyed Keyed:=Lt κ.blt xjr
def cK (κ:KeyKind)(a b r:SB):Prop:=r.toList.Pairwise xbW/\xj1 r.toList (a.toList++b.toList)
def MA (κ:KeyKind)(a b out:SB)(ia ib:Nat):Prop:=Mg κ.blt xjr (a.toList++b.toList) out.toList xG7 xBT
def MA.sa {κ:KeyKind}{a:SB}{b:SB}{out:SB}{ia ib:Nat}(h:xn6):xmr xG7:=Ξ xCx
def MA.sb {κ:KeyKind}{a:SB}{b:SB}{out:SB}{ia ib:Nat}(h:xn6):xmr xBT:=Ξ xCy
def gn {xs:SB}{i:Nat}(h:xhL i):xxj=xs[i]::xNA i 1:=by
 have:xUv i:=by show xuY
 show xak (GG this)
def jw {κ:KeyKind}{xs:SB}{i:Nat}(h:xhL i)(s:xmr xxj){y:Keyed}(hy:y∈xxj):xbW xs[i] y:=by
 rw [gn h] at s hy;show xe6 hy z
 ·exact xlI
 ·exact xIj s y z
def j6 {xs:SB}{i k:Nat}:xBO i (i+k)=xSG:=by
 rw [KM,JO];congr 1;exact Ii _ _
def gq {xs:SB}{i:Nat}:xBO i xs.size=xxj:=by
 rw [KM,JO,xKS]
def kG {xs:SB}{i k:Nat}:xSG++xNA i k=xxj:=by
 rw [<-Gg,Ft]
theorem MA.pushA {κ:KeyKind}{a:SB}{b:SB}{out:SB}{ia ib k:Nat}(h:xn6)(hX:xb6 ((xG7).take k) (xpy y xBT x y)):xtW a b (xfu (xYr (ia+k))) (ia+k) ib:=by
 show xwi MA;rw [FD,j6];rw [<-kG (k:=k)] at h;exact Mg.pushA h hX
theorem MA.pushB {κ:KeyKind}{a:SB}{b:SB}{out:SB}{ia ib k:Nat}(h:xn6)(hY:∀y∈(xBT).take k,xb6 xG7 (xeI y x)):xtW a b (xfu (xTd (ib+k))) ia (ib+k):=by
 show xwi MA;rw [FD,j6];rw [<-kG (xs:=b) (k:=k)] at h;exact Mg.pushB xeZ h hY
def qx {out xs:SB}{i:Nat}(h:xhL i):xDE xs i=xfu (xs.extract i (i+1)):=by
 apply LD.mp;rw [Lq,FD,j6,gn h];rfl
def MA.pushA1 {κ:KeyKind}{a:SB}{b:SB}{out:SB}{ia ib:Nat}(h:xn6)(Vt:xk8 ia)(X5:xlt ib)(hl:xbW a[ia] b[ib]):xtW a b (xDE a ia) (ia+1) ib:=by
 show Uf (qx Vt) (h.pushA λ x hx y hy=>?_)
 rw [gn Vt] at hx;show xb9 x a[ia] (by simpa using hx) (xgI hl (jw X5 h.sb hy))
def MA.pushB1 {κ:KeyKind}{a:SB}{b:SB}{out:SB}{ia ib:Nat}(h:xn6)(Vt:xk8 ia)(X5:xlt ib)(hl:xeI b[ib] a[ia]):xtW a b (xDE b ib) ia (ib+1):=by
 show Uf (qx X5) (h.pushB λ y hy x hx=>?_)
 rw [gn X5] at hy;show xb9 y b[ib] (by show xKf) (xLa hl (jw Vt h.sa hx))
def MA.doneB {κ:KeyKind}{a:SB}{b:SB}{out:SB}{ia ib:Nat}(h:xn6)(e:ib=b.size):xl1 (xfu xWJ++xWG):=by
 unfold MA at h;have e0:xBT=[]:=GU (by simp [e]);rw [e0] at h;unfold cK;rw [FD,FD,gq,gq,e0,Fv];exact h.endA
def MA.doneA {κ:KeyKind}{a:SB}{b:SB}{out:SB}{ia ib:Nat}(h:xn6)(e:ia=a.size):xl1 (xfu xWJ++xWG):=by
 unfold MA at h;have e0:xG7=[]:=GU (by simp [e]);rw [e0] at h;unfold cK;rw [FD,FD,gq,gq,e0,Fv];exact h.endB
def MA.last {κ:KeyKind}{a:SB}{b:SB}{out:SB}{ia ib:Nat}(h:xn6)(e:ia+1=a.size)(hl:∀y∈b.toList,xb6 xZg (xeI y x)):xl1 (xfu xWG++xWJ):=by
 have h2:=h.pushB (k:=xzp ib) λ y hy x hx=>hl y (xJM hy) x (by show LE (Ω xES ia (xRg e)) hx)
 unfold MA at h2;have e0:b.toList.drop (ib+(xzp ib))=[]:=GU (by simp;exact xbn [_,_,_] IO xcc IO Φ τ);rw [e0] at h2;have h3:=h2.endA;unfold cK;rw [FD] at h3;rw [FD,FD,gq,gq];have e1:xlw (xTd (ib+(xzp ib))) xBT:=by rw [j6,xKS]
 show π e1 h3 h3
structure N8 (sq0 st':SortSt):Prop where
 k:kindOf st'=kindOf sq0
 a:xCl=xqA
 p:x1k=xB0
 f:failedOf st'=failedOf sq0
def N8.refl (sq0:SortSt):N8 sq0 sq0:=xc8 rfl rfl rfl
def yw:xby (xuO Unit):=sortPriv%PySem.Builtin.setMinGallop
def eK {prog:LY}{w:LZ}{A:L3}{E:xad}{s:LX}{XQ sq0:SortSt}{g:Nat}{Q:Unit->xf9}(h0:N8 XQ sq0)(h:∀st',N8 XQ st'->xSb):xd7 (yw g):=by
 refine wpS_modify (xgp ⟨h0.k,h0.a,h0.p,h0.f⟩)
def Ak {κ:KeyKind}{xs:SB}(h:xTf){i j:Nat}(ZM:i≤j)(hj:xhL j):Μ (xoy j (xtv i)):=by
 rw [dR hj,dR (Fq ZM hj)];show xbx i j z z
 ·exact xoU h i j (by simp;exact JA z hj) (by simpa using hj) z
 ·show xb9 i j (ED ZM z) xlI
def sD {prog:LY}{w:LZ}{A:L3}{E:xad}{s:LX}{κ:KeyKind}(hO:κ.OneLt){sq0:SortSt}{key:Keyed}{xs:SB}{i n hint:Nat}{Q:xoq->xf9}(hk:xlG)(hs:xTf)(MB:xOW p p)(Oz:xEE)(hn:xy0 (i+n))(hh:hint<n)
  (h:∀k,xwJ->(∀j,j<k->Μ (xoX (i+j)))->(∀j,k≤j->j<n->SL (xoX (i+j)))->xrO k):xd7 (xMd false xs i n hint):=by
 have eb:∀j,PD κ false key xs j= ! xoX j:=xMe j
 refine fg hO hk hn hh Oz MB (λ p q VN hq hb=>?_) λ k h1 h2 h3=>xkz h1 xvZ (Ε j hj QC)
 ·rw [eb] at hb ⊢;have MX:Μ (xoX (i+q)):=by show xiA
  have:=Ak hs (show i+p≤i+q from HG.mpr VN) (xKC hq _ hn);cases e:xoX (i+p) with
  |false=>rfl
  |true=>
   show xfw (xNl _ (i+q) _ e)
   ·show W1 MX z z
   ·show W1 this z z
 ·show xg7 (h2 j hj) eb;show xmD
 ·show xg7 (h3 j hj QC) eb;show xmD
def t5 {prog:LY}{w:LZ}{A:L3}{E:xad}{s:LX}{κ:KeyKind}(hO:κ.OneLt){sq0:SortSt}{key:Keyed}{xs:SB}{i n hint:Nat}{Q:xoq->xf9}(hk:xlG)(hs:xTf)(MB:xOW p p)(Oz:xEE)(hn:xy0 (i+n))(hh:hint<n)
  (h:∀k,xwJ->(∀j,j<k->SL (xoy (i+j) xyj))->(∀j,k≤j->j<n->Μ (xoy (i+j) xyj))->xrO k):xd7 (xMd true xs i n hint):=by
 have eb:∀j,PD κ true key xs j=xoy j xyj:=xMe j
 refine fg hO hk hn hh Oz MB (λ p q VN hq hb=>?_) λ k h1 h2 h3=>xkz h1 xvZ (Ε j hj QC)
 ·rw [eb] at hb ⊢;have:=Ak hs (show i+p≤i+q from HG.mpr VN) (xKC hq _ hn);show xfw (xNl _ (i+p) _ hb)
  ·show W1 this z z
  ·exact z
 ·exact h2 j hj
 ·exact h3 j hj QC
def aP [xHU] {Q:α->xf9}(hc:c)(h:xwW m1 Q):xwW (xSp m1 m2) Q:=by show xnf hc h
def aL [xHU] {Q:α->xf9}(hc:¬c)(h:xwW m2 Q):xwW (xSp m1 m2) Q:=by show xlq hc h
def cW {M:Model}{A:L3}{E:xad}{s:LX}{α:Type}{c:Prop} [xHU] {m1 m2:xuO α}{Q:α->xf9}{sq0:SortSt}(h1:xwW m1 Q)(h2:xwW m2 Q):xwW (xSp m1 m2) Q:=by
 by_cases hc:c
 ·exact aP hc h1
 ·exact aL hc h2
def nD {xs:SB}{i k:Nat}{x:Keyed}(h:x∈xSG):∃j,j<k/\∃hj:xhL (i+j),x=xs[i+j]:=by
 obtain⟨j,hj⟩:=List.mem_iff_getElem?.mp h;rw [Lc] at hj
 split at hj
 ·rename_i hjk
  rw [Ik] at hj;have Mb:=xdN hj;refine⟨j,hjk,by simpa using Mb,?_⟩;have:=(ET.mp hj).2;rw [<-this];rfl
 ·cases hj
def LoQ (κ:KeyKind)(a b:SB)(XQ:SortSt){β:Type}(low:Nat)(pr:SB->xmK (xdq β))(c:xOL×β)(sq0:SortSt):Prop:=
 N8 XQ sq0/\((∃r,Tm xg6 r/\xl1 r)\/∃out ia ib,xvx/\pr out ia ib xi5/\xn6/\xk8 (ia+1)/\xlt ib/\low≤ia+ib)
def LoP (κ:KeyKind)(a b:SB)(sq0:SortSt)(y:Nat){γ δ ε:Type}(r:ForInStep (xOL×SB×Nat×Nat×γ×δ×ε))(st':SortSt):Prop:=match r with
 | .done c'=>xAd a b (y+1+1) (λ out ia ib d=>∃g p q,d=(out,ia,ib,g,p,q)) c' st'
 | .yield c'=>xAd a b (y+1+1) (λ out ia ib d=>∃g p q,d=(out,ia,ib,g,p,q)) c' st'/\xac c'.1
def pZ {prog:LY}{w:LZ}{A:L3}{E:xad}{s:LX}{κ:KeyKind}{a:SB}{b:SB}(hO:κ.OneLt){sq0:SortSt}{Q:SB->xf9}(hk:xlG)(ha:xlb p a.toList p)(hb:xlb p b.toList p)(sa:xZd)(sb:xZe)
  (na:xk8 0) (nb:xlt 0) (h0:xeI b[0] a[0]) (hl:∀y∈b.toList,xb6 xZg (xeI y x)) (h:∀r st',xSf->xl1 r->Q r st'):
  xd7 (xL a b):=by
 show xbB xDv
 extract_lets total done lastOfA ia0 ib0
 show xvl nb ?_
 extract_lets Yl
 have Y2:xtW a b Yl 0 1:=MA.pushB1 (out:=#[]) (ia:=0) (ib:=0) ⟨sa,sb,xhw⟩ na nb h0;by_cases e1:1=b.size
 ·refine xuL (by simpa [ib0] using e1) (xlo xCB (Y2.doneB e1))
 refine xrd (by simpa [ib0] using e1);by_cases e2:0+1=a.size
 ·refine xuL (by simpa [ia0] using e2) (xlo xCB (Y2.last e2 hl))
 refine xrd (by simpa [ia0] using e2);show xpM
 extract_lets mg0
 show xiW (λ y c st'=>xAd a b (y+1) (λ out ia ib d=>∃mg,d=(out,ia,ib,mg)) c st'/\xvx) (Q:=λ c st'=>xSf/\∃r,Tm xg6 r/\xl1 r) ?_ ?_ (xxM xCB ⟨Yl,0,1,rfl,xbs,Y2,FW na e2,Z5,(xfx [] xdR xdR)⟩) ?_
 rotate_left
 ·rintro c st' ⟨⟨_,⟨r,e,_⟩|⟨out,ia,ib,_,_,_,q1,q2,q3⟩⟩,en⟩
  ·show xpT
  ·exfalso;have:xPq=xzq:=by simp [total]
   exact(xru [_,_,_,_,_] (xll xyB 3 (xhv 4 Pi)) (xag (xaV (xnh xc7))) (xbJ q1 q2 (Ez q3 xgE)))
 ·rintro⟨c1,c2⟩ st' ⟨OR,r,e,hW⟩;show xC4 e e;exact Fh (h r st' OR hW)
 rintro y c Ue _ hy ⟨⟨hst1,⟨r,e,_⟩|⟨out1,ia1,ib1,_,⟨mg1,e2⟩,hM1,q1,q2,q3⟩⟩,en⟩
 ·show xpT
 show xCj c1 c2 c en e2;subst en e2;show xiW (λ x c st'=>xAd a b (y+1+x) (λ out ia ib d=>∃p q,d=(out,ia,ib,p,q)) c st'/\xvx) (Q:=λ c st'=>xAd a b (y+1+1) (λ out ia ib d=>∃p q,d=(out,ia,ib,p,q)) c st') ?_ ?_ (xxM hst1 ⟨out1,ia1,ib1,rfl,xp6,hM1,q1,q2,q3⟩) ?_
 ·rintro x c O2 _ hx ⟨⟨Nv,⟨r,e,_⟩|⟨WE,Xy,YM,_,⟨p2,r2,e2⟩,Wr,t1,t2,t3⟩⟩,en⟩
  ·show xpT
  show xCj c1 c2 c en e2;subst en e2;show xvl t2 (xHI (xzl Xy xy6) (wpS_bind (xK1 xZG xQe (ha _ Z6) ?_)));cases e:xjL b[YM] a[Xy] with
  |true=>
   have TY:=Wr.pushB1 (xfk xeH NE t1) t2 e;refine aP rfl (xHI t2 ?_);by_cases hz:YM+1=b.size
   ·refine xqd Nv (TY.doneB hz)
   ·refine xGu Nv ⟨_,Xy,YM+1,rfl,xp6,TY, xe5,xvW t2,xbn [_,_,_,_] (xoM xaS) Φ xeH xhG t3⟩ (xu1 Nv ⟨_,Xy,YM+1,rfl,xp6,TY,Gq t1,xvW t2,HS t3⟩)
  |false=>
   have TY:=Wr.pushA1 (xfk xeH NE t1) t2 e;refine xJs (xHI (xzl Xy (xfk xeH NE t1)) ?_);by_cases hz:Xy+1+1=a.size
   ·refine xqd Nv (TY.last hz hl)
   ·refine xGu Nv ⟨_,Xy+1,YM,rfl,xp6,TY,xvW t1, xe5,xbn [_,_,_,_] (xoM xaS) Φ xeH xPI t3⟩ (xu1 Nv ⟨_,Xy+1,YM,rfl,xp6,TY,xvW t1,Gq t2,xbn [_,_,_,_] xmQ xc7 xrj (xgg xaS) t3⟩)
 ·rintro c st' ⟨⟨_,⟨r,e,_⟩|⟨out,ia,ib,_,_,_,t1,t2,t3⟩⟩,en⟩
  ·show xpT
  ·exfalso;have:xPq=xzq:=by simp [total]
   exact(xru [_,_,_,_,_,_] (xll (xaG xm6) 4 (.a (xgg xfF) Pi)) (xag (xaV (.a xgT xfF))) (xbJ t1 t2 (Ez t3 xgE)))
 rintro⟨c1,c2⟩ O2 ⟨Nv,⟨r,e,hW⟩|⟨WE,Xy,YM,e,⟨p2,r2,e2⟩,Wr,t1,t2,t3⟩⟩
 ·show xC4 e e;exact Fh (xc8 Nv r hW)
 dsimp only at e e2;subst e e2;show xbB xDv;show xiW (λ x c st'=>xAd a b (y+1+1) (λ out ia ib d=>∃g p q,d=(out,ia,ib,g,p,q)) c st'/\xvx) (Q:=λ c st'=>xAd a b (y+1+1) (λ out ia ib d=>∃g p q,d=(out,ia,ib,g,p,q)) c st') ?_ ?_ (xxM Nv ⟨WE,Xy,YM,rfl,xgG _ _ rfl,Wr,t1,t2,t3⟩) ?_
 ·clear Wr t1 t2 t3 hM1 q1 q2 q3;rintro x c Ni _ hx ⟨⟨Ry,⟨r,e,_⟩|⟨T2,VM,VL,_,⟨g3,p3,r3,e2⟩,Wq,t1,t2,t3⟩⟩,en⟩
  ·show xpT
  show xCj c1 c2 c en e2;subst en e2
  extract_lets v1 v2 v3 v4 v5 v6 v7 v8 v9 v10 v11 v12 jp
  have Wb:∀g,xl2 (xSr g) (LoP κ a b sq0 y) Ni:=by
   intro g;show xbB (eK Ry λ N7 M'=>xHI t2 (wpS_bind (sD hO xM4 sa ha xQe (EC (xJL xy6)) (show 0<a.size-VM from Nat.zero_lt_sub_of_lt (E4 t1)) λ k f1 f2 f3=>?_)));have f1':k≤a.size-VM:=f1;show xD6 hM4 (xtW a b (T2++a.extract VM (VM+k)) (VM+k) VL) (Wq.pushA λ x hx y hy=>by
    show xvw j hj QC (nD hx);show xgb (f2 j hj) (dR QC) (xgI this (jw t2 Wq.sb hy)))
   extract_lets u1 XZ
   have Sk:∀out ia,xtW a b out ia VL->∀Vt:xk8 (ia+1),xeI b[VL] a[ia]->y+1+1≤ia+VL->xl2 (xRh out ia) (LoP κ a b sq0 y) N7:=by
    intro out ia hM Vt Mb RA;show xvl t2 ?_;have Yb:=hM.pushB1 xKg t2 Mb;by_cases hz:VL+1=b.size
    ·refine xqd M' (Yb.doneB hz)
    refine xLy;have t2':=xvW t2;show xvl (xzl ia xKg) (wpS_bind (t5 hO xM4 sb hb (ha _ Z6) (EC (FY t2)) (IW t2') λ k2 d1 d2 d3=>?_));show xD6 d1' (k2≤xzp (VL+1)) d1
    extract_lets w1 w2 YL
    have Sj:∀out ib,xn6->∀X5:xlt ib,xbW a[ia] b[ib]->y+1+1≤ia+ib->xl2 (YL () out ib) (LoP κ a b sq0 y) N7:=by
     intro out ib hM X5 hle RA;show xvl (xzl ia xKg) ?_;have hM6:=hM.pushA1 xKg X5 hle;have hw:=EF RA (Gb (Ib ia) ib);by_cases hz:ia+1+1=a.size
     ·refine xqd M' (hM6.last hz hl)
     refine xGu M' ⟨_,ia+1,ib,rfl,xgG _ _ rfl,hM6,xvW Vt,X5,hw⟩ (xu1 M' ⟨_,ia+1,ib,rfl,xgG _ _ rfl,hM6,xvW Vt,X5,hw⟩)
    clear_value YL
    by_cases O3:k2>0
    ·refine aP O3 ?_;have hM7:=Yb.pushB (k:=k2) λ y hy x hx=>by
      show xvw j hj QC (nD hy);show xgb (d2 j hj) (dR QC) (xLa this (jw (xzl ia xKg) Yb.sa hx))
     by_cases RN:VL+1+k2=b.size
     ·refine xHA RN M' (hM7.doneB RN)
     ·have Pn:=FW (KB t2 d1') RN;refine aL (On (RN xos)) (Sj _ (VL+1+k2) hM7 Pn ?_ (xLS RA (EF xm1 xes)));show xhM (d3 k2 Tl (xME Pn)) (dR Pn)
    ·refine aL O3 (Sj _ (VL+1) Yb t2' ?_ (xLS RA xm1));show xhM (d3 0 (FS O3) (IW t2')) (dR (show xlt (VL+1+0) from t2'))
   clear_value XZ
   by_cases O3:k>0
   ·refine aP O3 ?_;by_cases hz:VM+k+1=a.size
    ·refine xqd M' (hM4.last hz hl)
    refine xLy;by_cases RN:VM+k=a.size
    ·refine xHA RN M' (hM4.doneA RN)
    ·have Of:=FW (KB (E4 xy6) f1') RN;refine aL (On (RN xos)) (Sk _ (VM+k) hM4 (xvW Of) ?_ (EF t3 (Gb xes _)));show xhM (f3 k Tl (xME Of)) (dR Of)
   ·refine aL O3 (Sk _ VM Wq t1 ?_ t3);show xhM (f3 0 (FS O3) (IW xy6)) (dR (xzl (VM+0) xy6))
  clear_value jp
  exact cW (HV (Wb _) λ r st' q=>by cases r<;>exact q) (HV (Wb _) λ r st' q=>by cases r<;>exact q)
 ·rintro c st' ⟨q,_⟩;exact q
 rintro⟨c1,c2⟩ Ni ⟨Ry,⟨r,e,hW⟩|⟨T2,VM,VL,e,⟨g3,p3,r3,e2⟩,Wq,u1,u2,u3⟩⟩
 ·show xC4 e e;exact Fh (xc8 Ry r hW)
 dsimp only at e e2;subst e e2;exact wpS_bind (eK Ry λ N7 M'=>xu1 M' ⟨T2,VM,VL,rfl,xbs,Wq,u1,u2,u3⟩)
def MH (κ:KeyKind)(a b out:SB)(na nb:Nat):Prop:=Mh κ.blt xjr (a.toList++b.toList) xTu xTv out.toList.reverse
def MH.sa {κ:KeyKind}{a:SB}{b:SB}{out:SB}{na nb:Nat}(h:xz3):xmr xTu:=xCx.1
def MH.sb {κ:KeyKind}{a:SB}{b:SB}{out:SB}{na nb:Nat}(h:xz3):xmr xTv:=xCy.1
def sn {xs:SB}{i:Nat}(h:xhL i):xHg i 1=xZ5++[xs[i]]:=by
 have h':xUv i:=by show xuY
 rw [Ga,EI h'];rfl
def jf {κ:KeyKind}{xs:SB}{i:Nat}(h:xhL i)(s:xmr (xHg i 1)){y:Keyed}(hy:y∈xHg i 1):xbW y xs[i]:=by
 rw [sn h] at s hy;show xbX hy z z
 ·exact xbM (EZ.mp s) y z _ Z6
 ·show xb9 y xs[i] (by show xuZ) xlI
def df {xs:SB}{i n:Nat}(h:xc1 i):xBO i n=xj6 xxj n i:=by
 rw [KM,JO]
def oY {xs:SB}{i n:Nat}(h:xc1 i):xZ5++xBO i n=xs.toList.take n:=by
 rw [df h];have:n=i+(n-i):=Ih (FY h);rw(config:={occs:=.pos [2]}) [this];rw [KO]
def jj {xs:SB}{i n:Nat}{x:Keyed}(YT:xc1 i)(hn:xy0 n)(h:x∈xBO i n):∃j,i≤j/\∃hj:j<n,x=xs[j]:=by
 rw [df YT] at h;show xbq j hj QC rfl (nD h) ⟨i+j,xes,GF hj,rfl⟩
theorem MH.pushA {κ:KeyKind}{a:SB}{b:SB}{out:SB}{na nb at':Nat}(h:xz3)(hat:at'≤na)(hX:∀y∈xTv,xb6 (xH1 at').toList (xeI y x)):xAX (xW5 (xH1 at')) at' nb:=by
 show xwi MH;rw [<-oY hat] at h;rw [FD,IH,HQ,Hs];exact Mh.pushA xeZ h hX
theorem MH.pushB {κ:KeyKind}{a:SB}{b:SB}{out:SB}{na nb at':Nat}(h:xz3)(hat:at'≤nb)(hY:xb6 xTu (xpy y (xH2 at').toList x y)):xAX (xW5 (xH2 at')) na at':=by
 show xwi MH;rw [<-oY (xs:=b) hat] at h;rw [FD,IH,HQ,Hs];exact Mh.pushB h hY
def qj {out xs:SB}{i:Nat}(h:xhL i):xDE xs i=xW5 (xs.extract i (i+1)):=by
 apply LD.mp;rw [Lq,FD,HQ,j6,gn h];rfl
def MH.pushA1 {κ:KeyKind}{a:SB}{b:SB}{out:SB}{i j:Nat}(h:xEi (i+1) (j+1))(hi:xk8 i)(hj:xlt j)(hl:xeI b[j] a[i]):xAX (xDE a i) i (j+1):=by
 show Uf (qj hi) (h.pushA xRE λ y hy x hx=>?_)
 show xvw q q1 q2 (jj xEF xe5 hx);show xb9 q i (Nat.eq_of_le_of_lt_succ q1 q2) (gg xeZ (jf hj h.sb hy) hl)
def MH.pushB1 {κ:KeyKind}{a:SB}{b:SB}{out:SB}{i j:Nat}(h:xEi (i+1) (j+1))(hi:xk8 i)(hj:xlt j)(hl:xbW a[i] b[j]):xAX (xDE b j) (i+1) j:=by
 show Uf (qj hj) (h.pushB xEF λ x hx y hy=>?_)
 show xvw q q1 q2 (jj xEF xe5 hy);show xb9 q j (xif (xaf [_,_] NE Β IO Sc q2) [_,_] IO IO q1) (xgI (jf hi h.sa hx) hl)
def MH.doneA {κ:KeyKind}{a:SB}{b:SB}{out:SB}{na nb:Nat}(h:xz3)(e:na=0):xl1 (xH1 0++xH2 0++out.reverse):=by
 subst e;unfold MH at h;rw [Hx] at h;unfold cK;rw [FD,FD,HQ,xLd,xLd,Hy,Hy,IK,IK,Hx,F6];exact h.endB
def MH.doneB {κ:KeyKind}{a:SB}{b:SB}{out:SB}{na nb:Nat}(h:xz3)(e:nb=0):xl1 (xH1 0++xH2 0++out.reverse):=by
 subst e;unfold MH at h;rw [Hx] at h;unfold cK;rw [FD,FD,HQ,xLd,xLd,Hy,Hy,IK,IK,Hx,Fv];exact h.endA
def MH.first {κ:KeyKind}{a:SB}{b:SB}{out:SB}{na nb:Nat}(h:xz3)(e:nb=1)(hf:∀y∈x0u,xb6 a.toList (xeI y x)):xl1 (xH2 0++xH1 0++out.reverse):=by
 subst e;have h2:=h.pushA (at':=0) xan λ y hy x hx=>hf y hy x (by rw [xLd,Hy] at hx;exact FN hx)
 unfold MH at h2;rw [Hx,FD,IH,HQ,Hs] at h2;have h3:=h2.endB;unfold cK;rw [FD,FD,HQ,EE];rw [df (xs:=b) xan,Hy,IK];exact h3
def HiQ (κ:KeyKind)(a b:SB)(XQ:SortSt){β:Type}(low:Nat)(pr:SB->xmK (xdq β))(c:xOL×β)(sq0:SortSt):Prop:=
 N8 XQ sq0/\((∃r,Tm xg6 r/\xl1 r)\/∃out i j,xvx/\pr out (i+1) (j+1) xi5/\xEi (i+1) (j+1)/\xk8 i/\xlt j/\0<j/\i+1+(j+1)+low≤xzq)
def HiP (κ:KeyKind)(a b:SB)(sq0:SortSt)(y:Nat){γ δ ε:Type}(r:ForInStep (xOL×Nat×Nat×SB×γ×δ×ε))(st':SortSt):Prop:=match r with
 | .done c'=>xAe a b (y+1+1) (λ out ia ib d=>∃g p q,d=(ia,ib,out,g,p,q)) c' st'
 | .yield c'=>xAe a b (y+1+1) (λ out ia ib d=>∃g p q,d=(ia,ib,out,g,p,q)) c' st'/\xac c'.1
def o7 {prog:LY}{w:LZ}{A:L3}{E:xad}{s:LX}{κ:KeyKind}{a:SB}{b:SB}(hO:κ.OneLt){sq0:SortSt}{Q:SB->xf9}(hk:xlG)(ha:xlb p a.toList p)(hb:xlb p b.toList p)(sa:xZd)(sb:xZe)
  (na:xk8 0) (nb:xlt 0) (hf:∀y∈x0u,xb6 a.toList (xeI y x)) (hl:xeI b[xzp 1] a[xES]) (h:∀r st',xSf->xl1 r->Q r st'):
  xd7 (xM a b):=by
 show xty ma V8 ma (a.size=ma+1) ⟨xES,xMj na⟩;show xty mb ZJ mb (b.size=mb+1) ⟨xzp 1,xcY (xaf [_,_] IO Β IO Β τ) [_,_] Β IO Β IO (xl6 xdR xaH nb)⟩;have Mb:xeI (b[mb]'(xVl)) (a[ma]'(xN8)):=by
  have e1:xzp 1=mb:=xRg ZJ.symm;have e2:xES=ma:=xRg V8.symm;simp only [e1,e2] at hl;exact hl
 have hM00:xAX #[] (ma+1) (mb+1):=by
  unfold MH;have e1:a.toList.take (ma+1)=a.toList:=E8 (by simp;exact EC V8);have e2:b.toList.take (mb+1)=b.toList:=E8 (by simp;exact EC ZJ);rw [e1,e2];exact⟨by simpa using sa,by simpa using sb,by simpa using xhw⟩
 have Y2:xAX #[a[ma]'(xN8)] ma (mb+1):=hM00.pushA1 xN8 xVl Mb;show xbB xDv
 extract_lets total done firstOfB XY nb0
 have ena:XY=ma:=by show xES=ma;exact xRg V8.symm
 have enb:nb0=mb+1:=ZJ
 clear_value XY nb0
 subst ena enb;show xvl (xzl XY xN8) ?_
 extract_lets Yl
 by_cases e1:XY=0
 ·refine xGY e1 (xlo xCB (Y2.doneA e1))
 refine xEk (e1 xos);by_cases e2:mb+1=1
 ·refine xGY e2 (xlo xCB (Y2.first e2 hf))
 refine xEk (e2 xos);show xhi i0 i0 (XY=i0+1) ⟨XY-1,xJN e1⟩;show xpM
 extract_lets mg0
 show xiW (λ y c st'=>xAe a b (y+1) (λ out ia ib d=>∃mg,d=(ia,ib,out,mg)) c st'/\xvx) (Q:=λ c st'=>xSf/\∃r,Tm xg6 r/\xl1 r) ?_ ?_ (xxM xCB ⟨Yl,i0,mb,rfl,xbs,Y2,(xfk xeH NE (EC V8.symm)),xVl,Z5,(xae [_,_,_,_] (xnr xeH) xoE (.a xrj xdR) xc7 (EC ZJ.symm) (EC V8.symm))⟩) ?_
 rotate_left
 ·rintro c st' ⟨⟨_,⟨r,e,_⟩|⟨out,i,j,_,_,_,q1,q2,q3,q4⟩⟩,en⟩
  ·show xpT
  ·exfalso;have:xPq=xzq:=by simp [total]
   exact(xru [_,_,_,_,_] (.a (.a (xgg xm6) (xeW 4 1)) Pi) (xnh Pi) (Ez q4 xgE))
 ·rintro⟨c1,c2⟩ st' ⟨OR,r,e,hW⟩;show xC4 e e;exact Fh (h r st' OR hW)
 clear Y2 hM00;rintro y c Ue _ hy ⟨⟨hst1,⟨r,e,_⟩|⟨out1,i1,j1,_,⟨mg1,e2⟩,hM1,q1,q2,q3,q4⟩⟩,en⟩
 ·show xpT
 show xCj c1 c2 c en e2;subst en e2;show xiW (λ x c st'=>xAe a b (y+1+x) (λ out ia ib d=>∃p q,d=(ia,ib,out,p,q)) c st'/\xvx) (Q:=λ c st'=>xAe a b (y+1+1) (λ out ia ib d=>∃p q,d=(ia,ib,out,p,q)) c st') ?_ ?_ (xxM hst1 ⟨out1,i1,j1,rfl,xp6,hM1,q1,q2,q3,q4⟩) ?_
 ·rintro x c O2 _ hx ⟨⟨Nv,⟨r,e,_⟩|⟨WE,i2,j2,_,⟨p2,r2,e2⟩,Wr,t1,t2,t3,t4⟩⟩,en⟩
  ·show xpT
  show xCj c1 c2 c en e2;subst en e2;show xbB (xOO j2 t2 (xOO i2 t1 (xK1 xZG xQe (ha _ Z6) ?_)));cases e:xjL b[j2] a[i2] with
  |true=>
   have TY:=Wr.pushA1 t1 t2 e;refine xN9 rfl (xys i2 t1 ?_);by_cases hz:i2=0
   ·refine xqd Nv (TY.doneA hz)
   ·show xhi i3 i3 (i2=i3+1) ⟨i2-1,xJN hz⟩;refine xGu Nv ⟨_,i3,j2,rfl,xp6,TY,xy6, xe5, xe5,xbn [_,_,_,_,_,_] (xzb (.a xeH Β) xfF) xgT (.a xrj xyB) xgT t4⟩ (xu1 Nv ⟨_,i3,j2,rfl,xp6,TY,xy6,(xEj t2),Lm t3,xbn [_,_,_,_,_,_] (xzb (.a xeH Β) xaS) xDu (xzb xrj xm6) xDu t4⟩)
  |false=>
   have TY:=Wr.pushB1 t1 t2 e;refine xJs (wpS_bind (xys j2 t2 ?_));by_cases hz:j2=1
   ·refine xqd Nv (TY.first hz hf)
   ·show xhi j3 j3 (j2=j3+1) ⟨j2-1,xMj t3⟩;refine xGu Nv ⟨_,i2,j3,rfl,xp6,TY, xe5,Gd t2,Z5,xbn [_,_,_,_,_,_] (xzb (xoM (xaG Β)) xfF) xgT (.a xrj xyB) xgT t4⟩ (xu1 Nv ⟨_,i2,j3,rfl,xp6,TY,(xEj t1),Gd t2,Z4,xbn [_,_,_,_,_,_] (xzb (xoM (xaG Β)) xaS) xDu (xzb xrj xm6) xDu t4⟩)
 ·rintro c st' ⟨⟨_,⟨r,e,_⟩|⟨out,i,j,_,_,_,t1,t2,t3,t4⟩⟩,en⟩
  ·show xpT
  ·exfalso;have:xPq=xzq:=by simp [total]
   exact(xru [_,_,_,_,_,_] (.a (xzb (xhv 3 (xeW 4 1)) xfF) Pi) (xN1 xfF) (Ez t4 xgE))
 rintro⟨c1,c2⟩ O2 ⟨Nv,⟨r,e,hW⟩|⟨WE,i2,j2,e,⟨p2,r2,e2⟩,Wr,t1,t2,t3,t4⟩⟩
 ·show xC4 e e;exact Fh (xc8 Nv r hW)
 dsimp only at e e2;subst e e2;show xbB xDv;show xiW (λ x c st'=>xAe a b (y+1+1) (λ out ia ib d=>∃g p q,d=(ia,ib,out,g,p,q)) c st'/\xvx) (Q:=λ c st'=>xAe a b (y+1+1) (λ out ia ib d=>∃g p q,d=(ia,ib,out,g,p,q)) c st') ?_ ?_ (xxM Nv ⟨WE,i2,j2,rfl,xgG _ _ rfl,Wr,t1,t2,t3,t4⟩) ?_
 ·clear Wr t1 t2 t3 t4 hM1 q1 q2 q3 q4;rintro x c Ni _ hx ⟨⟨Ry,⟨r,e,_⟩|⟨T2,i3,j3,_,⟨g3,p3,r3,e2⟩,Wq,t1,t2,t3,t4⟩⟩,en⟩
  ·show xpT
  show xCj c1 c2 c en e2;subst en e2
  extract_lets v1 v2 v3 v4 v5 v6 v7 v8 v9 v10 v11 v12 jp
  have Wb:∀g,xl2 (xSr g) (HiP κ a b sq0 y) Ni:=by
   intro g;show xbB (eK Ry λ N7 M'=>wpS_bind (xOO j3 t2 (sD (i:=0) (n:=i3+1) (hint:=i3) hO xM4 sa ha xQe (xld (Ge _) t1) (Kt _) λ k f1 f2 f3=>?_)));show xD6 hM4 (xAX (T2++(a.extract k (i3+1)).reverse) k (j3+1)) (Wq.pushA f1 λ y hy x hx=>by
    show xvw q q1 q2 (jj f1 xe5 hx);show xhS (f3 q q1 xe5) Ge (dR (EM q2 t1));exact gg xeZ (jf t2 Wq.sb hy) this)
   extract_lets u1 u2 XZ
   have Sk:∀out i,xEi (i+1) (j3+1)->∀hi:xk8 i,xbW a[i] b[j3]->i+1+(j3+1)+(y+1+1)≤xzq->xl2 (xRh (i+1) out) (HiP κ a b sq0 y) N7:=by
    intro out i hM hi hle RA;show xbB (xys j3 t2 ?_);have Yb:=hM.pushB1 hi t2 hle;by_cases hz:j3=1
    ·refine xqd M' (Yb.first hz hf)
    refine xLy;show xhi j4 j4 (j3=j4+1) ⟨j3-1,xMj t3⟩;show xbB (xOO i hi (t5 (i:=0) (n:=j4+1) (hint:=j4) hO xM4 sb hb (ha _ Z6) (xld (Ge _) (E4 t2)) (Kt _) λ k2 d1 d2 d3=>?_));dsimp-zeta only
    extract_lets w1 w2 w3 YL
    have Sj:∀out j,xEi (i+1) (j+1)->∀hj:xlt j,0<j->xeI b[j] a[i]->i+1+(j+1)+(y+1+1)≤xzq->xl2 (YL () (j+1) out) (HiP κ a b sq0 y) N7:=by
     intro out j hM hj hj0 Mb RA;show xbB (xys i hi ?_);have hM6:=hM.pushA1 hi hj Mb;by_cases hz:i=0
     ·refine xqd M' (hM6.doneA hz)
     show xhi i5 i5 (i=i5+1) ⟨i-1,xJN hz⟩;have hw:=EF (Gb (Gb xm1 _) _) RA;refine xGu M' ⟨_,i5,j,rfl,xgG _ _ rfl,hM6,Gd hi,hj,hj0,hw⟩ (xu1 M' ⟨_,i5,j,rfl,xgG _ _ rfl,hM6,Gd hi,hj,hj0,hw⟩)
    clear_value YL
    have O7:∀q,q+1=k2->∀hq:xlt q,xeI b[q] a[i]:=λ q hq QE=>by
     show xMl (d2 q (xxV hq)) Ge (dR QE)
    by_cases O3:j4+1-k2>0
    ·refine aP O3 ?_;have hM7:=Yb.pushB (at':=k2) d1 λ x hx y hy=>by
      show xvw q q1 q2 (jj d1 (E4 t2) hy);show xhS (d3 q q1 q2) Ge (dR (JA q2 t2));exact xgI (jf hi Yb.sa hx) this
     by_cases RN:k2=1
     ·refine xHA RN M' (hM7.first RN hf)
     refine xEk (RN xos);by_cases hz3:k2=0
     ·refine xHA hz3 M' (hM7.doneB hz3)
     refine xEk (hz3 xos);show xhi k3 k3 (k2=k3+1) ⟨k2-1,xJN hz3⟩;exact Sj _ k3 hM7 (JA d1 t2) (J5 (On (RN (xG8 z)))) (O7 k3 rfl _) (EF (Gb (Hb (Ln d1) _) _) RA)
    ·refine xrd O3;exact Sj _ j4 Yb (Gd t2) (J5 (On (hz (xG8 z)))) (O7 j4 (ED (xBC (Jr O3)) d1) _) (EF (Gb (Hb xm1 _) _) RA)
   clear_value XZ
   have O7:∀q,q+1=k->∀hq:xk8 q,xbW a[q] b[j3]:=λ q hq QE=>by
    show xMl (f2 q (xxV hq)) Ge (dR QE)
   by_cases O3:i3+1-k>0
   ·refine aP O3 ?_;by_cases hz:k=0
    ·refine xqd M' (hM4.doneA hz)
    refine xLy;show xhi k3 k3 (k=k3+1) ⟨k-1,xJN hz⟩;exact Sk _ k3 hM4 (EM f1 t1) (O7 k3 rfl _) (EF (Gb (Gb f1 _) _) t4)
   ·refine xrd O3;exact Sk _ i3 Wq t1 (O7 i3 (ED (xBC (Jr O3)) f1) _) t4
  clear_value jp
  exact cW (HV (Wb _) λ r st' q=>by cases r<;>exact q) (HV (Wb _) λ r st' q=>by cases r<;>exact q)
 ·rintro c st' ⟨q,_⟩;exact q
 rintro⟨c1,c2⟩ Ni ⟨Ry,⟨r,e,hW⟩|⟨T2,i3,j3,e,⟨g3,p3,r3,e2⟩,Wq,u1,u2,u3,u4⟩⟩
 ·show xC4 e e;exact Fh (xc8 Ry r hW)
 dsimp only at e e2;subst e e2;exact wpS_bind (eK Ry λ N7 M'=>xu1 M' ⟨T2,i3,j3,rfl,xbs,Wq,u1,u2,u3,u4⟩)
def xu {prog:LY}{w:LZ}{A:L3}{E:xad}{s:LX}{κ:KeyKind}(hO:κ.OneLt){sq0:SortSt}{key:Keyed}{xs:SB}{i n hint:Nat}{Q:xoq->xf9}(hk:xlG)(hs:∀p q,p≤q->q<n->Μ (xoy (i+q) (xtv (i+p))))(MB:xOW p p)(Oz:xEE)(hn:xy0 (i+n))(hh:hint<n)
  (h:∀k,xwJ->(∀j,j<k->Μ (xoX (i+j)))->(∀j,k≤j->j<n->SL (xoX (i+j)))->xrO k):xd7 (xMd false xs i n hint):=by
 have eb:∀j,PD κ false key xs j= ! xoX j:=xMe j
 refine fg hO hk hn hh Oz MB (λ p q VN hq hb=>?_) λ k h1 h2 h3=>xkz h1 xvZ (Ε j hj QC)
 ·rw [eb] at hb ⊢;have MX:Μ (xoX (i+q)):=by show xiA
  have:=hs p q VN hq;cases e:xoX (i+p) with
  |false=>rfl
  |true=>
   show xfw (xNl _ (i+q) _ e)
   ·show W1 MX z z
   ·show W1 this z z
 ·show xg7 (h2 j hj) eb;show xmD
 ·show xg7 (h3 j hj QC) eb;show xmD
def wG {prog:LY}{w:LZ}{A:L3}{E:xad}{s:LX}{κ:KeyKind}(hO:κ.OneLt){sq0:SortSt}{key:Keyed}{xs:SB}{i n hint:Nat}{Q:xoq->xf9}(hk:xlG)(hs:∀p q,p≤q->q<n->Μ (xoy (i+q) (xtv (i+p))))(MB:xOW p p)(Oz:xEE)(hn:xy0 (i+n))(hh:hint<n)
  (h:∀k,xwJ->(∀j,j<k->SL (xoy (i+j) xyj))->(∀j,k≤j->j<n->Μ (xoy (i+j) xyj))->xrO k):xd7 (xMd true xs i n hint):=by
 have eb:∀j,PD κ true key xs j=xoy j xyj:=xMe j
 refine fg hO hk hn hh Oz MB (λ p q VN hq hb=>?_) λ k h1 h2 h3=>xkz h1 xvZ (Ε j hj QC)
 ·rw [eb] at hb ⊢;have:=hs p q VN hq;show xfw (xNl _ (i+p) _ hb)
  ·show W1 this z z
  ·exact z
 ·exact h2 j hj
 ·exact h3 j hj QC
theorem qm (o:Nat):∀(r:xis) (n:Nat) (xs:SB),xy0 (xKz (o+n))->
  xlw ((r.zipIdx n).foldl (λ a x=>x1C (o+xlK)) xs) (xHg o n++r++xNA (o+n) r.length)
 | [],n,xs,h=>by simp
 |x::r,n,xs,h=>by
  rw [EV] at h;have Mb:xUv (o+n):=by simp;exact Nat.lt_of_add_right_lt h
  rw [List.zipIdx_cons,List.foldl_cons,qm o r (n+1) _ (by show x06 (xbn [_,_,_,_] xP7 xaS (xel xb1) xaS h)),K8];have e1:(xs.toList.set (o+n) x).take (o+(n+1))=xHg o n++xcZ:=by
   rw [show o+(n+1)=o+n+1 by exact xcK [_,_] xb1 xeF [_,_] xeF xb1,Ga,HW Mb,List.take_set_of_le Tl];rfl
  have e2:(xs.toList.set (o+n) x).drop (xKz (o+(n+1)))=xNA (o+n) (r.length+1):=by
   rw [List.drop_set_of_lt Z5];congr 1;exact xcK [_,_,_] (xel xb1) xP7 [_,_,_] xP7 (xel xb1)
  rw [e1,e2,EV];simp [EE]
def gm {κ:KeyKind}{xs:SB}{P X S:xis}(e:xy1 (P++X++S)){j:Nat}(hj:xhE j):xtv xpD=xjr X[j]:=by
 have Mb:xhL xpD:=by
  have:xs.toList.length=xs.size:=Z6;rw [<-this,e];simp;exact LG _ hj
 rw [dR Mb];congr 1;have:xs[xpD]=xs.toList[xpD]'(by simpa using Mb):=Z6;rw [this];simp only [e];rw [IZ (by show xID),Ie Z5];congr 1;exact Ii _ _
def jl {xs:SB}(e:xy1 (P++X++S))(hj:xhE j):∃Mb:xhL xpD,xs[xpD]=X[j]:=by
 have Mb:xhL xpD:=by
  have:xs.toList.length=xs.size:=Z6;rw [<-this,e];simp;exact LG _ hj
 refine xde Mb;have:xs[xpD]=xs.toList[xpD]'(by simpa using Mb):=Z6;rw [this];simp only [e];rw [IZ (by show xID),Ie Z5];congr 1;exact Ii _ _
def qC {xs:SB}{P X S:xis}(e:xy1 (P++X++S)){i n:Nat}(hi:xc1 i)(hn:n≤X.length):xBO (xgF i) (xgF n)=xj6 (X.drop i) n i:=by
 rw [df (HG.mpr hi),e,Ω (xgF n-(xgF i)) (n-i) (Nat.add_sub_add_left _ _ _)];rw [EE,<-Gg,Iy,Hd (EF hi hn),Gf (by simp;exact(xae [_,_,_,_] xfH xPz IO Φ hn τ))]
def lE {κ:KeyKind}{xs:SB}{P X S:xis}(e:xy1 (P++X++S))(h:x1v)(p q:Nat)(VN:p≤q)(hq:xhE q):Μ (xoy (xgF q) (xtv (xgF p))):=by
 rw [gm e hq,gm e (show xhE p from Fq VN hq)];show xbx p q z z
 ·exact xoU h p q (JA z hq) hq z
 ·show xb9 p q (ED VN z) xlI
universe SG
namespace SM
theorem Nn {α:Type}{p:xoT α}:∀{ys:xb2},(∃y∈ys,SL (p y))->∃l1 y l2,ys=l1++y::l2/\SL (p y)/\∀z∈l1,¬SL (p z)
 | [],h=>by obtain⟨y,hy,_⟩:=h;cases hy
 |z::ys,h=>by
  by_cases hz:SL (p z)
  ·exact xeO [] z ys hz (xmx h h)
  ·obtain⟨y,hy,hp⟩:=h;show xe6 hy hy
   ·show xaq hp hz
   ·obtain⟨l1,y,l2,e,h1,h2⟩:=Nn ⟨y,hy,hp⟩;refine⟨z::l1,y,l2,by show xak e,h1,P3 u hu⟩;show xe6 hu hu
    ·exact hz
    ·exact h2 u hu
theorem MJ {kf:α->κ}(O:xQw):∀{xs ys:xb2},xzY->xs.Perm ys
 | [],ys,h=>by
  cases ys with
  |nil=>show xib
  |cons y ys=>have:=xWH (E7);cases this
 |x::xs,ys,h=>by
  have hx:=xHV h (E7);obtain⟨l1,y,l2,rfl,hy,h1⟩:=Nn ⟨x,hx,M0 O x⟩;have e:=h xgP;have n1:l1.filter xQL=[]:=Hi.mpr h1;rw [Ff (M0 O x),Fp,n1,F6,Ff hy] at e;show xks rfl e2 (J8 e) ht (xN0 (l1++l2)) (λ k=>by
   by_cases hk:xuG k x
   ·have z:=xXf;show xgy (xgP=k) (xQy _ xeS xh6);rw [Fp,n1,F6];exact e2
   ·have e3:=xkz;rw [xpi,Fp,xpi] at e3;show LE Fp e3)
  exact(List.Perm.cons x (MJ O ht)).trans Jl.symm
universe SM
namespace SG
open PySem PyProof.Rows SM
def vD {xs:SB}(h:xhL 0):xs[0]∈xs.toList.take 1:=by
 show xg7 (sn (xs:=xs) (i:=0) h) Ge;show xb8 this
def vS {xs:SB}(h:xhL 0):xs[xs.size-1]∈xs.toList.drop (xs.size-1):=by
 show xb8 (gn (show xhL (xs.size-1) from(xEj (xl6 xdR xaH h))))
def zD {A:L3}{E:xad}{s:LX}{M:Model}{σ:Type}{x:σ}{Q:xea PUnit σ}{sq0:σ}(h:Q ⟨⟩ x):xwW (set x:StateT σ Sem PUnit) Q:=by
 show xm9 wpS StateT.run_set (xRW h)
def pY {prog:LY}{w:LZ}{A:L3}{E:xad}{s:LX}{κ:KeyKind}(hO:κ.OneLt){sq0:SortSt}{i:Nat}{P X Y S:xis}{pw pw2:Nat}{Q:Bool->xf9}(hk:xlG)(hf:xxE sq0)(MB:xlb p xqW p)
  (e:xqW=P++X++Y++S) (hX:x1v) (hY:xNs) (nX:xhE 0) (nY:xSs 0)
  (p1:xaM (xB0) (P.length,X.length,pw)) (p2:xbS (xB0) (i+1) (xs2,Y.length,pw2))
  (h:∀st' Z,kindOf st'=oneType'->xxE st'->x1k=xMW (xZT i (P.length,xtZ,pw)) i 1->xlw xCl (P++Z++S)->Z.Pairwise xbW->xj1 Z (X++Y)->xEt st'):
  xd7 (mergeAt' i):=by
 have eX:xqW=P++X++(Y++S):=by show xb8 e
 have eY:xqW=(P++X)++Y++S:=e;have lPX:xs2=xVj:=EB;have lA:xIQ=xMO xVj+S.length:=by
  have:(xqA).toList.length=xIQ:=Z6;rw [<-this,e];simp [FK]
 have hmX:xb6 X (xBW x):=λ x hx=>MB x (by rw [e];simp [hx])
 have hmY:xlb y Y y:=λ y hy=>MB y (by rw [e];simp [hy])
 show xpM;dsimp-zeta only;rw [p1,p2];dsimp-zeta only;show xbB (zD ?_);obtain⟨hy0,ey0⟩:=jl eY (j:=0) nY;show xbB (xys xs2 xe5 ?_);have ey:(xqA)[xs2]'(Gq hy0)=Y[0]:=ey0;rw [ey];show xbB (xu hO hk (lE eX hX) MB (hmY _ (Hc _)) (show xVj≤xIQ from xld lPX.symm (E4 hy0)) nX λ k f1 f2 f3=>?_);have g2:∀j (hj:j<k),xbW (X[j]'(xlC f1)) Y[0]:=λ j hj=>by
  show xhM (f2 j hj) (gm eX (show xhE j from xlC f1))
 have g3:∀j,k≤j->∀hj:xhE j,xeI Y[0] X[j]:=λ j hj QC=>by
  show xhM (f3 j hj QC) (gm eX QC)
 show xD6 y0le (xpy y Y Y[0] y) (λ y hy=>by
  show xqH j hj hy;rcases IN j with rfl|z
  ·exact xlI
  ·exact xoU hY 0 j nY hj z);by_cases hz:xBI k=0
 ·show xcr (xGY hz (xgp (X++Y) hk hf rfl (by show xqW=_;show xb8 e) ?_ xhw)) EZ ⟨hX,hY,λ x hx y hy=>?_⟩;show xqH j hj hx;exact xgI (g2 j (xlC (xBC hz))) (y0le y hy)
 refine xLy;have n1:=HM nX;have XC:k≤xlP:=HP (Jj (On (hz (KC z))));obtain⟨hx0,ex0⟩:=jl eX (j:=xlP) n1;rw [FK,FY f1,JD nX];show xbB (xys (xgF (xlP)) hx0 ?_);rw [ex0];show xbB (wG hO hk (lE eY hY) MB (hmX _ (Hc _)) (show xMO xs2≤xIQ from(xdF [_,_,_,_,_,_] (xag (.a (xdf xPQ) xfF)) (xel xPQ) Pi (EC lPX) (EC lA.symm))) (show xSs (xRi 1) from HM nY) λ k2 d1 d2 d3=>?_);have c2:∀j (hj:j<k2),xeI (Y[j]'(xlC d1)) (X[xlP]' n1):=λ j hj=>by
  show xhM (d2 j hj) (gm eY (show xSs j from xlC d1))
 have c3:∀j,k2≤j->∀hj:xSs j,xbW (X[xlP]' n1) Y[j]:=λ j hj QC=>by
  show xhM (d3 j hj QC) (gm eY QC)
 have RT:0<k2:=by
  rcases IN k2 with rfl|z
  ·have a1:=c3 0 Tl nY;have a2:=g3 xlP XC n1;have a3:Μ (xjL Y[0] (X[xlP]' n1)):=a1;have a4:SL (xjL Y[0] (X[xlP]' n1)):=a2;show W1 a3 a4 a4
  ·exact z
 show xD6 xlast (xb6 X (xbW x (X[xlP]' n1))) (λ x hx=>by
  show xqH j hj hx;show xbx j xlP z z
  ·exact xoU hX j _ hj n1 z
  ·show xb9 j xlP (ED (HP hj) z) xlI);refine xEk (Ja RT xos)
 extract_lets x y jp
 have ex:x.toList=X.drop k:=by
  show xlw ((xqA).extract xE8 (xs2)) _;rw [lPX,qC eX f1 Tl,xKS]
 have Y5:y.toList=Y.take k2:=by
  show xlw ((xqA).extract (xs2) (xs2+k2)) _;show xg7 (qC eY (i:=0) (n:=k2) xan d1) Ig;rw [this,Hy,IK]
 have lx:x.size=xBI k:=by rw [<-Gk,ex,EN]
 have ly:y.size=k2:=by rw [<-Gk,Y5,ER,FR d1]
 have hxa:xlb p x.toList p:=λ p hp=>hmX p (by show π ex hp (FU hp))
 have hya:xlb p y.toList p:=λ p hp=>hmY p (by show π Y5 hp (FN hp))
 have sx:x.toList.Pairwise xbW:=by show LE ex (hX.sublist (Ls _ _))
 have sy:y.toList.Pairwise xbW:=by show LE Y5 (hY.sublist (IU _ _))
 have xge:xw0 u x.toList Y[0] u:=λ u hu=>by
  rw [ex] at hu;show xqH j hj hu;show LE IC (g3 _ xes _)
 have Xs:∀v∈y.toList.take 1,xw0 u x.toList v u:=λ v hv u hu=>by
  rw [Y5,List.take_take,FR RT] at hv;show xb9 v Y[0] (by
   show xrV j hj hv ER hj;show xgy (j=0) (xMS (xlC xfV));rw [Hn]) (xge u hu)
 have O7:∀v∈y.toList,xw0 u (x.toList.drop (x.size-1)) v u:=λ v hv u hu=>by
  rw [Y5] at hv;show xrV j hj hv ER hj;rw [Hn];rw [ex,lx,Gg,Lh,FY XC] at hu;show xb9 u (X[xlP]' n1) (by
   show xrV q hq hu EN hq;rw [IC];congr 1;omega) (c2 j (xlC xfV))
 have hj:∀(r:SB) (O2:SortSt),kindOf O2=oneType'->arrOf O2=xqA->xxE O2->pendingOf O2=xMW (xZT i (P.length,xtZ,pw)) i 1->cK κ x y r->xl2 (jp r) Q O2:=by
  intro r O2 b1 b2 b3 b4 hW;have lr:r.toList.length=(xBI k)+k2:=by
   rw [xNN xeZ hW.2,EB,Gk,Gk,lx,ly]
  show xVS ?_;show xpM;have hfn:SL (x0H).isNone:=by show xak b3
  refine Fh ?_;show Q ((x0H).isNone) _;show Uf hfn (xgp (xOS++r.toList++xOr) b1 b3 b4 ?_ ?_ ?_)
  ·show xlw ((r.toList.zipIdx 0).foldl (λ a x=>x1C (xE8+xlK)) (arrOf O2)) _;rw [b2,qm xE8 r.toList 0 xqA (by rw [lr,lA];exact(xae [_,_,_,_,_,_,_] (xbi xcc) (xsv xdL) (.a (xpE 0) xc7) (.a (xJV xdL xfF) xD8) d1 (xdE IO Sc IO Sc f1))),Ig,lr,e];have t1:(P++X++Y++S).take xE8=P++xOS:=by
    rw [EE,EE,List.take_append,E8 xes,F3,Gf f1]
   have t2:xuV (P++X++Y) S (xE8+(xBI k+k2))=xOr++S:=by
    rw [EE (P++X),show xE8+(xBI k+k2)=xs2+k2 by rw [lPX,FK,<-FK k,FY f1,FK],<-Gg,Iy,Hd d1]
   rw [t1,t2];simp [EE]
  ·have memr:∀u∈r.toList,u∈x.toList\/u∈y.toList:=λ u hu=>EX.mp (Mv.mem xeZ hW.2 hu)
   rw [EE,EZ,EZ];refine⟨hX.sublist (IU _ _),⟨hW.1,hY.sublist (Ls _ _),λ u hu v hv=>?_⟩,λ u hu v hv=>?_⟩
   ·show xrV q hq hv EN hq;rw [IC];show xfw (memr u hu)
    ·show π ex z (xgI (xlast u (FU z)) (c3 _ xes _))
    ·rw [Y5] at z;show xrV j hj z ER hj;rw [Hn];have hj:=xlC xfV;exact xoU hY j _ (xlC d1) (GF hq) (xlC xes)
   ·show xrV q hq hu ER hq;rw [Hn];have a1:=g2 q (EM hq xfV);show xbX hv z z
    ·show xfw (memr v z)
     ·exact xgI a1 (xVg (xge v z))
     ·show π Y5 z (xgI a1 (y0le v (FN z)))
    ·exact xgI a1 (y0le v (FU z))
  ·have q1:=xVz ((Mv.refl (blt:=κ.blt) (kf:=xjr) xOS).app hW.2) xOr;rw [ex,Y5] at q1;have:xOS++(X.drop k++Y.take k2)++xOr=X++Y:=by
    rw [<-EE,Ft,EE,Ft]
   show π this q1 q1
 clear_value jp
 have nx:0<x.size:=lx▸J5 hz;have ny:0<y.size:=ly▸RT;refine cW (wpS_bind (pZ hO hk hxa hya sx sy nx ny (Xs _ (vD ny) _ Z6) O7 λ r st' OR hW=>hj r st' xZH OR.a xZI OR.p hW))
  (wpS_bind (o7 hO hk hxa hya sx sy nx ny Xs (O7 _ Z6 _ (vS nx)) λ r st' OR hW=>hj r st' xZH OR.a xZI OR.p hW))
def toL {xs:SB}(k:Nat):xs[k]?=xs.toList[k]?:=Z6
def pM {A' M B:xis}(e:xy1 (xvI++B)):xlw (mirror xs A'.length xiv ((xiv-A'.length)/2)) (A'++M.reverse++B):=by
 have hs:xy0 xiv:=by
  rw [<-Gk,e];simp
 apply Hg;intro k;rw [<-toL,getElem?_mirror_all hs k,toL,toL,e];by_cases h:A'.length≤k/\k<xiv
 ·show xc4 j (Iv xb0);have hj:=Nat.lt_of_add_lt_add_left xeU;have e0:xMt (xiv)-1-(xMt j)=xMt (M.length-1-j):=by clear h e hs;exact xfU (xae [_,_,_,_,_,_,_] (xta 6 (xdh (xhv 5 (xag xrh)))) (xll xc7 6 (.a (xaV (xaV xdL)) xfF)) IO Φ τ (xRY τ (xeX [_,_,_] Β WF xaH (xag xcB) hj) (xae [_,_,_,_] (xnr (xag xcB)) (xa2 xm6) Pi xaS hj τ))) [_,_,_,_,_,_,_] (xsv (xll (xaV (xaV xdL)) 6 xc7)) (xll (xag xrh) 5 (xdh xD8)) Φ τ (xRY τ (xnd xaH hj) (xdF [_,_,_] xmQ xhG IO hj τ))
  rw [xvU,e0,EE,EE,Fj xes,Fj xes,F3,F3,F1 (Fq xet (HM hj)),F1 (by simp;exact hj),List.getElem?_reverse hj]
 ·rw [xvV,EE,EE];show xbx k A'.length z z
  ·rw [F1 z,F1 z]
  ·rw [Fj z,Fj z,Fj Z5,Fj (by simp;omega),Jh]
def ql {x:Keyed}(e:xy1 (xvI++xcZ++B)):xlw (bubble xs xiv (xiv-A'.length)) (xRI++M++B):=by
 have hs:xhL xiv:=by
  rw [<-Gk,e];simp
 apply Hg;intro k;rw [<-toL,getElem?_bubble hs _ xet k,toL,toL,toL,e,show xQV (xiv-(xiv-A'.length)) by exact xfU (xcI [_,_,_,_] (xLK xfH) (.a xDr Φ) τ (xeX [_,_,_] WF Pi WF Pi xet)) [_,_,_,_] (xLK xDr) (.a xfH Φ) Sc τ (NL.J' (xfx [_,_] IO Pi))];have e1:(xvI++xcZ++B)[xiv]?=xas:=by
  rw [EE xvI,Fj Z6];simp
 rw [e1];by_cases h1:xQV k
 ·subst h1;rw [xai,EE,EE,Fj Tl];simp
 ·rw [xpg];by_cases h2:A'.length<k/\k≤xiv
  ·rw [E5 h2,EE xvI,EE,Fj (HP xpf),F1 Z4,EE xRI,Fj (by simp;exact Nat.succ_le_of_lt xpf),F1 (by simp;omega)];congr 1;simp;exact xfU (xcI [_,_,_,_,_] (xbi (xhv 4 xcB)) (.a xhG xgT) τ (xPD (xnd xaH xpf) (xdF [_,_,_] xmQ xhG IO xpf τ))) [_,_,_,_,_] (xdh (xbi xhG)) (xll xcB 4 xaS) Sc τ (xFv (xnd NE xpf))
  ·rw [xno];show xbx k A'.length z z
   ·rw [EE xvI,EE,F1 z,EE xRI,EE,F1 z]
   ·rw [Fj (by simp;lia),Fj (by simp;omega)];congr 1;simp
structure At (κ:KeyKind)(sq0:SortSt)(pe:Array (Nat×xfl))(l:xis):Prop where
 k:xlG
 f:xxE sq0
 p:xB0=pe
 a:xqW=l
 has:xlb p l p
def At.setA (h:xrI l)(e:xy1 l')(hm:xdI l' (p∈l)):xmG (setArr sq0 xs) l':=⟨h.k,h.f,h.p,e,λ p hp=>h.has p (hm p hp)⟩
def jz (hO:κ.OneLt)(h:xrI (P++X++S))(hi:xhE i)(hj:xhE j)
  (hq:xrO (xjL X[i] X[j])):xd7 (ltAt' (xgF i) xpD):=by
 rw [ltAt'_eq];show xpM;show xbH h1 e1 (jl h.a hi) h2 e2 (jl h.a hj);show xvl h1 (xHI h2 ?_);rw [e1,e2];exact xK1 h.k (h.has _ Z6) (h.has _ Z6) hq
def ju (h:xrI (xvI++B))(ei:xQV i)(ej:j=xiv)(hq:∀st',xuP (A'++M.reverse++B)->xSb):
  xd7 (reverseSlice' i j):=by
 subst ei ej;exact wpS_reverse (hq _ (h.setA (pM h.a) λ p hp=>by simpa using hp))
def xZ (h:xrI (xvI++xcZ++B))(ei:i=xiv)(ej:xQV j)(hq:∀st',xuP (xRI++M++B)->xSb):
  xd7 (moveDown' i j):=by
 subst ei ej;show LE moveDown'_eq (wpS_modify (hq _ (h.setA (ql h.a) λ p hp=>by
  simp only [EX,Fm] at hp ⊢;rcases hp with((z|z)|z)|z
  ·show xa8 (xKn z)
  ·show xa8 (.inr z)
  ·show xa8 (.inl (.inr z))
  ·show xdG z)))
def uD:xmK (xuO xoq):=sortPriv%PySem.Builtin.countRun
def yv (h:x1w)(hx:xpy y l y x):xmr (l++xcZ):=by
 show LE EZ ⟨h,Z6,λ a ha b hb=>by
  show xb9 b x (by show xiA) (hx a ha)⟩
def uj {l:xis}(h:x1w)(hn:n+1=l.length)(hy:y∈l):xbW y (l[n]'(xxV hn)):=by
 show xqH j hj hy;show xbx j n z z
 ·exact xoU h j n hj (xxV hn) z
 ·show xb9 j n (xQ9 (EW hj hn.symm) z) xlI
structure Ds (κ:KeyKind)(X D0 Eb:xis)(n Pk:Nat):Prop where
 le:Eb.length=Pk+1
 ln:D0.length+Eb.length=n
 eq:∀u∈Eb,xpy v Eb u v
 sd:D0.reverse.Pairwise xbW
 lt:∀u∈Eb,xw0 d D0 u d
 sq0:xj1 xu0 xit
def Ds.sorted (h:xLR n Pk):xmr xu0:=by
 show LE EZ ⟨List.pairwise_of_forall_mem_list λ u hu v hv=>h.eq u hu v hv,h.sd,λ u hu d hd=>xVg (h.lt u hu d (Jn.mp hd))⟩
def dG {X:xis}(hn:xhE n):X.take (n+1)=xit++[X[n]]:=by
 rw [Ga,EI hn];rfl
def Ds.next (h:xLR n Pk)(hn:xhE n)(Mb:xw0 u Eb X[n] u):xQ4 xRx [X[n]] (n+1) 0:=by
 have MB:xw0 u xu0 X[n] u:=λ u hu=>by
  show xbX hu z z
  ·exact Mb u z
  ·have Oe:0<Eb.length:=by show xaE h.le (Ky this)
   have e0:Eb[0]∈Eb:=Hc Oe;exact(xeZ).tr _ _ _ (Mb _ e0) (h.lt _ e0 u (Jn.mp z))
 refine⟨rfl,by rw [EB,Jh,h.ln];rfl,λ u hu v hv=>?_,?_,λ u hu d hd=>?_,?_⟩
 ·have e1:u=X[n]:=by show xD5
  have e2:v=X[n]:=by simpa using hv
  subst e1;show xcL e2 xlI
 ·rw [IH,Hs];exact h.sorted
 ·have e1:u=X[n]:=by show xD5
  subst e1;refine MB d ?_;show xbX hd z z
  ·exact xq5 (Jn.mpr z)
  ·exact xpP (Jn.mp z)
 ·rw [IH,Hs,dG hn];show ρ (xHW (xZJ [X[n]])) (xSl xeZ (λ y hy x hx=>?_));have e1:y=X[n]:=by show xKf
  show xcL e1 (MB x hx)
def Ds.more (h:xLR n Pk)(hn:xhE n)(h1:xpy u Eb X[n] u)(h2:xpy u Eb u X[n]):xQ4 D0 (Eb++[X[n]]) (n+1) (Pk+1):=by
 have Oe:0<Eb.length:=by show xaE h.le (Ky this)
 have e0:Eb[0]∈Eb:=Hc Oe;have hD:xw0 d D0 X[n] d:=λ d hd=>gg xeZ (h1 _ e0) (h.lt _ e0 d hd)
 refine⟨by rw [EB,h.le];rfl,by rw [EB,<-FK,h.ln];rfl,λ u hu v hv=>?_,h.sd,λ u hu d hd=>?_,?_⟩
 ·rcases EX.mp hu with z|z<;>rcases EX.mp hv with z2|z2
  ·exact h.eq u z v z2
  ·show xb9 v X[n] (by simpa using z2) (h2 u z)
  ·show xb9 u X[n] (by show xuZ) (h1 v z2)
  ·have e1:u=X[n]:=by show xuZ
   have e2:v=X[n]:=by simpa using z2
   subst e1;show xcL e2 xlI
 ·show xbX hu z z
  ·exact h.lt u z d hd
  ·show xb9 u X[n] (by show xuZ) (hD d hd)
 ·show Uf (dG hn) (xHW (xZJ [X[n]]));rw [EE,EE];refine(Mv.refl Eb).app (xSl xeZ (λ y hy x hx=>?_));show xb9 y X[n] (by show xKf) (hD x (Jn.mp hx))
def wy (hO:κ.OneLt){Q:(xOM×Nat)->xf9}
  (h:xrI (P++X++S)) (hn:M9=X.length) (ha:Ν a) (han:a≤M9) (hs:xmr (X.take a))
  (hf:∀(x n:Nat) (RS:Ν n) (QL:n<M9),xIn (f x (xm3 n)) (λ r st'=>st'=sq0/\r=xcA (xjL (X[n]'(xQP)) (X[n-1]'(Gy xQP))) (.done (xm3 n)) (.yield (xm3 (n+1)))))
  (hq:∀n,xc1 a->n≤M9->xmr xit->(n=M9\/∃Mb:xhE n,xeI X[n] (X[n-1]'(xKD)))->Q (xm3 n) sq0):xd7 (forIn [a:M9] (xm3 a) f):=by
 refine xTe (λ x c st'=>st'=sq0/\c=xm3 x/\xmr (X.take x)) ?_ ?_ (xf2 rfl hs)
 ·rintro x c st' hax TQ ⟨rfl,rfl,Ul⟩;refine HV (hf x x (EF ha hax) TQ) ?_;rintro r Sg ⟨rfl,rfl⟩;by_cases hc:SL (xjL (X[x]'(xEq)) (X[x-1]'(Gy xEq)))
  ·show xnf hc (hq x hax (G1 TQ) Ul (xei xEq hc))
  ·show xrT hc (Ψ rfl rfl);show Uf (dG (show xhE x from xEq)) (yv Ul (P3 y hy))
   have l1:=uj Ul (by rw [ER,FR (E4 xEq),Js (EF ha hax)]) hy;show π Hn l1 (xgI l1 (by simpa using hc))
 ·show xwp c st' rfl Ul;rw [Ω (max a M9) M9 (LH han)] at Ul ⊢;exact hq M9 han Tl Ul xec
def m9 (hO:κ.OneLt)(h:xrI (P++X++S))(QF:MN=P.length)(hn:M9=X.length)(h1:Ν M9)
  (hq:∀m Y st',Ν m->m≤M9->Y.length=m->xNs->xj1 Y (X.take m)->xuP (P++(Y++xq7)++S)->Q (some m) st'):xd7 (uD MN M9):=by
 subst QF;have up:∀{sq0} {X},xrI (P++X++S)->∀(hXn:M9=X.length) (n:Nat) (RS:Ν n) (QL:n<M9) {Q:xNH->xf9},xrO (xjL (X[n]'(EW QL hXn)) (X[n-1]'(Gy (EW QL hXn))))->xd7 (ltAt' (xgF n) (xgF n-1)):=by
  intro sq0 X h hn n RS QL Q hq;show LE (Ω (xgF n-1) (xgF (n-1)) (JD RS _)) (jz hO h xQP (Gy xQP) hq)
 show xbB (wy hO h hn (EK 1) h1 ?_ ?_ λ n RS QL hs hor=>?_)
 ·cases X with
  |nil=>simp
  |cons x X=>simp
 ·intro x n RS QL;show xtM (up h hn n RS QL ?_)
  split
  ·exact xpm
  ·exact xpm
 dsimp-zeta only;have same:P++X++S=P++(xit++xXg)++S:=by rw [Ft]
 have lt:xaI xit n:=by rw [ER,FR (xuI QL hn)]
 by_cases e1:n=M9
 ·refine xGY e1 (hq n xit sq0 RS QL lt hs xhw (same▸h))
 show xjH (xEk (e1 xos)) Mb QS (hor.resolve_left e1);have hn5:=EW Mb hn.symm;have Uq:=Fq xan Mb
 extract_lets v1 v2 jp
 have Wb:∀Ue,xmG Ue (P++(xNZ++xXg)++S)->(∀u∈xit,xpy v xit u v)->xl2 xSr Q Ue:=by
  intro Ue hA1 heq;show xbB xDv;have hprev:(X[n-1]'(xKD))∈xit:=by
   show LE List.mem_take_iff_getElem (xee (n-1) (xUl ⟨HM RS,xKD⟩))
  have hX0:xw0 u xit X[n] u:=λ u hu=>xLa QS (heq _ hprev u hu)
  have hD0:xQ4 xNZ [X[n]] (n+1) 0:=by
   refine⟨rfl,by rw [Jh,lt];rfl,λ u hu v hv=>?_,by show LE Hs hs,λ u hu d hd=>?_,?_⟩
   ·have e1:u=X[n]:=by show xD5
    have e2:v=X[n]:=by simpa using hv
    subst e1;show xcL e2 xlI
   ·have e1:u=X[n]:=by show xD5
    show xcL e1 (hX0 d (Jn.mp hd))
   ·rw [Hs,dG Mb];refine xSl xeZ (λ y hy x hx=>?_);have e1:y=X[n]:=by show xKf
    show xcL e1 (hX0 x hx)
  have hA0:xmG Ue (P++(xNZ++[X[n]]++X.drop (n+1))++S):=by
   rw [EE xNZ,JC,<-GG Mb];exact hA1
  show xiW (λ x c st'=>∃D0 Eb Pk,c=xhh x Pk/\xLR x Pk/\xuP (P++(D0++Eb++xIL)++S)) (Q:=λ c st'=>∃m D0 Eb Pk,c=xhh m Pk/\m≤M9/\n+1≤m/\xLR m Pk/\xuP (P++(D0++Eb++xq7)++S)) ?_ ?_ (xeO _ _ 0 hD0 hA0) ?_
  ·rintro x c O2 hax TQ ⟨D0,Eb,Pk,rfl,hD,hA⟩;have hax':n+1≤x:=hax;have Oq:=hD.le;have MD:=hD.ln;have hxX:xhE x:=xEq;have lC:M9=xcm (D0++Eb) xIL:=by rw [EB,EB,EN,MD,xJL hxX];exact hn
   have hc1:(D0++Eb++xIL)[x]'(xQN)=X[x]:=by
    rw [Ie (by show xhY (EC MD)),IC];simp only [EB,MD,IM,Ig]
   have hE:=xxV Oq.symm;have RO:=EM (HU n) hax';have YN:x-1=D0.length+Pk:=by rw [<-MD,Oq];rfl
   have hc2:(D0++Eb++xIL)[x-1]'(Gy xQN)=Eb[Pk]' hE:=by
    rw [IZ (by rw [EB,MD];exact HM RO),Ie (by show LE YN xes)];simp only [YN,F3]
   have hEl:(Eb[Pk]' hE)∈Eb:=Hc _;show xbB (up hA lC x RO TQ ?_);rw [hc1,hc2];dsimp only;cases e:xjL X[x] (Eb[Pk]' hE) with
   |true=>
    refine aP rfl ?_;have hN:=hD.next hxX λ u hu=>xLa e (hD.eq _ hEl u hu)
    have fin:∀Ni,xmG Ni (xTk (P++D0)++(xIL++S))->xmG Ni (P++(xRx++[X[x]]++X.drop (x+1))++S):=λ Ni h3=>by
     rw [EE xRx,JC,<-GG hxX];show xq8 h3
    by_cases T4:Pk>0
    ·refine xN9 T4 (ju (by show xq8 hA) (by rw [EB,<-MD,Oq,<-FK];exact Lg ..) (by rw [EB,FK,MD]) λ Ni Vv=>Fh (xeO _ _ 0 hN (fin Ni Vv)))
    ·have hrev:Eb.reverse=Eb:=by
      show xGF y (xYQ (Oq.trans (xG8 (Jr T4))));show xak e
     refine aL T4 (Fh (xeO _ _ 0 hN (fin O2 ?_)));rw [hrev];show xq8 hA
   |false=>
    refine xrd Z9;rw [JD RO];show xbB (jz hO hA (Gy xQN) xQN ?_);rw [hc1,hc2];dsimp only;cases e2:xjL (Eb[Pk]' hE) X[x] with
    |true=>exact xuL rfl ⟨x,D0,Eb,Pk,rfl,E4 TQ,hax',hD,hA⟩
    |false=>
     refine xRH (xeO D0 _ (Pk+1) (hD.more hxX (λ u hu=>xgI e2 (hD.eq _ hEl u hu)) (λ u hu=>xgI (hD.eq u hu _ hEl) e)) ?_);rw [<-EE D0,EE (D0++Eb),JC,<-GG hxX];exact hA
  ·rintro c O2 ⟨D0,Eb,Pk,rfl,hD,hA⟩;have:max (n+1) M9=M9:=LH hn5;have this':max v1 M9=M9:=this;rw [this'] at hD hA ⊢;exact⟨M9,D0,Eb,Pk,rfl,Tl,hn5,hD,hA⟩
  ·rintro c O2 ⟨m,D0,Eb,Pk,ec,XA,hm2,hD,hA⟩;subst ec;have Oq:=hD.le;have MD:=hD.ln;dsimp-zeta only
   extract_lets r1 r2 r3 r4 YL
   have er3:m=r3:=rfl;have er4:Pk=r4:=rfl
   clear_value r3 r4
   subst er3 er4;have Sj:∀Ni,xmG Ni (xTk (P++D0)++(xq7++S))->xl2 (YL ()) Q Ni:=by
    intro Ni Vv;have hm0:=EM (HU n) hm2;show xbB (ju (M:=xRx) (by show xq8 Vv) rfl (by rw [EB,Jh,MD]) (P3 N7 RZ));rw [IH,Hs] at RZ;have lY:xcm Eb D0.reverse=m:=by rw [EB,Jh,Ix,MD]
    have lYX:M9=xcm xu0 xq7:=by rw [EB,lY,EN,FY (xuI XA hn)];exact hn
    have hA5:xmG N7 (P++(xu0++xq7)++S):=by show xq8 RZ
    show xbB (wy hO hA5 lYX hm0 XA ?_ ?_ λ n2 ZI hn4 Rt _=>?_)
    ·rw [Gf (EC lY.symm),E8 (EC lY)];exact hD.sorted
    ·intro x n2 ZI hn4;show xtM (up hA5 lYX n2 ZI hn4 ?_)
     split
     ·exact xpm
     ·exact xpm
    refine Fh (hq n2 _ N7 (EF hm0 ZI) hn4 (by rw [ER,<-lYX,FR hn4]) Rt ?_ ?_)
    ·have e1:(xu0++xq7).take n2=xu0++xj6 xq7 n2 m:=by
      rw [List.take_append,E8 (xld lY ZI),lY]
     have e2:X.take n2=X.take m++xj6 xq7 n2 m:=by
      rw [<-KO,FY ZI]
     rw [e1,e2];exact hD.sq0.app xhw
    ·have e1:xuV xu0 xq7 n2=X.drop n2:=by
      rw [List.drop_append,GU (xld lY ZI),F6,lY,Gg,FY ZI]
     rw [<-e1,Ft];exact hA5
   clear_value YL
   by_cases T4:Pk>0
   ·refine xN9 T4 (ju (by show xq8 hA) (by rw [EB,<-MD,Oq,<-FK];exact Lg ..) (by rw [EB,FK,MD]) λ Ni Vv=>Sj Ni Vv)
   ·have hrev:Eb.reverse=Eb:=by
     show xGF y (xYQ (Oq.trans (xG8 (Jr T4))));show xak e
    refine aL T4 (Sj O2 ?_);rw [hrev];show xq8 hA
 clear_value jp
 by_cases hgt:n>1
 ·refine aP hgt ?_;rw [JD RS];show xtM (jz hO h Uq xKD ?_);cases er:xjL (X[0]' Uq) (X[n-1]'(xKD)) with
  |true=>exact xuL rfl (hq n xit sq0 RS QL lt hs xhw (same▸h))
  |false=>
   refine xJs (wpS_bind (ju ?_ rfl (by rw [lt]) λ Ni Vv=>Wb Ni (by show xq8 Vv) λ u hu v hv=>?_))
   ·have e0:P++xit++(xXg++S)=P++X++S:=by rw [EE P,<-EE xit,Ft,<-EE]
    show LE e0 h
   ·show xaK l1 (uj hs (by rw [lt,Js RS]) hu) Hn l1;show xqH j hj hv;rw [Hn];have l2:xbW (X[0]' Uq) (X[j]'(xlC (xld lt (E4 Mb)))):=by
     rcases IN j with rfl|z
     ·exact xlI
     ·show xMl (xoU hs 0 j (JA z hj) hj z) Hn Hn
    exact xgI l1 (xgI er l2)
 ·refine aL hgt (Wb sq0 ?_ λ u hu v hv=>?_)
  ·show xgy (n=1) (ED (xMr hgt) RS);rw [same] at h;have e1:(X.take 1).reverse=X.take 1:=by
    cases X with
    |nil=>rfl
    |cons x X=>rfl
   show LE e1 h
  ·show xgy (n=1) (ED (xMr hgt) RS);show xqH j hj hu;show xqH q Vp hv;have e1:j=0:=xMS (lt▸hj);have e2:q=0:=xMS (lt▸Vp);subst e1;show xcL e2 xlI
def kI (hO:κ.OneLt)(h:xrI (P++(Y++R)++S))(QF:MN=P.length)(hY:xNs)(lY:Y.length=ok)(h1:Ν ok)(hok:xc1 ok)(hn:n≤xJH ok)
  (hq:∀Y' st',Y'.length=n->xUa->xj1 Y' (Y++xKE n ok)->xuP (P++(Y'++xyT n)++S)->xEt st'):xd7 (binarySort' MN n ok):=by
 subst QF;show xiW (λ k c st'=>c=xFM/\∃Y',Y'.length=k/\xUa/\xj1 Y' (Y++xKE k ok)/\xuP (P++(Y'++xGj)++S)) (Q:=λ c st'=>c=xFM/\∃Y',Y'.length=n/\xUa/\xj1 Y' (Y++xKE n ok)/\xuP (P++(Y'++xyT n)++S)) ?step ?fin ?init ?post
 case post=>
  rintro c st' ⟨rfl,Y',e1,e2,e3,e4⟩;exact Fh (hq Y' st' e1 e2 e3 e4)
 case init=>
  have e:max ok 1=ok:=Nat.max_eq_left h1;show Uf e ⟨rfl,Y,lY,hY,?_,?_⟩
  ·rw [IM,Hx,Fv];exact xhw
  ·rw [IM,Hy];exact h
 case fin=>
  rintro c st' ⟨rfl,Y',e1,e2,e3,e4⟩;rw [LH (x1l ⟨hok,EF h1 hok⟩)] at e1 e3 e4;exact⟨rfl,Y',e1,e2,e3,e4⟩
 case step=>
  rintro k c st' hak hkn ⟨rfl,Y',e1,e2,e3,e4⟩;have hak':ok≤k:=EF (Nat.le_max_left _ _) hak;have hkr:xJ5 (k-ok):=(xhq [_,_,_,_,_] (xbi (xhv 4 xcB)) (.a xcc xgT) hn (Ez hkn (xdE IO Sc IO Sc hak')));have lC:xcm Y' xGj=k+(R.length-(k-ok)):=by rw [EB,EN,e1]
  have hkC:k<xcm Y' xGj:=lC▸Ha (IW hkr);clear lC;have hx:(Y'++xGj)[k]' hkC=R[k-ok]:=by
   rw [Ie (EC e1),IC];simp only [e1,IM,Ig]
  have hy:∀m (hm:m<k),(Y'++xGj)[m]'(JA hm hkC)=Y'[m]'(xmB hm):=λ m hm=>IZ (xmB hm)
  extract_lets v1 v2
  show xiW (λ x c Sg=>Sg=st'/\∃l r,c=xhh l r/\l≤r/\r≤k/\r-l≤k-x/\
    (∀i (hi:i<l) (hik:i<k),xbW (Y'[i]'(xmB hik)) R[k-ok])/\(∀i,r≤i->∀hi:i<k,xeI R[k-ok] (Y'[i]'(xmB hi)))) (Q:=λ c Sg=>Sg=st'/\∃l r,c=xhh l r/\l≤k/\(∀i (hi:i<l) (hik:i<k),xbW (Y'[i]'(xmB hik)) R[k-ok])/\(∀i,l≤i->∀hi:i<k,xeI R[k-ok] (Y'[i]'(xmB hi)))) ?istep ?ifin ?iinit ?ipost
  case iinit=>exact⟨rfl,0,k,rfl,xan,Tl,G5 _ 0,xe9 i hi hi (KQ _),λ i h1 h2=>absurd h2 (xBK h1)⟩
  case ifin=>
   rintro c Sg ⟨rfl,l,r,rfl,V9,hrk,hm,QF,Uo⟩;show xb9 l r (mz V9 hm) (xjj rfl l l hrk QF Uo)
  case istep=>
   rintro x c Sg _ hxk ⟨rfl,l,r,rfl,V9,hrk,hm,QF,Uo⟩;dsimp only;by_cases Np:l≥r
   ·show xb9 l r (ED V9 Np) (xuL Tl (xjj rfl l l hrk QF Uo))
   ·have hmr:(l+r)/2<r:=Z5;have hml:l≤(l+r)/2:=(xcI [_,_,_] (xnr (xaG xcB)) (xa2 (xa4 xeJ 2)) hmr xsp);have VP:=EM hmr hrk;refine aL Np (wpS_bind (jz hO e4 hkC (JA VP hkC) ?_));rw [hx,hy _ VP];dsimp only;cases QS:xjL R[k-ok] (Y'[(l+r)/2]'(xmB VP))
    case true=>
     refine xuL rfl ⟨rfl,l,(l+r)/2,rfl,hml,E4 VP,EF (HN (HP hmr) _) (by show LE Lh (HN hm 1)),QF,Ε i h1 h2⟩;show xbx ((l+r)/2) i z z
     ·exact xLa QS (xoU e2 _ i (xmB VP) (xmB h2) z)
     ·show xb9 i ((l+r)/2) (ED z h1) QS
    case false=>
     refine xRH ⟨rfl,(l+r)/2+1,r,rfl,hmr,hrk,EF (K4 (HS hml) _) (HN hm 1),Ε i h1 h2,Uo⟩;show xbx i ((l+r)/2) z z
     ·exact xgI (xoU e2 i _ (xmB h2) (xmB VP) z) QS
     ·show xb9 i ((l+r)/2) (xQ9 h1 z) QS
  case ipost=>
   rintro c Sg ⟨rfl,l,r,rfl,Rv,QF,Uo⟩;have hd:xGj=R[k-ok]::xyT (k+1):=by
    rw [GG hkr];rw [LF hak']
   have hA:xmG Sg ((P++xya)++xyb++[R[k-ok]]++(xyT (k+1)++S)):=by
    rw [hd] at e4;have e0:(P++xya)++xyb++[R[k-ok]]++(xyT (k+1)++S)=P++(Y'++R[k-ok]::xyT (k+1))++S:=by
     rw [EE P,Ft];simp [EE]
    show LE e0 e4
   have lt:xaI xya l:=by rw [ER,e1,FR Rv]
   have ld:xaI xyb (k-l):=by rw [EN,e1]
   show xbB (xZ hA (by rw [EB,lt,ld,FK,FY Rv]) (by rw [EB,lt]) λ Ni Vv=>Fh ⟨rfl,xya++[R[k-ok]]++xyb,?_,?_,?_,?_⟩)
   ·rw [EB,EB,lt,ld];show l+1+(k-l)=k+1;rw [Nat.add_right_comm,FY Rv]
   ·have m1:xpy y xya y R[k-ok]:=λ y hy=>by
     show xrV j hj hy lt hj;show LE Hn (QF j hj (xlC Rv))
    have m2:xpy y xyb R[k-ok] y:=λ y hy=>by
     show xrV j hj hy ld hj;show LE IC (xVg (Uo _ xes (GF hj)))
    rw [EE,EZ];refine xsZ (e2.sublist (IU _ _)) (λ a ha b hb=>?_)
    ·rw [JC,G2];show xaj m2 (e2.sublist (Ls _ _))
    ·show xbX hb z z
     ·show xb9 b R[k-ok] (by show xuZ) (m1 a ha)
     ·exact xgI (m1 a ha) (m2 b z)
   ·have e5:xKE (k+1) ok=xKE k ok++[R[k-ok]]:=by
     rw [LF hak',dG hkr]
    rw [e5,<-EE];refine xHW (e3.app (Mv.refl [R[k-ok]]));have sw:xj1 (xya++([R[k-ok]]++xyb)) (xya++(xyb++[R[k-ok]])):=(xhw).app (xSl xeZ (λ y hy x hx=>by
     show xgy (y=R[k-ok]) (by show xKf);show xrV j hj hx ld hj;show LE IC (Uo _ xes (GF hj))))
    rw [<-EE,<-EE,Ft] at sw;exact sw
   ·show xq8 Vv
noncomputable def cC (o:Nat):xQF->xbf
 | []=>[]
 |r::Rs=>xXT o::cC (xKz o) Rs
theorem cq (o):∀Rs,xaI (cC o Rs) Rs.length
 | []=>rfl
 |r::Rs=>by show(cC _ Rs).length+1=_;show xak (cq _ Rs)
theorem cv (o):∀As Bs,cC o (As++Bs)=cC o As++cC (xB1 o) Bs
 | [],Bs=>by simp [cC]
 |r::As,Bs=>by
  show xXT o::cC (xKz o) (As++Bs)=xXT o::(cC (xKz o) As++_);rw [cv _ As Bs,Gu,EB,FK]
theorem k4 {α β:Type}(f:α->β):∀(l:xb2) (i:Nat),(xZ6).map f=x0v f i
 | [],_=>rfl
 |a::l,0=>rfl
 |a::l,i+1=>by show f a::(xZ6).map f=f a::x0v f i;rw [k4 f l i]
noncomputable abbrev two (e:Nat×xfl):xfl:=(e.1,Ξ e)
def NA (Rs:xQF)(pe:Array (Nat×xfl)):Prop:=xZK=cC 0 Rs
theorem NA.size {pe:Array (Nat×xfl)}(h:xK2 pe):pe.size=Rs.length:=by
 have:=xkK h;rw [EA,cq,Gk] at this;exact this
theorem NA.push (h:xK2 pe)(e1:MN=Rs.flatten.length)(e2:n=r.length):NA (Rs++[r]) (pe.push (MN,n,pw)):=by
 show xwi NA;subst e1 e2;rw [Lq,EO,h,cv,Ge];rfl
theorem NA.modify (h:xK2 pe)(i)(hf:∀e,two (f e)=two e):xK2 (pe.modify i f):=by
 show xwi NA;rw [<-h];apply Hg;intro j;rw [FA,FA];have:xfZ (pe.modify i f).toList=xbc i j ((xUU).map f) xUU:=by
  rw [Jz,Jz,Array.getElem?_modify]
 rw [this]
 split
 ·cases e:xUU with
  |none=>rfl
  |some v=>show Tm (some (two (f v))) (two v);rw [hf]
 ·rfl
theorem NA.at (h:NA (As++X::Bs) pe)(hi:xQi i):∃pw,xaM pe (xHu X.length pw):=by
 subst hi;unfold NA at h;have e:xbS (xZK) As.length x1D:=by
  rw [h,cv,Fj (by show LE cq Tl),cq,IM,Ge];rfl
 rw [FA,Jz] at e;cases e2:pe[As.length]? with
 |none=>show xpS e2
 |some v=>
  rw [e2] at e;have e3:two v=x1D:=Fx e;show xjP v1 v2 v3 v e4 (congrArg Prod.fst e3);have e5:=congrArg Prod.snd e3;dsimp only at e4 e5;subst e4 e5;exact xcM v3
def NA.merge (h:NA (As++X::Y::Bs) pe)(hi:xQi i)(hZ:Z.length=xtZ):
  NA (As++Z::Bs) (xMW (pe.setIfInBounds i (xHu xtZ pw)) i 1):=by
 subst hi;have hs:=h.size;show xwi NA;rw [EB,EV,EV] at hs;have e1:xlw (xMW (pe.setIfInBounds As.length (xHu xtZ pw)) As.length 1) ((pe.toList.set As.length (xHu xtZ pw)).eraseIdx (As.length+1)):=by
  unfold Array.eraseIdxIfInBounds;rw [dif_pos (by show x06 (xaf [_,_,_] (xag xyB) Sc xeH Sc (EC hs.symm))),Array.toList_eraseIdx,K8]
 rw [e1,k4,List.map_set,h,cv,cv];show((cC 0 As++(xB1 0,X.length)::(xB1 0+X.length,Y.length)::cC (xMO (xB1 0+X.length)) Bs).set As.length (xYR xtZ)).eraseIdx (As.length+1)=cC 0 As++(xB1 0,Z.length)::cC (xB1 0+Z.length) Bs;have lA:=cq 0 As;rw [List.set_append,ES (Ll.mpr (EC lA)),lA,IM,List.set_cons_zero,List.eraseIdx_append_of_length_le (Nat.le.intro (congrFun (congrArg HAdd.hAdd lA) 1)),lA,Ω (As.length+1-As.length) 1 (Ii _ 1),hZ,Ge];show _++(_::cC _ Bs)=_;rw [FK]
structure Rn (κ:KeyKind)(a0:xis)(sq0:SortSt)(L:Nat)(Rs:xQF)(tail:xis):Prop where
 at':∃pe,xrI (xG3 tail)/\xK2 pe
 so:∀r∈Rs,r.Pairwise xbW/\0<r.length
 len:Rs.flatten.length=L
 st':xj1 (xG3 tail) a0
def jJ (hO:κ.OneLt)(h:xCU sq0 L (As++X::Y::Bs) tail)(hi:xQi i)
  (hq:∀st' Z,xQ0 (As++Z::Bs) tail->xEt st'):xd7 (mergeAt' i):=by
 obtain⟨⟨pe,hA,hP⟩,so,hlen,OR⟩:=h;show xbH sX nX (so X Z6) sY nY (so Y Z6);have ef:xDO (As++X::Y::Bs) tail=As.flatten++X++Y++(xWV tail):=by simp [EE]
 show xbH pw p1 (hP.at hi) pw2 p2 (NA.at (As:=As++[X]) (X:=Y) (Bs:=Bs) (pe:=pe) (i:=i+1) (by simpa using hP) (by simp [hi]));refine pY hO (P:=As.flatten) (X:=X) (Y:=Y) (S:=xWV tail) (pw:=pw) (pw2:=pw2) hA.k hA.f (λ p hp=>hA.has p (by show π hA.a hp hp)) (by rw [hA.a,ef]) sX sY nX nY (by show LE hA.p p1) (by rw [hA.p,p2];simp) λ st' Z b1 b2 b3 b4 b5 b6=>?_
 have lZ:Z.length=xtZ:=by rw [xNN xeZ b6,EB]
 have ez:xDO (As++Z::Bs) tail=As.flatten++Z++(xWV tail):=by simp [EE]
 have Ue:xj1 (xDO (As++Z::Bs) tail) (xDO (As++X::Y::Bs) tail):=by
  rw [ez,ef,EE As.flatten X];exact((xhw).app b6).app xhw
 refine hq st' Z ⟨xca ⟨b1,b2,b3,by rw [b4,ez],λ p hp=>hA.has p (Mv.mem xeZ Ue hp)⟩,P3 r hr,?_,Ue.trans OR⟩
 ·show LE hA.p (hP.merge hi lZ)
 ·show xbX hr z z
  ·exact so r (by simp [z])
  ·show xe6 z z
   ·show xaj b5 (xae [_,_,_] (.a xdR Φ) xdQ xdR IO nY (EC lZ.symm))
   ·exact so r (by simp [z])
 ·rw [<-hlen];simp [lZ,FK]
theorem rm {α:Type}:∀{Rs:xb2} {j:Nat},xyu (j+1)->∃As X Y Bs,Rs=As++X::Y::Bs/\xQi j
 | [],j,h=>by show xbG
 | [x],j,h=>by show xbG
 |x::y::Rs,0,_=>⟨[],x,y,Rs,rfl,rfl⟩
 |x::Rs,j+1,h=>by
  obtain⟨As,X,Y,Bs,e,hj⟩:=rm (Rs:=Rs) (j:=j) (by show xbG;assumption);exact⟨x::As,X,Y,Bs,by show xak e,by simp [hj]⟩
theorem tW:∀{Rs:xQF},(∀r∈Rs,0<r.length)->Rs.length≤Rs.flatten.length
 | [],_=>Tl
 |r::Rs,h=>by
  have h1:=h r Z6;have h2:=tW (Rs:=Rs) λ q hq=>h q (by simp [hq])
  rw [Gu,EB,EV];exact(xae [_,_,_] (xv9 xdR) Φ NE Φ h1 h2)
def SrP (κ:KeyKind)(a0:xis)(x:Nat){γ:Type}(r:ForInStep (Option γ×Nat))(st':SortSt):Prop:=match r with
 | .done c'=>∃Rs L,c'=xm3 L/\xLQ []
 | .yield c'=>∃Rs tail L,c'=xm3 L/\xLQ tail/\x+1≤L
def CN (h:1<n):n-2+1<n:=by exact(xfk xEd xeH (xl6 (xaG xaH) xD9 h))
def Tr (hO:κ.OneLt)(hk:xlG)(hf:xxE sq0)(hp:xB0=#[])(MB:xlb p xqW p)
  (h:∀st',xxE st'->xZp xbW->xj1 (xCl).toList xqW->xSb):xd7 sortRuns':=by
 show xty a0 ha0 a0 (xqW=a0) xbs;have hsz:xIQ=a0.length:=by rw [<-ha0,Gk]
 show xpM
 extract_lets size Oj MN
 have hsize:size=a0.length:=hsz
 clear_value size
 have tot:∀{st' L Rs tail},xLQ tail->L+tail.length=size:=λ {st' L Rs tail} hR=>by
  show xhS (xNN xeZ hR.st') EB hR.len;exact this.trans hsize.symm
 show xiW (λ x c st'=>∃Rs tail L,c=xm3 L/\xLQ tail/\x≤L) (Q:=λ c st'=>∃Rs L,c=xm3 L/\xLQ []) ?_ ?_ ?_ ?_
 rotate_left
 ·rintro c st' ⟨Rs,tail,L,rfl,hR,hx⟩;have t:=tot hR;show xb9 tail [] (GE.mp ((IP t).trans (KC hx))) (xc8 Rs L hR)
 ·exact xeO [] a0 0 (xc8 (xee #[] ⟨hk,hf,hp,ha0,λ p X3=>MB p (by show LE ha0 X3)⟩) (xmx h h) xhw) Tl
 ·rintro c O2 ⟨Rs,L,rfl,hR⟩;have hlen:=tot hR;show xaK Np (tW (Rs:=Rs) λ r hr=>(hR.so r hr).2) hR.len Np;show xiW (λ x c st'=>c=xFM/\∃Ow,xQ0 Ow []/\Ow.length≤xLl (size-x)) (Q:=λ c st'=>c=xFM/\∃Ow,xQ0 Ow []/\Ow.length≤1) ?_ ?_ (xpe Rs hR (EF Np (xld hlen (xZt _)))) ?_
  ·rintro x c Ni _ hx ⟨rfl,Ow,Nq,NS⟩;show xpM;show xeP pe hA hP Nq.at' hs4 (xGO Ni=Ow.length) (by show LE hA.p hP.size)
   extract_lets p i before i2
   by_cases h1:p.size≤1
   ·refine xuL h1 (xpe Ow Nq ?_);have NU:xGO Ni≤1:=h1;exact Hm hs4.symm NU
   ·refine xrd h1;have NU:¬xGO Ni≤1:=h1;have hi2:i2+1<Ow.length:=by
     have e1:i=xGO Ni-2:=rfl;have e2:i2=i-1\/i2=i:=by
      show xfT _ _ _=i-1\/xfT _ _ _=i
      split
      ·exact xec
      ·exact xx7
     exact hs4▸Fq (HS (e2.elim (λ e=>e▸xet) EC)) (CN (Jj NU))
    clear_value i2
    obtain⟨As,X,Y,Bs,rfl,hj⟩:=rm hi2;show xbB (jJ hO Nq hj (Ε N7 Z M8));refine xRH (xpe _ M8 ?_);simp only [EB,EV] at NS ⊢;exact EF (HP ((Std.le_max.1 NS).resolve_left (On (Nat.not_succ_le_zero _ (Kr (EF (KY _ _) z)))))) (xZt _)
  ·rintro c Ni ⟨rfl,Ow,Nq,NS⟩;exact xpe Ow Nq (EF NS (x1l ⟨Tl,xld (IM size) xan⟩))
  ·rintro c Ni ⟨rfl,Ow,Nq,NS⟩;show xbd pe hA hP Nq.at' (Fh (h Ni hA.f ?_ ?_))
   ·rw [hA.a,Fv];rcases Ow with _|⟨r,_|⟨_,R⟩⟩
    ·simp
    ·simpa using(Nq.so r Z6).1
    ·cases Kr NS
   ·rw [ha0,hA.a];exact Nq.st'
 rintro x c Ue _ hx ⟨Rs,tail,L,ec,hR,hxL⟩;subst ec;have t:=tot hR
 extract_lets MN jp force nf
 have elo:MN=L:=rfl
 clear_value MN
 subst elo;by_cases Np:MN≥size
 ·show xb9 tail [] (GE.mp ((IP t).trans (KC Np))) (xuL Np (xc8 Rs MN hR))
 show xgM (xrd Np) pe hA hP hR.at';show xbB (m9 hO (P:=Rs.flatten) (X:=tail) (S:=[]) (by simpa using hA) hR.len.symm (Ω (size-MN) tail.length (Ih (IP t))) ((Nat.le_sub_iff_add_le' (E4 xJj)).mpr xJj) λ m Y O2 m1 m2 lY sY tY hA2=>?_);show xD6 m2' (m≤tail.length) (xuI m2 (IP t).symm)
 extract_lets n0
 have Wb:∀n Y tail' Ni,Y.length=n->0<n->xNs->xj1 xzs tail->xmG Ni (xG3 (xzs))->
   xl2 (xSr n) (SrP κ a0 x) Ni:=by
  intro n Y tail' Ni lY nY sY tY Vv;have Nq:xCU Ni MN Rs xzs:=⟨⟨pe,Vv,hP⟩,hR.so,hR.len,((xhw).app tY).trans hR.st'⟩;show xpM
  extract_lets v1 XZ
  have Sk:∀N7 Ow,xCU N7 MN Ow xzs->xl2 xRh (SrP κ a0 x) N7:=by
   intro N7 Ow M8;show xeP pe4 RZ hP4 M8.at' ef (xDO (Ow++[Y]) tail'=Ow.flatten++(xzs)) (by simp [EE])
   show xVS (Fh (xeO (Ow++[Y]) tail' (MN+n) ⟨Ψ ((xNn).push (MN,n,0)) (xbI RZ.k RZ.f (by show LE ef RZ.a) (λ p hp=>RZ.has p (by show π ef hp hp))),P3 r hr,?_,by show LE ef M8.st'⟩ (Ez hxL nY)))
   ·show LE RZ.p (hP4.push M8.len.symm lY.symm)
   ·show xbX hr z z
    ·exact M8.so r z
    ·show xb9 r Y (by show xuZ) ⟨sY,EW nY lY.symm⟩
   ·have:=M8.len;simp only [IE,EB,Gu,List.flatten_nil,Fv];rw [this,lY]
  clear_value XZ
  cases hb:(pendingOf Ni).back? with
  |none=>
   have:xl2 xRh (SrP κ a0 x) Ni:=Sk Ni Rs Nq;simpa only [hb] using this
  |some e=>
   obtain⟨s1,n1,p1⟩:=e;simp only [hb];show xiW (λ _ c st'=>c=xFM/\∃Ow,xCU st' MN Ow xzs) (Q:=λ c st'=>c=xFM/\∃Ow,xCU st' MN Ow xzs) ?_ xEH (xr1 Rs Nq) ?_
   ·rintro x2 c N7 _ _ ⟨rfl,Ow,M8⟩;show xpM;show xeP pe4 RZ hP4 M8.at' hs4 (xr0=Ow.length) (by show LE RZ.p hP4.size)
    by_cases h2:xr0>1
    ·obtain⟨As,X,Y1,Bs,rfl,hj⟩:=rm (Rs:=Ow) (j:=xr0-2) (hs4▸CN h2);show xks pw p1 (hP4.at (i:=xr0-2) hj) e1 (Tm (xfT (xr0>1) (xNn)[xr0-2]? none) (xHu X.length pw)) (by
      rw [E5 h2,<-p1,RZ.p])
     rw [e1];dsimp only;refine cW (Fh (xr1 _ M8)) (wpS_bind (jJ hO M8 hj (Ε Zs Z YZ)));exact xRH (xr1 _ YZ)
    ·have e1:xac (xfT (xr0>1) (xNn)[xr0-2]? none):=xno;show LE e1 (Fh (xr1 Ow M8))
   ·rintro c N7 ⟨rfl,Ow,M8⟩;show xVS (Sk _ Ow ?_);show xbd pe4 RZ hP4 M8.at' ⟨xca (xbI RZ.k RZ.f RZ.a RZ.has),M8.so,M8.len,M8.st'⟩;show NA Ow ((xNn).modify (xr0-1) _);show LE RZ.p (hP4.modify _ (xMe e))
 clear_value jp
 by_cases Mb:m<Oj
 ·refine xN9 Mb xDv;show xbB (kI hO (P:=Rs.flatten) (Y:=Y) (R:=xBS) (S:=[]) hA2 hR.len.symm sY lY m1 (show m≤xFg (size-MN) from xYS (E4 Mb)) (show xFg (size-MN)≤xGs m xBS by rw [EN,FY m2'];exact xuI xfV (IP t).symm) λ Y' Ni lY' sY' tY' Vv=>?_);refine xJs (HV (Wb _ Y' (xXp (xFg (size-MN)-m)) Ni lY' (EM m1 (xYS (E4 Mb))) sY' ?_ (by simpa using Vv)) λ r st' q=>by cases r<;>exact q);have e1:xj1 (Y'++xXp (xFg (size-MN)-m)) ((tail.take m++xj6 xBS (xFg (size-MN)) m)++xXp (xFg (size-MN)-m)):=(tY'.trans (tY.app xhw)).app xhw;rw [EE,Ft,Ft] at e1;exact e1
 ·refine aL Mb (HV (Wb m Y xBS O2 lY xe5 sY ?_ (by simpa using hA2)) λ r st' q=>by cases r<;>exact q);have e1:=tY.app (Mv.refl (blt:=κ.blt) (kf:=xjr) xBS);show π Ft e1 e1
universe SG
namespace SG
open PySem PyProof.Rows
abbrev ltI:Int->xoT Int:=λ a b=>xfK a b
noncomputable abbrev ky {β:Type} (p:Int×β):Int:=xaC
def Si:SM.Ord ltI:=⟨λ a=>FZ xZk,λ a b c h1 h2=>EJ (x0I (EL h2)),λ a b c h=>by
  have:=xb5;by_cases c1:a<b
  ·show xa8 (EJ c1)
  ·show xdG (EJ (Int.lt_of_le_of_lt (xUj c1) this)),λ a b h1 h2=>by
  have:=Il h1;have:=Il h2;lia⟩
noncomputable def kInt:KeyKind where
 α:=Int
 blt:=λ a b=>xfK a b
 irrefl:=λ a=>FZ xZk
 trans:=λ a b c h1 h2=>EJ (x0I (EL h2))
 negTrans:=λ a b c h=>by
  have:=xb5;by_cases c1:a<b
  ·show xa8 (EJ c1)
  ·show xdG xrR
 total:=λ a b h1 h2=>by
  have:=Il h1;have:=Il h2;lia
 keyOf:=λ v=>match v with
  | .int n _=>some n
  |_=>none
 dflt:=0
def Xv:kInt.OneLt:=by
 intro prog w A E s x y a b Q hx hy hq;cases x with
 |int n t=>
  cases y with
  |int m u=>
   cases hx;cases hy;exact oneLt_int hq
  |_=>cases hy
 |_=>cases hx
theorem Xu {α:Type}{R:xea α α}:∀{l:xb2},l.length<2->l.Pairwise R
 | [],_=>.nil
 | [x],_=>by simp
 |x::y::l,h=>by show xbG;exact xdX Τ (xaG xeH) xD9 h
universe SG
namespace L2
open PySem PyProof.Rows QQ
theorem pG:∀{l1} {x} {l2} {m},PR (l1++x::l2) m->∃m1 y m2,m=m1++y::m2/\PR l1 m1/\(∃t,xhW=xdK xh0)/\RelV y.2 xlK/\PR l2 m2
 | [],x,l2,m,h=>by
  cases h with
  |cons a b c=>exact⟨[],_,_,rfl,.nil,a,b,c⟩
 |z::l1,x,l2,m,h=>by
  cases h with
  |cons a b c=>
   obtain⟨m1,y,m2,rfl,h1,h2,h3,h4⟩:=pG c;exact⟨_::m1,y,m2,rfl,.cons a b h1,h2,h3,h4⟩
def Bf (g:PR l1 m1)(h:PR l2 m2):PR (l1++l2) (m1++m2):=by
 induction g with
 |nil=>exact h
 |cons a b _ ih=>exact .cons a b ih
def yr (h:PR l m){k:Int}(hn:∀z∈l,¬SL (xTw xf6 k z)):∀z∈m,¬SL (xPo k z):=by
 induction h with
 |nil=>intro z hz;cases hz
 |cons a b c ih=>
  intro z hz;show xe6 hz hz
  ·show xgK t a (xvK (E7 ..))
  ·exact ih (λ u hu=>hn u (xmC hu)) z hz
theorem x9:∀{l' l:xhs LW LW} {m},xMA xf6 l' l->PR l m->xdo (xM6 SG.ky m' m/\PR l' m')
 | [],l,m,hs,h=>by
  have e:=xTW xM1 hs;cases h with
  |nil=>exact⟨[],xUG,.nil⟩
  |cons a b c=>cases e
 |x::l',l,m,hs,h=>by
  have O:=xM1;have hx:=SM.Mv.mem O hs (xF4 x l');obtain⟨l1,y,l2,rfl,hy,h1⟩:=SM.Nn ⟨x,hx,SM.M0 (blt:=SG.kInt.blt) (kf:=xf6) O x⟩;have e:=hs (xf6 x);have n1:l1.filter (xTw xf6 (xf6 x))=[]:=Hi.mpr h1;rw [Ff (SM.M0 O x),Fp,n1,F6,Ff hy] at e;show xks rfl e2 (J8 e) ht (xMA xf6 l' (l1++l2)) (λ k=>by
   by_cases hk:SL (xTw xf6 k x)
   ·have z:=SM.Nj.mp hk;show xgy (xf6 x=k) (xQy _ xeS xh6);rw [Fp,n1,F6];exact e2
   ·have e3:=hs k;rw [xpi,Fp,xpi] at e3;show LE Fp e3)
  obtain⟨m1,y,m2,rfl,p1,⟨t,hy1⟩,p2,p3⟩:=pG h;show xeP m' q1 q2 (x9 ht (Bf p1 p3)) hkx (xf6 x=xh0) (by
   show xks x1 x2 x e9 (x1=xdK xh0) hy1;subst e9;rfl)
  have km:∀z∈m1,¬SL (xPo xh0 z):=by
   show π hkx h1 (yr p1 h1)
  refine Ψ (y::m') (xc5 k)
  ·by_cases hk:SL (xPo k y)
   ·have z:=SM.Nj.mp hk;show xgy (xh0=k) (SG.Si.tot _ _ xeS xh6);have n2:m1.filter (xPo xh0)=[]:=Hi.mpr km;have q:=q1 xh0;rw [Fp,n2,F6] at q;rw [Ff hk,Fp,n2,F6,Ff hk,q]
   ·show xaK q (q1 k) Fp q;rw [xpi,Fp,xpi,q]
  ·show xbH x1 x2 x y1 y2 y;exact .cons ⟨t,hy1⟩ p2 q2
def vB {σ:St}
  (I:SZ) (ho:xgN a (xHj n)) (fa:xp5 a) (hl:its.length=ks.length) (MG:x1x)
  (WU:∀(MZ:Η) (s':LX) (E':xad) (i:Nat) (x:LW) (k:Int),xaU its=xas->xaM ks k->xz1 H s'->xnF (xNk xcZ) (λ r OQ=>(∃t,r=xdK k)/\xz1 H OQ) E' s')
  (h:∀(s':LX) (out:SB) (kv:xa3),xzK->(∃e,s'.heap.get? a=some (seqObj "list" (out.map (·.2)) e))->xOi ks->xV1->xVA xf6 xtK->P (.done (.ret .none)) s'):
  xnF (xZF xbL xwZ) P E s:=by
 rw [kS];have ha:xxw a:=Fk ho;show xgj (listItems_at ho rfl ?_) (xFh ho ?_);show xty e1 ho1 e1 (xk1 xPX a xJA) (xbR (Ka ho (λ _=>#[])));have I1:xJ9 xPX:=I.turn fa;have hs1:(xPX).objs.size=s.heap.objs.size:=Heap.size_update ..;show xbU xPX h1 (EG (xUw ho1 ?_));show xgj (wpAny_newTuple ?_) xMR;refine G7 ?_;have ho3:xk1 (xDk (xB4 0) 0) a xJA:=xjD (xjD ho1);have I3:xJ9 (xDk (xB4 0) 0):=xML s.toks (λ b o e=>xjD xd0)
 have hc3:xk1 (xDk (xB4 0) 0) xKo (xqw ([]:xa3).toArray 0):=xg1;have TX:xG9 xKo:=by rw [size_push',hs1];exact(xRE)
 have fc:xp5 xKo:=xMP TX TX;have nac:a≠xKo:=xyh ha TX;show xnF _ P E (xmi (xDk (xB4 0) 0));show xqB xKo c (xDk (xB4 0) 0) h3;dsimp only;show xgj (Ij ?_) (wpAny_forIn_array' _ (λ rest _ s'=>∃(i:Nat) (kv:xa3),rest=its.drop i/\i≤its.length/\xOi (ks.take i)/\xzK/\xqF a xJA/\∃e2,xqF c (x1u e2)) _ ?_ ?_ _ _ ⟨0,[],rfl,xan,.nil,I3,ho3,0,hc3⟩)
 ·rintro x rest _ s' ⟨i,kv,hr,hi,Vs,I',hoa,e2,Pz⟩;have hx:xaU its=xas:=by
   have:(its.drop i)[0]?=xas:=by rw [<-hr];rfl
   rw [Ik] at this;show xmD
  have Ny:i<its.length:=xdN hx;have hk:xaM ks ks[i]:=EI (xhq [_,_,_] xuf Φ xJp Ny);have WS:rest=its.drop (i+1):=by
   show π (GG Ny) hr (J8 hr).2
  have Ip:=I'.pinned (fp:=[a,c]) (xbo (by
   show xkp
   ·exact fa
   ·show xjG hb fc)) (xbo (by
   show xkp
   ·exact xbu hoa eZ
   ·show xjG hb (xbu Pz eZ)))
  refine xyP (xiq (WU _ s' _ i x ks[i] hx hk Ip) (Ε r OQ z9) e e);obtain⟨⟨t,hrv⟩,I''⟩:=z9;subst hrv;have hoa':Tm (OQ.heap.get? a) xJA:=(I''.pin _ (xTh Z6 hoa)).1;have hoc':Tm (OQ.heap.get? c) (x1u e2):=(I''.pin _ (xTh Z6 Pz)).1;have I2:=I''.unpinned;have Rv:kv.length=i:=by rw [Vs.length,ER];lia
  dsimp only;show xxq (xFh hoc' xjC (hsz:=by rw [E3,Rv,IQ];exact xbl [_,_] xaR xPM IO 16777216 MG hi) (hsz2:=by rw [Array.size_push,E3,Rv,IQ];exact(xae [_,_] xaR xPM NE xXB MG hi))) ⟨i+1,kv++[xdK ks[i]],WS,Ny,?_,I2.turn fc,?_,?_⟩
  ·rw [Ga,hk];exact uy Vs
  ·show xxm c _ a=_;show xwU _ nac hoa'
  ·have e:=Ka hoc' (λ x=>x.push (xxZ ks[i]));show π List.push_toArray e (xbR e)
 ·rintro _ s' ⟨i,kv,hr,hi,Vs,I',hoa,e2,Pz⟩;have hie:xxK i:=by
   show xg7 (xkK hr) EN;show xoc this (xfU (xBt hi) [_,_,_] xcc (xaZ 0 xdQ) Sc xgE τ)
  rw [hie,hl,Fs] at Vs;have Rv:xxK kv.length:=by rw [Vs.length,hl]
  have hz:xxK xXm:=by show xb8 Array.size_zip;exact HC (EC Rv.symm)
  have I4:xog (xO2 xRs):=I'.turn fc;have WL:xk1 xRs a xJA:=by show xwU _ nac hoa
  have fin:∀out:SB,xV1->xVA xf6 xtK->P (.done (.ret .none)) (xO2 ((xRs).update a (Obj.mapSeq λ _=>out.map (·.2)))):=by
   intro out hp hs;show xpd e5 (Ka WL (λ _=>out.map (·.2))) xRs h4;show xdg I5 (xog (xO2 (xYm a))) (Inv.turn (s:=xO2 h4) I4 fa) (xYm a) h5;exact xgp out kv I5 (xbR e5) Vs hp hs
  refine EG (listItems_at Pz rfl ?_);by_cases h2:its.toArray.size<2
  ·rw [E5 h2,E5 h2];show xcr xuv StateT.run_pure xuv;dsimp only;show xgj (xFh Pz ?_ (hsz:=by rw [E3,Rv,IQ];exact(xlO 1000 16777216 MG))) (JW ?_);show xgj (xUw WL ?_) (xFh WL ?_ (hsz2:=by rw [Array.size_map];show xXm≤_;rw [hz,IQ];exact(xim Τ IO 1000 IO xXB MG)));simp only [bne_self_eq_false,Hj,JP];refine E1 (fin _ (SG.Xu ?_) ?_)
   ·rw [Gk];show xXm<2;show π E3 h2 (lt_of_eq_of_lt hz h2)
   ·have:xlw xBz xtK:=Z6;show SM.Mv _ _ (xBz).toList _;show LE this xUG
  ·rw [xno,xno];rw [E3] at h2;have hkk:keyKind' kv.toArray=pure oneType':=by
    match kv,Vs,Rv with
    | [],_,Rv=>show xoc Rv (xdX Τ (xdP 2) (xcT 0) (xgV (FS h2) Rv.symm))
    | [_],_,Rv=>show xoc Rv (xdX Τ (xdP 2) NE (xgV (FS h2) Rv.symm))
    |v₁::v₂::vs,Vs,_=>exact keyKind_ints Vs
   show Uf hkk xuv;have hzl:xlw xBz xtK:=Z6;have hik:xdI (arrOf (xZl xBz #[] 7 none)).toList (SG.O6 SG.kInt p):=by
    intro p hp;have X3:p∈xtK:=by show xba hzl hp
    show xbp n t e (Vs.all _ (J7 X3).1) ⟨n,by show xak e⟩
   refine xvO (SG.Tr SG.Xv (sq0:=xZl xBz #[] 7 none)
    (Q:=λ _ st'=>xZp (SG.MM SG.kInt)/\xxE st'/\xMA xf6 (xCl).toList xtK)
    rfl rfl rfl hik λ st' a1 a2 a3=>⟨a2,a1,by show xba hzl a3⟩) ?_ e e
   rintro⟨⟨⟩,st'⟩ OQ ⟨rfl,hp,hf,hs⟩;have hsz9:xxK (xCl).size:=by rw [<-Gk,xTW xM1 hs,List.length_zip,Rv,Nat.min_self]
   dsimp only;show xgj (xFh Pz ?_ (hsz:=by rw [E3,Rv,IQ];exact xdj MG)) (JW ?_);show xgj (xUw WL ?_) (xFh WL ?_ (hsz2:=by rw [Array.size_map,hsz9,IQ];exact(xim Τ IO 1000 IO xXB MG)));rw [hf];simp only [bne_self_eq_false,Hj,JP];exact E1 (fin _ hp hs)
def pK {σ:St}
  (I:SZ) (hp:xTU its.toArray) (hl:its.length=ks.length) (MG:x1x)
  (WU:∀(MZ:Η) (s':LX) (E':xad) (i:Nat) (x:LW) (k:Int),xaU its=xas->xaM ks k->xz1 H s'->xMo X.A.in1.in1 (xNk xcZ) (λ r OQ=>(∃t,r=xdK k)/\xz1 H OQ) E' s')
  (h:∀(s':LX) (l:LV) (out:SB) (kv:xa3),xzK->xp5 l->(∃e,s'.heap.get? l=some (seqObj "list" (out.map (·.2)) e))->xOi ks->xV1->xVA xf6 xtK->xww s'):
  xjt (xtr "sorted" xbk xwZ) Q E s:=by
 refine call_function_entry_kw kind_sorted plain_sorted entry_sorted (je _ _) ?_;unfold Builtin.«sorted»;show xnm (EG (m:=checkCount "sorted" 1 1 _) xjC) (EG (collect_list hp ?_)) (EG xMR);have hsz:((s.heap.push (seqObj "list" #[] 0)).update s.heap.objs.size (Obj.mapSeq (·++its.toArray))).objs.size=xeh:=by
  rw [Heap.size_update,size_push']
 have hoL:xk1 (((s.heap.push (seqObj "list" #[] 0)).update s.heap.objs.size (Obj.mapSeq (·++its.toArray))).push (seqObj "list" its.toArray 0)) xeh (xHj 0):=by
  show xba hsz xg1
 have I2:xJ9 (xYb (xHj 0)):=xOP (λ b o e=>
  xjD (by show xwU _ xDt xd0))
 show xtB _ (xmi (xYb (xHj 0)));rw [hsz];have fl:xp5 xeh:=xMP xm1 xm1;refine xrt (wpAny_call_entry_kw slot_list_sort (xrC hoL) entry_list_sort (vB I2 hoL fl hl MG WU λ s' out kv a1 a2 a3 a4 a5=>xxJ) (gG _ _));exact E1 (xaJ (h s' _ out kv a1 fl a2 a3 a4 a5))
def zg (K:Frag)(sp:Sp)(t:TA):TE:=λ σ H Q=>xkE zs (∃(p:LV) (xs:M2) (ks:xoJ),zs=xbk/\xrB H1 p/\xI1 ks.length/\xbC xs.length/\
 (∀(i:Nat) v k,xfg=xaw->xaM ks k->sp [v] H1 (λ r H2=>r=xRV/\H2=H1) E0)/\
 ∀l m,xhF l->(m.map (·.1)).Pairwise (·≤·)->xM6 SG.ky m (ks.zip xs)->xww (upd H1 l (.lst (m.map (·.2)))))
def lu {fe:L5}{p:Pos}{kp:Pos}{pos:Pos}{y:Str}{t:TA}(F:xHE Mq k f fd [y] sp)(hr:xxS (k+2))(hb:xBx X.K [y] [])(hg:xCL "sorted")(hm:xqT "sorted")(hf:xuJ fe xeD)(ha:xjT [e] t)
  (he:xal (xua (e:: [])=xi6::xJW)) (P9:xYe)
  (MB:xal ((backToKw pos (keywordEach [⟨some "key",fe,kp⟩] X.env)).all (·.1.isSome)=true))
  (hkw:xal ((backToKw pos (keywordEach [⟨some "key",fe,kp⟩] X.env)).any (·.1.isNone)=false))
  (hfm:xal ((backToKw pos (keywordEach [⟨some "key",fe,kp⟩] X.env)).filterMap (·.1)=[("key":Str)])):
  xpu "sorted" p [e] [⟨some "key",fe,kp⟩] (zg X.K sp t):=by
 intro L8 s σ H Q I h;show ρ (Hu (xzt I (Ω (bootBuiltins "sorted") (xom "sorted") Z8) ?_)) (xYV e (rest:=[]) xGp he P9 MB hkw);show xm0 vs;refine kws_cons (thn (hf L8 s1 σ H1 (λ v H2=>v=xeD/\H2=H1) I1 xkP) λ fv s2 ⟨v,H2,I2,r2,e1,e2⟩=>kws_nil ?_);subst e1 e2;obtain rfl:fv=Value.ref f:=r2;rw [hfm];obtain⟨p,xs,ks,rfl,hq,hlen,MG,Rq,q⟩:=q1;show xqE u ru (fK r1);obtain rfl:u=Value.ref p:=ru;show xoo rv pl hz (I2.list hq);show xyK Ny;show xtB (xtr "sorted" xbk xwZ) s2;refine pK (ks:=ks) I2 pl.isList Z5 (xld Ny.symm MG) (λ MZ s' E' i x k' hx hk I'=>?_) λ s' l out kv I' fl ⟨en,ho⟩ Vs hp hs=>?_
 ·obtain⟨v,hv,rvv⟩:∃v,xfg=xaw/\xRX x:=by
   have hix:xAI:=by show xaE (xdN hx) (EW this Ny.symm)
   obtain⟨u,e3,r3⟩:=xOT i (x:=xs[i]) (EI hix);show xhX hx e3 e3 (xbu (EI hix) r3)
  show xQH (xHv (xVx X.A.in1.in1 s' H2 (xoC xcZ) xcZ [v] _ E0 hr.in1.in1 I'.env0.in1.in1 (hb s' xcZ I'.kIn rfl) (xmA rvv) (Rq i v k' hv hk)) r OQ hq);cases r with
  |error e=>show xfE hq
  |ok fl=>
   cases fl with
   |ret u=>
    obtain⟨v',H',I'',rr,e1,e2⟩:=I'.after hq;subst e1 e2;show xaj rr I''
   |next=>show xfE hq
   |brk=>show xfE hq
   |cont=>show xfE hq
 ·show xjP m OR hpr (x9 hs (Cb Vs rv)) hvals (zv hpr);have hml:=B9 hpr;have hol:xxK out.toList.length:=by rw [xTW xM1 hs,List.length_zip,Vs.length];lia
  refine xbY xa0 _ (I'.adopt fl (its:=out.toList.map (·.2)) hvals (by rw [EA];show xcj IQ) (n:=en) (by rw [ho,<-Array.toList_map])) (q l m fl.1 ?_ OR);rw [F7];intro i j hi hj ZM;rw [EA] at hi hj;have key:∀(i:Nat) (h:i<m.length) (h2:i<out.toList.length),xf6 (out.toList[i]' h2)=m[i].1:=by
   intro i hi hi2;show xeP t v e (DX hpr (EI hi)) e' (out.toList[i]=(xdK m[i].1,v)) (Fx ((EI hi2).symm.trans e));show xak e'
  have l1:=xoU hp i j Z5 Z5 ZM;rw [Lz,Lz];have l2:Μ (SG.kInt.blt (xf6 (out.toList[j]' Z4)) (xf6 (out.toList[i]' Z4))):=l1;rw [key i hi,key j hj] at l2;have l3:¬m[j].1<m[i].1:=On (by
   have:SL (SG.kInt.blt m[j].1 m[i].1):=xy5;show W1 this l2 l2)
  exact Int.not_lt.mp l3
universe L2
namespace PM
abbrev Bd:=Nat×Fr
noncomputable def pairs:xaW->xaW
 |a::b::r=>(xpQ+xg9,a.2++xeT)::xO3
 |_=>[]
def occ (R:xaW)(p:Nat):Nat:=(R.map λ b=>xuk xeT).sum
def MV (B:xaW):Prop:=B.Pairwise λ a b=>xpQ≤xg9
def gY {a b:Fr}(h:a.Perm b):a.sum=b.sum:=by
 induction h with
 |nil=>rfl
 |cons x _ ih=>simp [ih]
 |swap x y l=>simp;exact Nat.add_left_comm _ _ _
 |trans _ _ h1 h2=>exact h1.trans h2
def p5 {R S:xaW}(h:R.Perm S)(p:Nat):xnJ=xga S:=gY (h.map _)
def kE (R S:xaW)(p:Nat):xga (R++S)=xnJ+xga S:=by simp [occ]
def eC (b:Bd)(S:xaW)(p:Nat):xga (b::S)=xuk xeT+xga S:=by simp [occ]
def Ep {R U X Y:xaW}(h:xrD R U (X++Y)):∃RX RY UX UY,R.Perm (RX++RY)/\U.Perm (UX++UY)/\X.Perm (RX++UX)/\Y.Perm (RY++UY):=by
 induction R generalizing X Y with
 |nil=>exact⟨[],[],X,Y,.nil,h,xQz,xQz⟩
 |cons r R ih=>
  have hr:r∈X++Y:=h.subset E7;show xbX hr hX hY
  ·have e:=JG hX;have h2:xrD R U (X.erase r++Y):=xZL (e.append_right Y);obtain⟨RX,RY,UX,UY,h3,h4,h5,h6⟩:=ih h2;exact⟨r::RX,RY,UX,UY,h3.cons r,h4,e.trans (h5.cons r),h6⟩
  ·have e:=JG hY;have h2:xrD R U (X++Y.erase r):=xZL ((e.append_left X).trans Jl);obtain⟨RX,RY,UX,UY,h3,h4,h5,h6⟩:=ih h2;exact⟨RX,r::RY,UX,UY,(h3.cons r).trans Jl.symm,h4,h5,e.trans (h6.cons r)⟩
def u8:∀(n:Nat) {B RP UP:xaW},xmF n->MV B->xrD RP UP xfI->(∀r∈RP,∀u∈UP,r.1≤u.1)->
  ∃R U,xrD R U B/\(∀r∈R,∀u∈U,r.1≤u.1)/\xEY (xQj 2)/\(∀p,xnJ=xga RP)/\∀r∈R,∃q∈RP,∃x∈B,xbt=r.1+xhW:=by
 intro n
 induction n with
 |zero=>
  intro B RP UP hB _ h _;have e:B=[]:=GE.mp xYw;subst e;have:RP=[]/\UP=[]:=by
   have:=xQA;show xmD
  show xpU this ⟨[],[],.nil,xrN (by show xbG),rfl,xhA,xrN (by show xbG)⟩
 |succ n ih=>
  intro B RP UP hB hs h hle
  match B,hB,hs,h with
  | [],_,_,h=>
   have:RP=[]/\UP=[]:=by
    have:=xQA;show xmD
   show xpU this ⟨[],[],.nil,xrN (by show xbG),rfl,xhA,xrN (by show xbG)⟩
  | [x],_,_,h=>
   have:RP=[]/\UP=[]:=by
    have:=xQA;show xmD
   show xpU this ⟨[],xcZ,xQz,xrN (by show xbG),rfl,xhA,xrN (by show xbG)⟩
  |a::b::r,hB,hs,h=>
   have Ul:MV r:=xI7 (xI7 hs);have ha:=xIj hs;have hb:=xIj (xI7 hs);have YX:xpQ≤xg9:=ha b E7;have hm:(xpQ+xg9,a.2++xeT)∈RP++UP:=h.symm.subset E7;show xbX hm hR hU
   ·have e:=JG hR;have h2:xrD (RP.erase (xpQ+xg9,a.2++xeT)) UP xO3:=((e.append_right UP).symm.trans h).cons_inv;obtain⟨R,U,h3,h4,h5,h6,h7⟩:=ih (by show xoc hB (G1 hB)) Ul h2 λ x hx u hu=>hle x (KA hx) u hu
    show xaK hl e.length_eq EV hl;refine⟨a::b::R,U,(h3.cons b).cons a,?_,?_,xc5 p,?_⟩
    ·intro x hx u hu;have hur:u∈r:=h3.subset (xq5 hu);show xe6 hx hx
     ·exact ha u (xmC hur)
     ·show xe6 hx hx
      ·exact hb u hur
      ·exact h4 x hx u hu
    ·rw [EV,EV,h5];lia
    ·rw [p5 e p,eC,eC,eC,h6 p];show _=xuk (a.2++xeT)+_;show xcj Iz
    ·intro x hx;show xe6 hx hx
     ·exact xeQ hR b Z6 rfl
     ·show xe6 hx hx
      ·exact xeQ hR a Z6 (Ix _ _)
      ·show xfG q hq y hy e (h7 x hx) ⟨q,KA hq,y,xmC xyF,e⟩
   ·have e:=JG hU;have h2:xrD RP (UP.erase (xpQ+xg9,a.2++xeT)) xO3:=(Jl.symm.trans ((e.append_left RP).symm.trans h)).cons_inv;obtain⟨R,U,h3,h4,h5,h6,h7⟩:=ih (by show xoc hB (xfk NE IO hB)) Ul h2 λ x hx u hu=>hle x hx u (KA hu)
    have key:xb6 R (xhW≤xpQ/\xhW≤xg9):=by
     intro x hx;obtain⟨q,hq,y,hy,e⟩:=h7 x hx;have h8:xbt≤xpQ+xg9:=hle q hq _ hU;have h9:=hb y hy;show xaj (xcI [_,_,_,_,_] (xJV xdL xoE) (xbi (xnh Φ)) xkR (Ez h8 h9)) (xdF [_,_,_,_,_] (xaV (xJV xdL xoE)) (xa2 (xbi (xnh Φ))) IO YX (xbJ xkR h8 h9))
    refine⟨R,a::b::U,?_,?_,h5,h6,P3 x hx⟩
    ·exact Jl.trans ((Jl.trans (h3.cons b)).cons a)
    ·intro x hx u hu;show xe6 hu hu
     ·exact(key x hx).1
     ·show xe6 hu hu
      ·exact(key x hx).2
      ·exact h4 x hx u hu
    ·show xfG q hq y hy e (h7 x hx) ⟨q,hq,y,xmC xyF,e⟩
inductive WA (sg:xaW):xux xaW
 |zero:WA sg 0 []
 |step {k:Nat} {B B':xaW}:WA sg k B->B'.Perm (sg++xfI)->MV B'->WA sg (k+1) B'
noncomputable def sgl (wt:xbz) (p:Nat):Bd:=(wt p,[p])
def oV {wt:xbz}{L:Fr}{RX UX:xaW}(h:(xhD).Perm (RX++UX)):∃RL UL,L.Perm (RL++UL)/\RX=RL.map xla/\UX=UL.map xla:=by
 have g:xbQ (RX++UX) (xla ((xeT).headD 0)=b):=by
  intro b hb;show xPs p rfl (h.symm.subset hb);rfl
 refine⟨RX.map (·.2.headD 0),UX.map (·.2.headD 0),?_,?_,?_⟩
 ·show xhS (h.map (·.2.headD 0)) GQ EO;have e:((λ b:Bd=>(xeT).headD 0)∘xla)=id:=by funext p;rfl
  rw [e,List.map_id] at this;exact this
 ·rw [GQ]
  conv=>lhs;rw [<-List.map_id RX]
  exact JV (xbo (g b (xpP hb)).symm)
 ·rw [GQ]
  conv=>lhs;rw [<-List.map_id UX]
  exact JV (xbo (g b (xq5 hb)).symm)
theorem sK {wt:xbz}:∀{M:Fr} {p:Nat},xga (M.map xla)=M.count p
 | [],p=>rfl
 |q::M,p=>by
  rw [Gp,eC,sK];show xuk [q]+_=_;rw [JZ,JZ];simp;exact Ix _ _
theorem lT {p:Nat}:∀{M:Fr},M.Nodup->p∈M->M.count p=1
 | [],_,h=>by show xbG
 |a::M,hn,h=>by
  have hn':=Kf.mp hn;rw [JZ];by_cases e:a=p
  ·subst e;show xb8 (Iu hn'.1)
  ·have hm:p∈M:=by
    show xoe h h h
    ·show xaq h.symm e
    ·exact h
   rw [lT hn'.2 hm];simp [e]
def kr (R:xaW)(k:Nat)(S:Fr):Nat:=xNP (λ p=>2^(k-xnJ))
def u7 {S:Fr}{f:xbz}{c:Nat}(h:xdI S (f p=c)):xNP f=xuy c:=by
 induction S with
 |nil=>rfl
 |cons a S ih=>
  rw [Gp,Jc,xl7 a,ih λ p hp=>xiP p hp,EV,Nat.mul_succ];exact Ix _ _
def uW {S:Fr}{f g:xbz}(h:xdI S (f p=g p)):xNP f=xNP g:=by rw [JV h]
def xD {wt:xbz}{L:Fr}(hL:L.Nodup)(hw:xdI L (0<wt p)){k:Nat}{B:xaW}(lv:xFD k B):MV B/\(xbQ B (0<xg9))/\
  ∀R U,xrD R U B->(∀r∈R,∀u∈U,r.1≤u.1)->∃S T,L.Perm (S++T)/\(xdI S (Ν xnJ/\xnJ≤k/\xla p∈R))/\(∀p,p∉S->xnJ=0)/\2*kr R k S+2^k*R.length=xuy (2^(k+1)):=by
 induction lv with
 |zero=>
  refine⟨.nil,xrN (by show xbG),λ R U h _=>?_⟩;have:R=[]/\U=[]:=by
   have:=xQA;show xmD
  show xpU this ⟨[],L,xQz,xrN (by show xbG),xkF,rfl⟩
 | @step k B B' _ hp hs ih=>
  show xeP hsB P4 ih ih pos_pairs (∀(n:Nat) (B:xaW),xmF n->(xbQ B (0<xg9))->xbQ xfI (0<xg9)) (by
   intro n
   induction n with
   |zero=>intro B hB _ b hb;show xgy (B=[]) (GE.mp (xnY (xaf Τ IO xed IO xed hB)));show xD7 hb
   |succ n ih2=>
    intro B hB h b hb
    match B,hB,h,hb with
    | [],_,_,hb=>show xD7 hb
    | [x],_,_,hb=>show xD7 hb
    |x::y::r,hB,h,hb=>
     show xkp
     ·have:=xl7 x;show 0<xhW+xh0;exact Nat.add_pos_left this _
     ·exact ih2 r (by show xoc hB (xfk NE IO hB)) (xbo (xiP b xJy)) b hb)
  refine⟨hs,xfi,λ R U h hle=>?_⟩
  ·show xbX xTX hb hb
   ·show xeB p hpL (Hk.mp hb);exact hw p hpL
   ·exact pos_pairs _ B Tl P4 b hb
  ·obtain⟨RX,RP,UX,UP,h1,h2,h3,h4⟩:=Ep (h.trans hp);obtain⟨RL,UL,h5,rfl,rfl⟩:=oV h3;have mR:∀b,b∈RL.map xla\/b∈RP->b∈R:=xbo (h1.symm.subset (EX.mpr hb))
   have mU:∀b,b∈UL.map xla\/b∈UP->b∈U:=xbo (h2.symm.subset (EX.mpr hb))
   obtain⟨R',U',h6,h7,h8,h9,Ye⟩:=u8 _ Tl hsB h4.symm λ r hr u hu=>hle r (mR r (.inr hr)) u (mU u (.inr hu))
   obtain⟨S,T,PZ,h12,h13,h14⟩:=ih R' U' h6 h7;have Yv:∀p,xnJ=RL.count p+xga R':=λ p=>by rw [p5 h1 p,kE,sK,h9 p]
   have hndR:RL.Nodup:=xYY (h5.nodup_iff.mp hL);have hndS:S.Nodup:=xYY (PZ.nodup_iff.mp hL);have hsub:xdI S (p∈RL):=by
    intro p hpS;have hpL:p∈RL++UL:=h5.subset (PZ.symm.subset (xpP hpS));show xbX hpL hh hh
    ·exact hh
    ·obtain⟨q,hq,x,hx,e⟩:=Ye _ (xbM (h12 p hpS));have:=hle q (mR q (.inr hq)) _ (mU _ (.inl (KZ hh)));have hx0:=P4 x hx;have e':xbt=wt p+xhW:=e;have:xbt≤wt p:=this;exact xdX [_,_,_] (xLK (xag xdR)) xfJ (xbJ xkR this hx0)
   have hcnt:xdI RL (RL.count p=1):=λ p hp=>lT hndR hp
   refine⟨RL,UL,h5,λ p hpR=>xsZ ?_ (mR _ (.inl (KZ hpR))),P3 p hpR,?_⟩
   ·rw [Yv,hcnt p hpR];exact Fg 1 _
   ·rw [Yv,hcnt p hpR];by_cases hpS:p∈S
    ·show xaE (Ξ (h12 p hpS)) (xsS [_,_] IO Sc xfL Β)
    ·show LE (h13 p hpS) (xrL (xqj xaH))
   ·rw [Yv,Iu hpR,h13 p (On (hpR (hsub p z)))]
   ·
    have hspl:RL.Perm (S++xOU p (! xIP p S)):=by
     have e1:RL.Perm (RL.filter (xf4 p (p∈S))++xOU p (! xIP p S)):=(List.filter_append_perm _ _).symm;refine e1.trans (List.Perm.append_right _ ?_);rw [List.perm_ext_iff_of_nodup (hndR.filter _) hndS];intro p;simp only [HI,decide_eq_true_eq];show xaj (λ h=>xeU) (λ h=>⟨hsub p h,h⟩)
    have hkr:kr R (k+1) RL=kr R' k S+2^k*(xOU p (! xIP p S)).length:=by
     unfold kr;have e2:(RL.map λ p=>2^(k+1-xnJ)).sum=(RL.map λ p=>2^(k-xga R')).sum:=by
      refine uW xvY
      rw [Yv,hcnt p hp,show k+1-(1+xga R')=k-xga R' by lia]
     rw [e2,gY (hspl.map _),EO,ID];congr 1;refine u7 xvY
     simp only [HI,Bool.not_eq_true',decide_eq_false_iff_not] at hp;rw [h13 p hp.2,IK]
    have hlR:=h1.length_eq;have hlS:=hspl.length_eq;rw [EB,EA] at hlR;rw [EB] at hlS;rw [hkr,hlR,Gj 2 (k+1),Gj 2 k];rw [h8,Gj 2 k] at h14;show xqB (xOU p (! xIP p S)).length xl (2^k) q;rw [hlS];have e0:∀z,q*2*z=2*(q*z):=On (by rw [F2 q 2,FV])
    have e00:∀z,q*2*2*z=4*(q*z):=On (by rw [FV (q*2) 2 z,e0 (2*z),Lp q 2 z];exact xcK Τ (.m 2 xjI) (xgH 4) Τ (xgH 4) (.m 2 xjI))
    have e3:q*(xQj 2)=2*(xQj q):=by rw [Lp]
    have e4:xuy (q*2)=2*(xuy q):=e0 _;have e5:q*2*(xor xl+RP.length)=2*(xuy q)+2*(q*xl)+2*(xQj q):=by
     rw [e0,Iq q,Iq q];exact xcK [_,_,_] (.m 2 xx5) (xRz xeJ xoZ) [_,_,_] (xRz xeJ xoZ) (.m 2 xx5)
    have e6:q*2*2*(xor xl)=4*(xuy q)+4*(q*xl):=by
     rw [e00,Iq q];exact Iq 4 _ _
    rw [e5,e6];rw [e3,e4] at h14;exact xcY (xaf [_,_,_,_] (xiB xyW) xoZ (xix Pi (.a (xFA xeJ) xyW)) (xfM 4 (xmh 4)) (EC h14)) [_,_,_,_] xoZ (xiB xyW) (xfM 4 (xmh 4)) (xix Pi (.a (xFA xeJ) xyW)) (EC h14.symm)
theorem d4:∀(n:Nat) {B:xaW},xmF n->xaI xfI (B.length/2)
 |0,[],_=>rfl
 |_+1,[],_=>rfl
 |_+1,[_],_=>by simp [pairs]
 |n+1,a::b::r,hB=>by
  have h1:=d4 n (B:=r) (by show xoc hB (xfk NE IO hB));rw [pairs,EV,h1,EV,EV];exact(ED (xdv 2 [_,_,_] (xiB (xaG xyB)) (xa2 (xa4 xeJ 2)) NE Sc xR3) (xdv 2 [_,_,_] (xgg xeJ) (.a (xa4 xjI 2) xyB) Sc NE (xnx xsp)))
theorem pk {L:Fr}:∀(n:Nat) {B:xaW},xmF n->(xbQ B (xdI xeT (p∈L)))->xbQ xfI (xdI xeT (p∈L))
 |0,[],_,_,_,hb=>by cases hb
 |_+1,[],_,_,_,hb=>by cases hb
 |_+1,[_],_,_,_,hb=>by cases hb
 |n+1,x::y::r,hB,h,b,hb=>by
  show xkp
  ·exact λ p hp=>xmk hp (xl7 x p) (xiP y E7 p)
  ·exact pk n (by show xoc hB (xfk NE IO hB)) (xbo (xiP b xJy)) b hb
def Bc {L:Fr}{wt:xbz}{k:Nat}{B:xaW}(lv:xFD k B):xbQ B (xdI xeT (p∈L)):=by
 induction lv with
 |zero=>intro b hb;cases hb
 | @step k B B' _ hp hs ih=>
  intro b hb;show xbX xTX hb hb
  ·show xeB p hpL (Hk.mp hb);exact λ q hq=>by show xjG hq hpL
  ·exact pk _ Tl ih b hb
def zY {L:Fr}{wt:xbz}{k:Nat}{B:xaW}(lv:xFD k B):xcu*2^k+1≤2^k*B.length+xcu+2^k:=by
 induction lv with
 |zero=>simp
 | @step k B B' _ hp hs ih=>
  have hl:=hp.length_eq;rw [EB,EA,d4 _ (B:=B) Tl] at hl;rw [hl,Gj];have h2:xmF (2*(B.length/2)+1):=xbn [_,_] NE (xa4 xeJ 2) IO (xaG xeJ) xsp;show xqB (B.length/2) h B.length b;show xqB L.length n (2^k) q;have h3:q*b≤q*(2*h+1):=EH _ h2;have e1:q*(2*h+1)=2*(q*h)+q:=by rw [Iq,Lp];exact xcK [_,_] (xiB (xzI 1)) xyC [_,_] xyC (xiB (xzI 1))
  have e2:2*n*q=2*(q*n):=by rw [FV,F2 n]
  have e3:2*n*(q*2)=4*(q*n):=by rw [<-FV,e2];exact xcK Τ (.w xjI 2) (xgH 4) Τ (xgH 4) (.w xjI 2)
  have e4:q*2*(n+h)=2*(q*n)+2*(q*h):=by rw [F2 q 2,FV,Iq q];exact Iq 2 _ _
  rw [e3,e4];show π e2 ih (xae [_,_,_,_,_,_] (.a xJg xDu) (.a (xrq (xdh xoZ)) (xsv (xFz xaS))) (xaG (xgH 4)) (.a (xRz xeJ xoZ) (.w xaS 2)) ih (xgV h3 e1))
def best {L:Fr}{wt:xbz}(hL:L.Nodup)(hw:xdI L (0<wt p)){m:Nat}{B:xaW}(lv:xFD m B)(hn:xmL 2)(hm:xmq (2^m)):
  (xdI L (Ν xSH/\xSH≤m))/\(∀p,p∉L->xSH=0)/\
  (L.map λ p=>2^(m-xSH)).sum≤2^m:=by
 show xeP hs P4 hpart (xD hL hw lv) hlen (xgL (xcu-2)) (by
  have h1:=zY lv;have h0:0<2^m:=xgU;show xbx B.length (xcu-2) h h
  ·exfalso;have h2:2^m*(xud 3)≤2^m*(xcu):=EH _ (xae [_,_,_] (xoM (xeW 2 2)) (xa2 xeJ) xfc xeJ h (xeX Τ xD9 IO xD9 xjI hn));rw [Iq] at h2;show π (F2 xcu) h1 (xru [_,_,_,_] (xiB (xgg (xbi (xzI 3)))) (xFz (xel (xdf (xbi xjI)))) (xbJ (xwz hm) h1 h2))
  ·exact h)
 have Wo:xaI xEK (xcu-2):=by show xs3 (FR hlen)
 have hsplit:xrD xEK (B.drop (xcu-2)) B:=by rw [Ft]
 have hle:∀r∈xEK,∀u∈B.drop (xcu-2),r.1≤u.1:=by
  have:MV (xEK++B.drop (xcu-2)):=by show LE Ft hs
  exact xbM (EZ.mp this)
 obtain⟨S,T,h1,h2,h3,h4⟩:=hpart _ _ hsplit hle;rw [Wo] at h4;generalize xEK=R at*;show xaK hlL h1.length_eq EB hlL;have hT:T=[]:=by
  rcases IN T.length with h|h
  ·exact GE.mp h
  ·exfalso;have h0:0<2^m:=xgU;have h5:xuy (2^(m+1))≤2^m*(xcu-2):=by
    have:xuy 2≤xcu-2:=(xae [_,_,_,_] (xix xfH (xix xdR xoZ)) (xFA (xFB (xlN 2))) xjI Sc (xk2 2 hlL.symm) (Ez (xwz h) τ));rw [Gj,FV];exact EH _ this
   have O3:kr R m S=0:=(xnY (xmg [_,_,_] (xel xyC) xcc IO 0 (EC h4) h5));have hS0:S=[]:=by
    match S,O3 with
    | [],_=>rfl
    |p::S',O3=>
     exfalso;unfold kr at O3;rw [Gp,Jc] at O3;have:0<2^(m-xnJ):=xgU;exact(xru [_,_] (xN1 xdR) (xdP 0) (xuA (EC O3)))
   subst hS0;rw [O3] at h4;have h6:2^m*(xcu-2)=0:=by simpa using h4
   rcases Nat.mul_eq_zero.mp h6 with h|h<;>lia
 subst hT;rw [Fv] at h1;rw [J6,Ig] at hlL;have hkL:kr R m S=(L.map λ p=>2^(m-xnJ)).sum:=(gY (h1.map _)).symm;refine Ψ xvY (λ p hp=>h3 p (On (hp (h1.symm.subset z))))
 ·obtain⟨a,b,_⟩:=h2 p (h1.subset hp);show xaj a b
 ·rw [<-hkL];rw [<-hlL,Gj] at h4;have e:2^m*(xcu-2)+2*2^m=2^m*2*L.length:=by
   rw [F2 2 (2^m),<-Iq,FV];congr 1;exact xcY (xaf [_,_] xEd xeJ xEd xeJ (xeX Τ xD9 IO xD9 xjI hn)) [_,_] xeJ xEd xeJ xEd τ
  exact(xdv 2 [_,_,_,_] (xrq (xiB WF)) (xbi (xa2 xeJ)) IO Sc (Ez (EC h4) xkR))
def y6 {wt:xbz}{p:Nat}{k:Nat}{B:xaW}(lv:WA ([p].map xla) k B):k=0\/B=[xla p]:=by
 induction lv with
 |zero=>exact xec
 | @step k B B' _ hp hs ih=>
  right
  have:xfI=[]:=by
   show xj3 ih
   ·rename_i h;cases h;rfl
   ·rfl
  show π this hp (List.perm_singleton.mp hp)
def T8 (P:Fr)(wt:xbz)(m:Nat)(ln:xbz):Prop:=
 (xdI P (Ν xAa/\xAa≤m))/\(∀p,p∉P->xAa=0)/\xUY (λ p=>2^(m-xAa))≤2^m
def T8.perm {P L:Fr}{wt:xbz}{m:Nat}{ln:xbz}(h:T8 L wt m ln)(hp:L.Perm P):T8 P wt m ln:=by
 show xbp h1 h2 h3 h ⟨λ p hpP=>h1 p (hp.symm.subset hpP),λ p hpP=>h2 p (On (hpP (hp.subset z))),by show xba (gY (hp.map _)) h3⟩
def wS {L:Fr}{wt:xbz}(hL:L.Nodup)(hw:xdI L (0<wt p)){m:Nat}{B:xaW}(lv:xFD m B)(h1:xVk)(XA:Ν m)(hm:xmq (2^m)):
  T8 L wt m (occ (xxT 1 (xcu-2))):=by
 by_cases hn:xmL 2
 ·have e:xLl (xcu-2)=xcu-2:=Z5;show xfs (best hL hw lv hn hm)
 ·match L,h1,hn,hL,hw,lv with
  | [p],_,_,_,hw,lv=>
   rcases y6 lv with h|rfl
   ·exact xdX Τ xfL (xcT 0) (xgV XA h)
   ·have e:∀q,occ ([xla p].take (xLl (2* [p].length-2))) q=xDL [p]:=λ q=>by
     show occ [xla p] q=_;rw [eC];show xDL [p]+occ [] q=_;rfl
    have ep: xuk [p]=1:=Z6;refine Ψ (P3 q hq) (P3 q hq)
    ·rw [Fm.mp hq,e,ep];show xaj Tl XA
    ·show xfs (Iu hq)
    ·rw [Gp,K9,Jc,List.sum_nil,e,ep];have:2^(m-1)≤2^m:=xiT (G5 _ 1)
     assumption
  |a::b::r,_,hn,_,_,_=>show xaq Z6 hn
universe PM
namespace SM
theorem Qd {kf:β->κ}(O:xQw)(φ:α->β):∀{mm:List β} {Z:xb2},xmE mm (Z.map φ)->∃Z',mm=Z'.map φ/\xMs (On (xDX z)) Z' Z
 | [],Z,h=>by
  show xaK e (xNN O h) EA e;show xb9 Z [] (GE.mp e.symm) (xf2 [] xhw)
 |x::mm,Z,h=>by
  have hx:=xHV h (xF4 x mm);obtain⟨z0,hz0,ez0⟩:=Hk.mp hx;obtain⟨l1,y,l2,rfl,hy,h1⟩:=Nn (p:=On (xQL (φ z))) (ys:=Z) ⟨z0,hz0,by show LE ez0 (M0 O x)⟩;have e:=h xgP;have n1:(l1.map φ).filter xQL=[]:=Hi.mpr λ u hu=>by
   show xeB z hz (Hk.mp hu);exact h1 z hz
  rw [EO,Gp,Ff (M0 O x),Fp,n1,F6,Ff hy] at e;obtain⟨ex,e2⟩:=J8 e;subst ex;have ht:xmE mm ((l1++l2).map φ):=λ k=>by
   rw [EO,Fp];by_cases hk:xuG k (φ y)
   ·have z:=xXf;show xgy (xDX y=k) (xQy _ xeS xh6);rw [n1,F6];exact e2
   ·have e3:=xkz;rw [EO,Gp,xpi,Fp,xpi] at e3;exact e3
  show xbd Z' rfl hs (Qd O φ ht) (xf2 (y::Z') (xc5 k));show xaK Ul (hs k) Fp Ul;rw [Fp];by_cases hk:SL (xqI (On (xDX z)) k y)
  ·have z:=xXf;have ek:xDX y=k:=xQy _ xeS xh6;subst ek;have n2:l1.filter (xqI (On (xDX z)) (xDX y))=[]:=Hi.mpr λ u hu=>h1 u hu
   rw [n2,F6] at Ul ⊢;rw [Ff hk,Ff hk,Ul]
  ·rw [xpi,xpi,Ul]
def Sx (ψ:α->γ){kf':α->κ}(hk:∀z,kf' z=kg (ψ z))(h:xMs kf' Z' Z):xMs kg (Z'.map ψ) (Z.map ψ):=λ k=>by
 rw [KR,KR];have e:(xqI kg k∘ψ)=xqI kf' k:=by
  funext z;show xqI kg k (ψ z)=xqI kf' k z;show xci eqv hk
 rw [e,xkz]
universe SM
namespace D6
open PM SM
abbrev wI (b:Bd):Int:=xD2
inductive Py (sg:xaW):xux xaW
 |zero:xFi 0 []
 |step {k:Nat} {B B':xaW}:xFi k B->Mv SG.ltI wI B' (sg++xfI)->MV B'->xFi (k+1) B'
def Py.lev (h:xFi k B):WA sg k B:=by
 induction h with
 |zero=>exact .zero
 |step _ hs hso ih=>exact .step ih (MJ SG.Si hs) hso
def tH {B:xaW}(h:MV B):B.Pairwise (Le SG.ltI wI):=h.imp λ {a b} YX=>by
 show Μ (xfK xD2 (LT xpQ));exact FZ Z5
def Py.uniq (h:xFi k B)(h':xFi k B'):B=B':=by
 induction h generalizing B' with
 |zero=>cases h';rfl
 |step _ hs hso ih=>
  cases h' with
  |step h2 Rt hso2=>
   have:=ih h2;subst this;exact Qc SG.Si (tH hso) (tH hso2) (hs.trans Rt.symm)
universe D6
namespace QQ
open PySem PyProof.Rows
def rk {i:Nat}(hq:xp0)
  (he:IsEnum s.heap e it i old) (hit:xTi l i) (hl:xTG l) (hx:xPp)
  (hQ:∀h',xzZ->xF1):xhf (pyNext xoL):=by
 have hT:s.TypeIs xoL "enumerate":=xrC he;show xEV;refine xyP (Gz hT K3
  (HR K3 hT PySem.F.entry_enumerate_next ?_ (PySem.F.args_enumerate_next_1 _)))
 show xtB (field xoL 2>>= _) _;show xgj (G8 he rfl rfl ?_) (nK hq hit hl hx λ h' x he' ZD=>?_);show xbd o ho hc ZD (xFc (xjS ho hc) JN ?_);exact xy3 _ he'
universe QQ
namespace L2
open PySem PySem.Spec PyProof.Rows QQ
def Zc (K:Frag)(a:LV):It:=
 ⟨λ i H=>∃xs x,xh9/\xfg=xas,λ i H v H'=>∃p x,xi3/\v=xbV/\H'=xdJ H p [xQJ,x]/\∀xs,xh9->xfg=xas,λ i H=>∃xs,xh9/\xs.length≤i⟩
def vo {K:Frag}(a e it)(Oe:e≠it):
  xEv w K (xOD k pos) xAb [e,it] e (λ i h=>(∃old,IsEnum h e it xer old)/\x0l a i) where
 mem:=Z6
 obj:=λ i h st b hb=>by
  show xHL he hit st;show xoe hb hb hb
  ·show xcL hb (xbu he (λ v z=>by
    have z':xUi=xUX:=z;cases z'))
  ·obtain rfl:=xIS;show xbq o e' c d hit (xjS e' (λ v z=>by show W1 d z z))
 keep:=λ i h h' st k=>by
  show xHL he hit st;show xaj ⟨old,k e Z6 _ he⟩ (hit.at λ o x=>k it Z6 o x)
 item:=by
  intro X hP hw hK hc i L8 s σ H E I hf st hg;subst hP hw hK;show xHL he hit st;obtain⟨xs,x,hq,hx⟩:=hg;show xod rv p;obtain⟨u,hu,ru⟩:=rv.get hx;obtain⟨e0,e1,e2,e3,e4,e5⟩:=hf e Z6;show xlz f0 f1 f2 f3 f4 f5 Z6;have elt:xxw e:=Fk he;have ilt:xxw it:=by obtain⟨o,e',_⟩:=id hit;exact Fk e'
  have hT:xZo:=xkQ;show ρ (wpAny_pyNext_enum_item he hit p.isList (by show xD5) Oe λ h1 ho hit1 ht hsz kk=>?_) (xaJ (wpAny_letOwnedTupleGo_enum ho (Ε h2 Wf Rt)));have kept:∀b o,xBu->b≠it->xfo->h2.get? b=Id:=λ b o n1 n2 x=>xqC Rt b n1 (kk b o n1 n2 x)
  have Yp:Tm (h2.get? s.heap.objs.size) (xXW (.seq #[xcq s.toks,u])):=xqC Rt _ (Ja elt) ht;have Wm:∀b o,xfo->xxr b:=λ b o x=>FL (Fk x)
  have nT:∀b o,xaN=Id->xxr b:=λ b o x z=>by show xbm hT x x
  have nE:∀b o,xaN=Id->xBu/\b≠it:=λ b o x=>⟨On (by show xbm e0 x x),On (by show xbm f0 x x)⟩
  have he3:IsEnum h2 e it (xgq) u:=by
   have:(xgq)=xer+1:=Nat.ToInt.add_congr rfl rfl;show LE this Wf
  have WO:h2.IsListIter it a (i+1):=hit1.at λ o x=>xqC Rt it Oe.symm x
  have I2:xqv (xdJ H s.heap.objs.size [xQJ,x]) s h2 xuD:=by
   refine xV9 [e,it] xfi (λ b o _ _ hb x _=>kept b o (xuw (by simp [z])) (xuw (by simp [z])) x) (λ b o _ _ hb x _=>xOw (kept b o (xuw (by simp [z])) (xuw (by simp [z])) x)) (λ b o _ x n=>by show υ (Wm b o x) n) (λ b o hb x=>xMm (kept b o (xuw (by simp [z])) (xuw (by simp [z])) x)) (λ b xs x=>by show υ (nT b _ x) x) (λ b o u x=>by show υ (nT b _ x) x) (λ b ps x=>xKR (by rw [ai (nT b _ x),x];simp)) (P3 m hm) (Ε b o x) I.bare
   ·show xoe hb hb hb
    ·show xcL hb ⟨e3,e1,e4,e5⟩
    ·obtain rfl:=xIS;exact⟨f3,f1,f4,f5⟩
   ·show xfG o es' ep V7 r hm ⟨o,es',ep,kept _ o (K1 e1) (K1 f1) V7,r⟩
   ·by_cases hb:b=s.heap.objs.size
    ·show xb3 hb i' x x;exact⟨by show xdn,[xcq s.toks,u],xXq (xmA ru),xbI _ Yp _ rfl⟩
    ·rw [xnn] at x;refine xH4 b o x (λ c v YW q=>?_) (λ c q=>by show υ (nT c _ q) q) (λ c xs q=>by show υ (nT c _ q) q)
     show xfw YW
     ·show xcL z (kept c v (nE c _ x).1 (nE c _ x).2 q)
     ·exact kept c v (nE c _ z).1 (nE c _ z).2 q
  refine xjj xok _ I2 (xeO _ x hT rfl (λ ys hy=>by show LE (x1e hq) hx)) ⟨⟨u,he3⟩,WO⟩ xfi;show xoe hb hb hb
  ·subst hb;show υ (FL elt) e0
  ·obtain rfl:=xIS;show υ (FL ilt) f0
 done:=by
  intro X hP hw hK hc i L8 s σ H E I hf st hg;subst hP hw hK;show xHL he hit st;obtain⟨xs,hq,hx⟩:=hg;show xod rv p;show xlz f0 f1 f2 f3 f4 f5 Z6;show xyK hl;exact rk I.hq he hit p.isList (by simp;exact xVI hx) λ h' eb=>xEm (λ b o hb e=>eb b o hb e)
 self:=xCM h (by
  show xHL he hit st;exact xZa h)
inductive Vl (K:Frag) (R:xr4) (vs:M2) (H1:Hp):Prop
 |mk (l:_) (xs:_) (h0:vs=[xa0]) (h1:xrB H1 l) (h2:R (Zc K l) H1):Vl K R vs H1
def Dy (K:Frag)(ta:TA):TI:=λ σ H R=>xFV vs (Vl K R vs H1)
def mQ {X:Cx}(hg:xCL "enumerate")(hm:xqT "enumerate")(ha:xjT xfv ta)(hs:xal (xkH xfv=[xmM a])):
  PI X (xOD k q) (xIa "enumerate" p xfv []) (Dy X.K ta):=by
 intro L8 s σ H R I h;show xg8 (Call_ (xzt I boot_enumerate (HK xGp hs rfl))) vs;obtain⟨l,xs,e,hq,q⟩:=q1;subst e;cases r1 with
 |cons r rr=>
  cases rr;cases r;show xoo rv p hz (I1.list hq);refine call_enumerate_list p.isList λ h' he hit hsz hk=>?_
  have I2:xij H1 {s1 with heap:=h'}:=xV0 hk;refine xZa ⟨s1.heap.objs.size+1,[s1.heap.objs.size+1,s1.heap.objs.size],_,_,H1,rfl,I2,vo l _ _ (Nat.succ_ne_self _),⟨xbR he,hit⟩,xfi,q⟩;have MX:s1.heap.objs.size≤b:=by
   show xoe hb hb hb
   ·show LE hb xm1
   ·show xjG hb Tl
  exact I1.fpOk MX (I1.hok.fresh MX)
def xK {K:Frag}{g:TG}{tt:TT}{te:TE}{R:xe2}(Pv:xby xJS)(h0:Pv 0 [] xHQ)(hl:∀i ys H,xpR->xsK->xh9)
  (hs:∀i x ys σ H p,xfg=xas->xsK->xyn n->xi3->g xbV σ (xdJ H p [xQJ,x]) λ σ3 H3=>xF3 λ c H5=>xGt c (λ y H4=>xh1=xeM/\xjx/\xIx n/\xfr xAZ xIi) (xIx n/\Pv (i+1) ys H5))
  (hd:∀ys H,xUO H->R H) (mg:∀x σ H (A B:xfO),(∀σ' H',xSi->xSj)->xnL A->xnL B) (mtt:∀σ H (A B:xyJ),(∀v H',xBa->xBb)->xKW H A->xKW H B) (mt:∀σ H (A B:VK),(∀v H',xBa->xBb)->xi8 A->xi8 B):
  ∃W:xsq,(∃m,xLL)/\∀i m ys σ' H',xr7->
   (xoV xAb H'/\R H')\/(xpC xAb H'/\∀x H2,xo8 xAb H' x H2->xwM λ σ3 H3=>xF3 λ c H5=>xGt c (λ y H4=>
    xh1=xeM/\xjx/\xdo (m'<m/\xsY (i+1))) (xdo (m'<m/\xIe (i+1) ys H5))):=by
 refine Ψ (λ i m ys σ H=>m=xhB i/\xpR/\xyn n/\xsK) ⟨xs.length,Z6,xan,Fd,h0⟩;rintro i m ys σ H ⟨rfl,hi,hn,p⟩;have q:=xAt ys H hi p;by_cases Mb:xAI
 ·refine xei ⟨xs,xs[i],q,by simp [Mb]⟩ xw9;obtain⟨p1,x1,MW,e1,e2,y⟩:=y;subst e1 e2;refine mg _ _ _ _ _ (λ σ3 H3 z=>mtt _ _ _ _ (Ε c H5 z) z) (xss x1 ys σ _ p1 (y xs q) p hn MW);cases c with
  |true=>
   rw [xai] at z ⊢;exact mt _ _ _ _ (λ y H4 z9=>by show xbq z1 z2 z3 z4 z9 (xdc z1 z2 (xhB (i+1)) xpB Mb z3 z4)) z
  |false=>
   rw [ES Fb] at z ⊢;exact⟨xhB (i+1),xpB,rfl,Mb,xeS,xh6⟩
 ·have e:xq6 i:=xvD;show xr3 e ⟨xKG xs q,hd ys H p⟩
universe L2
namespace K30.S
open PySem L2 QQ PM D6
seal PE PA PS PSs PT PW PG PI
inductive Sy (vs:M2) (H:Hp) (Q:VK) (Ml:XK):Prop
 |mk (a:LV) (B:Fr) (hi:Nat) (h0:vs=[Γ,vN hi]) (h1:UF=xfQ) (h2:(xqp B hi)) (h3:xgL 1) (h4:xmF 300) (h5:(∃b∈B,0<b)) (h6:xgv true):Sy vs H Q Ml
def w4:ST xtH xtH gs:=Os
def gU (R:Fr):xgC=xU0 (λ b=>xd4) V.int:=by show xak GQ
def Rl {f fA fW:LV}(F:Δ "are_of_things" gs xtH)(AW:xUc cD Jab fA fdA)(W:xF6)(T:xbN):xpl xtH Sy:=by
 show xhU tt ht T.things w4 (λ L9 A outer s H vs Q E hr h=>?_) _;obtain⟨a,B,hi,rfl,hB,hb,h1,h3,⟨b0,Vu,VO⟩,k⟩:=h;have N3:xnH:=Ty;have hn:=xDf;show xax (xjM (xE1 (xqM (xfe (fF AW W T) N3 AW PP ad No)) et az) (xKM (pQ kX kX ad xmP (xbw 300 ht tt)) (dm cF (bw (vF hn) Z7 T.max PyProof.Rows.boot_max xoQ) ad xrz))) ⟨_,rfl,_,rfl,a,B,0,_,rfl,hB,λ b z=>by have:=xj4 z;show xaj xu5 (xj9 (xBt this)),_,rfl,xiS⟩;show xnm ⟨_,rfl,a,_,rfl,xab hB,_,_,rfl,rfl,_,rfl,xzh (EJ (by show xaT (Int.toNat_le.mp h1))) h⟩ (xjj _ _ rfl _ rfl (xzh (EJ (by show xaT (LK rfl rfl h3))) h)) (xc0 a (B.map (λ b=>xd4)) (by show xba gU xC6) (by rw [EA];assumption) (Ε n hn hmax));have:xc1 (LT b0):=hmax _ (KZ Vu);refine xJ3
 try dsimp only
 show LE (Ω (xfK 0 n) true xrR) k
inductive Xc (vs:M2) (H:Hp) (Q:VK) (Ml:XK):Prop
 |mk (a:LV) (B:Fr) (m:Nat) (h0:vs=[Γ,xkf]) (h1:UF=xfQ) (h2:(xX3 B)) (h3:xgL 1) (h4:xmF 300) (h5:(∃b∈B,0<b)) (h6:Ν m) (h7:xfq m) (h8:xcy (B.filter (xf4 b (0<b))) (2^m)) (h9:xz0):Xc vs H Q Ml
def A5:ST Jam Jam tV:=Os
def ndC:xAx ["count"]:=Z8
def yX {f fT fA fW:LV}(F:Δ "need_shares" tV Jam)(Th:xZy gs xtH fT fdT)(AW:xUc cD Jab fA fdA)(W:xF6)(T:xbN):xpk Jam Xc:=by
 show xbH tc hc T.count tm hm T.mlen;show xau A5 (λ L9 A outer s H vs Q E hr h=>?_);obtain⟨a,B,m,rfl,hB,hb,h1,h3,P4,m1,m2,WQ,k⟩:=h;have Mw:xbg:=Ty;show xgt (xR6 (xcQ (Rl Th AW W T) hr Th PP (xbw 1000000 hc tc)) (xR6 (xfe (fJ W T) Mw W No ad xJx) (xg3 cF (bw eM Z7 T.len JI (xcw (jC (N:=["count"]) (g:=xhV) (tt:=pA (xJO (λ i j=>xEf j i) xu3 xPB)) (te:=xu3) rfl rfl Z8 Z8 Z8 (bS PP)
   (λ fp s H=>xA1 ndC) (λ fp s H=>xlk cF PP) (λ fp s H=>PP)))) (xFO No) aM az))) ⟨_,rfl,a,B,1000000,rfl,hB,hb,h1,h3,P4,_,rfl,aS xaa⟩;refine xbT
 have e1:SL (xhH xcv xjW&&xhH xjW 12):=by
  rw [xKO (xcv≤xjW) (Int.toNat_le.mp m1),EJ (show xfq xjW by exact xj9 (xlO 12 12 m2))];rfl
 refine xoF _ xjW 1 12 rfl ?_;rw [e1];show xcC (xaJ (aS xaa));show ρ (xvg a hB xgo) (pD (K:=K) (a:=a) (l:=l) (xs:=xeC) (n:=1) (g:=xhV) (tt:=pA (xJO (λ i j=>xEf j i) xu3 xPB)) (te:=xu3)
  (λ i ys H'=>ys=Ρ (xx6 xqK b (0<b))/\xaz=xeM/\Κ) (xr1 i' xtT) (λ i ys H' _ z9=>by show xCr sm;exact xIo hB) ?_ ?_ ?_ ?_ ?_)
 ·rintro i x ys σ H' hx ⟨rfl,hl,sm⟩ hσ;show xlv b MR hx;have Ny:i<B.length:=xdN MR;show xhi u0 u0 (σ=[u0]) (match σ,hσ with| [u0],_=>xcM u0)
  have hlen:xFu (xx6 xqK b (0<b)):=EF (Kx _ _) (by show xs3 (xDV h3));refine⟨_,rfl,_,_,rfl,rfl,_,rfl,?_⟩;rw [xFj,Fp]
  try dsimp only
  by_cases h0:0<b
  ·show xz9 (xKO (xcU<xd4) xWk) (xc0 hl (bz (by show xaT (xdj hlen))) ?_ i' xGm)
   ·rw [Ff (by show xKh),EO];rfl
   ·show xqg xuB
  ·show xrT (xmj z (EL z) Z5) (xpe ?_ ?_ sm)
   ·show xb8 (Fl (by show xKh))
   ·exact hl
 ·rintro ys H' ⟨rfl,hl,sm⟩;rw [EA,Fs] at hl;refine⟨l,_,rfl,xab hl,_,rfl,_,_,rfl,rfl,⟨xu5,xQ6 12 m2,Z9⟩,_,_,rfl,rfl,_,rfl,xEb h (xeR sm)⟩;exfalso;show xhS xb5 EA E2;have e2:xcv*2^m=LT (2^m):=by show xb8 Int.one_mul
  show xxh e2 (xru [_,_] xb1 xaR (Ez WQ xq1))
 ·exact λ x σ H A B h z=>xh7
 ·exact λ σ H A B h z9=>by obtain⟨v,e1,i,j,e2,e3,c,e4,z⟩:=z9;exact⟨v,e1,i,j,e2,e3,c,e4,xh7⟩
 ·exact λ σ H A B h z9=>by show xbp v e1 z z9 ⟨v,e1,xh7⟩
def Bun (H:Hp)(A:xav)(t:LV)(b:Bd):Prop:=∃l,t∉A/\l∉A/\H t=xeY [vN xg9,xa0]/\xjm=xah xeT
inductive OG (vs:M2) (H:Hp) (Q:VK) (Ml:XK):Prop
 |mk (t l:LV) (n:Nat) (h0:vs=[xgR]) (h1:H t=xeY [xcG,xa0]) (h2:xf0 xcG):OG vs H Q Ml
def wT:ST xx3 xx3 im:=Os
def kZ (F:Δ "weight_of" im xx3):xdl xx3 OG:=by
 show xau wT (λ L9 A outer s H vs Q E hr h=>?_);show xgW t l n rfl ht k;refine xjK xPT;exact⟨_,rfl,t,_,_,_,rfl,rfl,xq9,xev,k⟩
inductive MC (H:Hp) (A:xav):xea xav xaW
 |nil:MC H A [] []
 |cons {t:LV} {b:Bd} {ts:xav} {bs:xaW}:Bun H A t b->xqe->MC H A (t::ts) (b::bs)
def MC.keepA {H H':Hp}{A:xav}{bs:xaW}(h:xqe)(s:∀c o,c∉A->ω=Id->xaY=Id):xVB H':=by
 induction h with
 |nil=>show xib
 |cons a _ ih=>
  show xfG l n1 n2 h1 h2 a (xk7 ⟨l,n1,n2,xft n1 h1,xft n2 h2⟩)
def MC.keep {H H':Hp}{A:xav}{bs:xaW}(h:xqe)(s:Κ):xVB H':=h.keepA λ c o _ e=>s c o e
def MC.sub {H:Hp}{A A':xav}{bs:xaW}(h:xqe)(s:∀a∈A',a∈A):MC H A' ts bs:=by
 induction h with
 |nil=>show xib
 |cons a _ ih=>
  show xfG l n1 n2 h1 h2 a (xk7 ⟨l,On (n1 (s _ z)),On (n2 (s _ z)),h1,h2⟩)
def MC.app {H:Hp}{A:xav}{bs cs:xaW}(h:xqe)(g:MC H A us cs):MC H A (ts++us) (bs++cs):=by
 induction h with
 |nil=>exact g
 |cons a _ ih=>exact xk7 a
def MC.len {H:Hp}{A:xav}{bs:xaW}(h:xqe):ts.length=bs.length:=by
 induction h with
 |nil=>rfl
 |cons a _ ih=>rw [EV,EV,ih]
theorem MC.at {H:Hp}{A:xav}(h:xqe):∀{i:Nat} {b},xaM bs b->∃t,xaM ts t/\Bun H A t b:=by
 induction h with
 |nil=>intro i b h;show xbG
 |cons a _ ih=>
  intro i b h;cases i with
  |zero=>show xbG;show xcL h (xaJ a)
  |succ i=>show xbG;simpa using ih h
def xa:∀n {B} {i} {a b},xmF n->xbS B (2*i) a->xbS B (2*i+1) b->xaM (xfI) (xpQ+xg9,a.2++xeT):=by
 intro n
 induction n with
 |zero=>intro B i a b hB h1 _;show xgy (B=[]) (GE.mp (xnY (xaf Τ IO xed IO xed hB)));simp at h1
 |succ n ih=>
  intro B i a b hB h1 h2
  match B,hB,h1,h2 with
  | [],_,h1,_=>simp at h1
  | [x],_,h1,h2=>simp at h2
  |x::y::r,hB,h1,h2=>
   cases i with
   |zero=>simp at h1 h2;subst h1 h2;rfl
   |succ i=>
    rw [Ω (2*(i+1)) (2*i+1+1) (Ih (Nat.succ_add _ 1))] at h1 h2;simp at h1 h2;show xaU (xO3)=_;exact ih (by show xoc hB (G1 hB)) h1 h2
def ig {ts:xav}{i:Nat}(h:xaM ts t):xaU (xdr)=xap t:=by rw [FA,h];rfl
def B7 (m)(h:xiX m):xTo 1 xjW 2/\xMD 1 m 2=LT (m/2):=by
 have e:xMD 1 m 2=LT (m/2):=by
  show x1F Z9
  split<;>lia
 refine xSz e;have f:∀i,0≤i->i<100000->xYv i:=λ i h0 h1=>by
  show xZb;rw [xrR,xrR];rfl
 show xci Builtin.Range.small e
 try dsimp only
 rw [f 1 Z9 Z9,f xjW Z5 (xEh h),f 2 Z9 Z9,f (LT (m/2)) xd1 (xof (xgQ [_,_] xjI (xff 2000) NE 100000 h xiF)),E5 Z9,f (xjW+(2-1)) Z5 Z5];simp
inductive UJ (vs:M2) (H:Hp) (Q:VK) (Ml:XK):Prop
 |mk (p av:LV) (ts:xav) (B:xaW) (h0:vs=xbk) (h1:xbF=xvn) (h2:(∃o,H av=Id)) (h3:MC H xAy ts B) (h4:xNY) (h5:(xbQ B (xcy xeT 8000000))) (h6:xie l LV us xav (Κ->Ι->xaz=XL xHh->MC H' xAy us xfI->xat)):UJ vs H Q Ml
def OD:ST ["bundles","pairs","place","first","second"] xCv kz:=Os
def wv {P:LY}{K:Frag}(F:Δ "in_pairs" kz xCv)(T:xbN):xdl xCv UJ:=by
 show xau OD (λ L9 A outer s H vs Q E hr h=>?_);obtain⟨p,av,ts,B,rfl,hp,⟨oav,hav⟩,hB,Ws,hsm,k⟩:=h;refine xca (xa6 1 OD.nd xe8 (xg0 (lN Z7 T.range (xin ad xmP ad)) 2 OD.nd (xdD 3 OD.nd (xjX xP1) 4 OD.nd (xjX Ps) (xLV No (xo2 (xbv xyE xyD) (xfb xyE xyD))))) No)
 have QD:=hB.len;show xjh (xju (xdB l nl));have s0:=xLD;have Rt:=B7 ts.length (xmg [_,_] xaR xPM IO 2000 Ws xue);refine xdd ⟨_,rfl,p,_,rfl,xab (xm8 hp),1,_,2,ts.length/2,rfl,Z9,by show xaT Rt.1,by show xaT Rt.2,Km Z9,kF (D:=xxX) (lo:=1) (c:=2) (n:=ts.length/2)
  (λ i σ H2=>∃(v2 v3 v4:xdu) (us:xav),σ=[xfX,xeu,v2,v3,v4]/\xh3=XL xHh/\MC H2 [l,av] us ((xfI).take i)/\xjZ) (xdc none none none [] i' .nil s0) ?_ ?_⟩
 ·clear g1;rintro i σ H2 hi ⟨v2,v3,v4,us,rfl,Ot,TU,sm⟩;have l0:2*i<B.length:=(xae [_,_,_,_] (xa2 (xix NE xyW)) (xaV (xFB WF)) xJg Sc xue (xnx (xwz hi)));have l1:2*i+1<B.length:=(xae [_,_,_,_] (xa2 (xix NE xyW)) (xaV (xFB WF)) (xaG xJg) Sc xue (xnx (xwz hi)));have g0:xbS B (2*i) B[2*i]:=EI l0;have g1:xbS B (2*i+1) B[2*i+1]:=xKZ;have z0:=hsm _ (Hc l0);have z1:=hsm _ (Hc l1);have hpa:=xa _ Tl g0 g1;obtain⟨t0,ht0,la,_,_,Wj,Of⟩:=(hB.keep sm).at g0;obtain⟨t1,ht1,lb,_,_,MR,Pn⟩:=(hB.keep sm).at g1;show xqB B[2*i] ba B[2*i+1] bb;have e1:xcv+xhT*2=xiH (2*i):=(xid (xaZ 1 xQ8) xJg xJg (xaZ 1 xQ8));have e2:xiH (2*i)-1=LT (2*i):=Z5;have ME:=xRq;show xs5 (xmf g2 ⟨_,rfl,_,rfl,_,_,rfl,rfl,?_⟩)
  try dsimp only
  rw [e2];show xko ⟨p,_,_,_,rfl,rfl,Mm.of ME,ax (ig ht0),xcX⟩;show xol g2 ⟨_,rfl,_,rfl,p,_,_,_,rfl,rfl,Mm.of ME,ax (ig ht1),xcX⟩ g2;show xaK hul TU.len ER hul;refine⟨_,rfl,xhj Ot,_,rfl,t0,_,_,_,rfl,rfl,MT.of Wj,xev,_,rfl,t1,_,_,_,rfl,rfl,MT.of MR,xev,_,_,rfl,rfl,
   _,rfl,t0,_,_,_,rfl,rfl,MT.of Wj,xdk,_,rfl,t1,_,_,_,rfl,rfl,MT.of MR,xdk,la,lb,_,_,rfl,rfl,Of,Pn,(by rw [EA,EA,IQ];exact xbl [_,_] Pi (xm4 8000000 8000000) Pi 16777216 z0 z1),P3 q nq⟩
  have e3:V.int (LT xFk+LT xFl)=xhg xFk xFl:=xB9 (xjy [_,_] Pi Pi [_,_] Pi Pi);have s3:=xa1 (Ρ ba.2++xSD) nq;have h3q:(xjV q (Ρ ba.2++xSD)) q=xkx ba.2 bb.2:=by rw [i',EO]
  have TH:=xbZ Ot;show xbU (xjV q (Ρ ba.2++xSD)) H3 (xen (by show xdn) t nt)
  try dsimp only
  rw [e3];have s4:=xjF [xhg xFk xFl,xrm] nt;have h4t:(xdJ H3 t [xhg xFk xFl,xrm]) t=xeY [xhg xFk xFl,xrm]:=i';have VV:=xfj TH;have h4q:=xfj h3q;show xdg nql (q≠l) (On (by show xbm Ot nq nq)) (xdJ H3 t [xhg xFk xFl,xrm]) H4;have sm4:xrW H4:=xNI;refine⟨l,_,_,rfl,rfl,VV,bz (by show xaT (xqf [_,_,_,_] (.a (xaG xoZ) xfH) (xtx xJf) IO Ws (xnb l0 hul xfV))),UV (2*i+1),xap t0,xap t1,us++[t],rfl,?_,?_,xGm⟩
  ·rw [i',EO];rfl
  ·rw [Ga,hpa];have kk:∀c o,c∉ [l,av]->H4 c=Id->(xdw H4 (xHh++[V.ref t])) c=Id:=λ c o n e=>by show υ (On (n (by simp [z]))) e
   have h2av:=xhK hav;have ntl:t∉ [l,av]:=On (by
    simp only [Fa,KF,or_false] at z;show xj3 z
    ·show W1 TH nt nt
    ·show W1 (xbZ h2av) nt nt)
   have nqa:q∉ [l,av]:=On (by
    simp only [Fa,KF,or_false] at z;show xj3 z
    ·exact nql rfl
    ·show W1 h2av nq nq)
   exact(TU.keepA λ c o n e=>kk _ _ n (sm4 _ _ e)).app (xmA ⟨q,ntl,nqa,kk _ _ ntl h4t,kk _ _ nqa h4q⟩)
  ·show xqg (sm4 _ _ xuB)
 ·rintro σ H2 ⟨v2,v3,v4,us,rfl,Ot,TU,sm⟩;show π (E8 (by show LE (d4 _ (B:=B) Tl) (EC (congrFun (congrArg HDiv.hDiv QD.symm) 2)))) TU (xEn (xfp us H2 sm nl Ot (TU.sub λ a h=>by show xbG;simp [h])))
theorem MC.zip {H:Hp}{A:xav}{bs:xaW}(h:xqe):∀z∈ts.zip bs,Bun H A xeS xh6:=by
 induction h with
 |nil=>intro z hz;simp at hz
 |cons a _ ih=>
  intro z hz;rw [List.zip_cons_cons] at hz;show xe6 hz hz
  ·exact a
  ·exact ih z hz
theorem oj:∀(as:xav) bs,(bs.map (λ b=>xD2)).zip (as.map V.ref)=(as.zip bs).map (λ z:LV×Bd=>xg2 (xEc z) xeS)
 | [],bs=>by simp
 |a::as,[]=>by simp
 |a::as,b::bs=>by
  have:=oj as bs;simp only [Gp,List.zip_cons_cons,this]
theorem MC.take {H:Hp}{A:xav}{bs:xaW}(h:xqe):∀n,MC H A (ts.take n) (bs.take n):=by
 induction h with
 |nil=>intro n;rw [List.take_nil,List.take_nil];show xib
 |cons a _ ih=>
  intro n;cases n with
  |zero=>show xib
  |succ n=>exact .cons a (ih n)
theorem mK {H:Hp}{A:xav}:∀{Z:xhs LV Bd},(∀z∈Z,Bun H A xeS xh6)->MC H A (Z.map (·.1)) (Z.map (·.2))
 | [],_=>.nil
 |z::Z,h=>.cons (xl7 z) (mK λ y hy=>xiP y hy)
def x5 {L:Fr}(lv:xFD k B):(xbQ B (xcy xeT (2^k)))/\xmF xcu:=by
 have ps:∀n q B,xmF n->(xbQ B (xcy xeT q))->xbQ xfI (xcy xeT (2*q)):=by
  intro n
  induction n with
  |zero=>intro q B hB _ b hb;show xgy (B=[]) (GE.mp xYw);show xD7 hb
  |succ n ih=>
   intro q B hB h b hb
   match B,hB,h,hb with
   | [],_,_,hb=>show xD7 hb
   | [x],_,_,hb=>show xD7 hb
   |x::y::r,hB,h,hb=>
    show xkp
    ·have h1:=xl7 x;have h2:=xiP y E7;show xcm xlK y.2≤_;show xhY (xae [_,_,_] Pi (xa2 WF) Pi xoZ h1 h2)
    ·exact ih q r (by show xoc hB (G1 hB)) (xbo (xiP b xJy)) b hb
 induction lv with
 |zero=>show xaj (xbo (by simp at hb)) xan
 | @step k B B' _ hp hs ih=>
  have Od:=d4 _ (B:=B) Tl;have hl:=hp.length_eq;rw [EB,EA,Od] at hl;refine⟨xfi,by show xaE ih.2 (xdv 2 [_,_,_,_] (xiB (xbi xoZ)) (xix Φ (xFz xaS)) IO xeJ (xbJ (xk2 2 hl) this xiF))⟩;have h1:Ν (2^(k+1)):=Nat.one_le_two_pow;show xbX xTX hb hb
  ·show xPs p rfl hb;exact h1
  ·have:=ps _ _ B Tl ih.1 b hb;show LE Gj (xsS [_,_] IO xeJ IO (xzI 2))
inductive US (vs:M2) (H:Hp) (Q:VK) (Ml:XK):Prop
 |mk (p av:LV) (ts:xav) (L:Fr) (wt:xbz) (m:Nat) (h0:vs=[xbV,xkf]) (h1:xbF=xvn) (h2:(∃o,H av=Id)) (h3:MC H xAy ts xhD) (h4:MV xhD) (h5:xVk) (h6:xR0) (h7:Ν m) (h8:xfq m) (h9:∀(l:LV) (us:xav) (B:xaW) (H':Hp),Κ->Ι->xaz=XL xHh->MC H' xAy us (xxT 1 (xcu-2))->Py xhD m B->xat):US vs H Q Ml
def PK:ST ["singles","most","bundles","step"] xHf m8:=Os
def wX {P:LY}{K:Frag}{f fP fW:LV}{fd fdP QO:L0}(F:Δ "lightest_bundles" m8 xHf)(Pa:x1y kz xCv fP fdP)(We:x04 im xx3 fW QO)(T:xbN):xpl xHf US:=by
 show xau PK (λ L9 A outer s H vs Q E hr h=>?_);obtain⟨p,av,ts,L,wt,m,rfl,hp,⟨oav,hav⟩,hB,hso,n1,n2,m1,m2,k⟩:=h;have Mw:xbg:=Ty;have NO:xnI:=Ty;have hn:=xDf;refine xca (xa6 2 PK.nd (bu bp Z7 T.list Gh xoQ) (xg0 (bF Z7 T.range (xcw (xlu No))) 3 PK.nd (xmd PK.nd (lu (sp:=OG) (kZ We) NO We.b Z7 T.sort (xzi fW Z7 We.m) (xcw (xfb PP (xl5 (wv Pa T) Pa Ps)))))) (xkW a6 Ps bM (xw3 (ve hn) T.max PyProof.Rows.boot_max ad (xlu (xuC xmP)))))
 show xaK QD hB.len EA QD;show xjh (xrQ p hp (xdB l0 YH));have s0:=xa1 xdr YH;have lv1:Py xhD 1 xhD:=.step .zero (by rw [xce (pairs ([]:xaW)) [],Fv];exact xUG) hso;have e1:xjW-1=LT (m-1):=xmy m1;refine xdd xwc
 try dsimp only
 show xs5 ⟨LT (m-1),rfl,IV (2^62) _,Z5,?_⟩;show Uf E2 (xnN 0 (m-1) (λ i σ H2=>∃(lb:LV) (us:xav) (B:xaW) (v3:xdu),σ=[xfX,xwu,xap lb,v3]/\H2 lb=XL xHh/\MC H2 xAy us B/\Py xhD (i+1) B/\xjZ) ⟨l0,ts,_,none,rfl,i',hB.keep s0,lv1,s0⟩ ?_ ?_)
 ·clear g1;rintro i σ H2 hi ⟨lb,us,B,v3,rfl,hlb,TU,lv,sm⟩;show xks hsz Ws (x5 lv.lev) hsz2 (xbQ B (xcy xeT 8000000)) (xbo (by
   have h1:=hsz b hb;have h2:2^(i+1)≤2^12:=xiT (xgQ [_,_,_] (xel NE) (xK8 xcc) NE 12 m2 (Ez hi xet));have h3:xgw 2^12=4096:=Z9;exact EF h1 (xdj h2)))
  have Od:=d4 _ (B:=B) Tl;refine⟨_,rfl,_,rfl,lb,av,us,B,rfl,hlb,xbR (xhK hav),TU,xbl [_,_] (xFz IO) (xix (.n 300) xeJ) IO 1000 (xwz n2) Ws,hsz2,λ l ps H3 s3 nl hl Vq=>?_⟩;have hpsl:=Vq.len;refine⟨p,l,_,_,rfl,rfl,xbZ xRq,hl,(by rw [EA,EA,IQ];exact xbl [_,_,_,_,_,_] (xfM 3 (xag (xD0 (xaV (.m 2 xfF))))) (xkZ 3 300 (xa2 (xFA (xsv xPQ)))) Pi 16777216 (EH 3 n2) (xbJ xue Ws (xnb (EC Od) hpsl xiF))),P3 q nq⟩;have s4:=xa1 (xdr++xNB) nq;have MB:MC (xsT q (xdr++xNB)) xAy (ts++ps) (xhD++xfI):=((hB.keep xNi).app Vq).keep s4;have h4q:(xsT q (xdr++xNB)) q=XL (xtV (ts++ps)):=by rw [i',EO]
  show xpd sm4 ((xNi).trans s4) (xsT q (xdr++xNB)) H4;have RI:=MB.len;refine⟨q,xtV (ts++ps),xhJ (xhD++xfI) b xD2,rfl,Mm.of h4q,by rw [EA,EA];exact RI,by rw [EA,EB];exact xbl [_,_,_,_,_,_] (xfM 3 (xag (xD0 (xaV (.m 2 xfF))))) (xkZ 3 300 (xa2 (xFA (xsv xPQ)))) Pi 1000 (EH 3 n2) (xbJ xue Ws (xnb (EC Od) hpsl xiF)),λ j v kk hv hk=>?_,λ lo mm nlo hpw VA=>?_⟩
  ·rw [FA] at hk;cases e:xfZ (xhD++xfI) with
   |none=>show W1 e hk hk
   |some b=>
    rw [e] at hk;obtain⟨t,ht,lt,_,_,h1,h2⟩:=MB.at e;show W1 (ig ht) hv hv;cases hk;exact xjj t lt xg9 h1 rfl rfl
  ·have hz:(xhJ (xhD++xfI) b xD2).zip (xtV (ts++ps))=((ts++ps).zip (xhD++xfI)).map (λ z:LV×Bd=>xg2 (xEc z) xeS):=oj _ _;rw [hz] at VA;show xqE Z' QI (SM.Qd SG.Si _ VA);have hZ:=(SM.MJ SG.Si QI).symm;have hSB:x1B wI (xhD++xfI):=by
    show xhM (SM.Sx (kg:=wI) (λ z:LV×Bd=>xh6) xhA QI) (KG xNQ)
   have hZB:xY5 (xhD++xfI):=by
    show xhM (hZ.symm.map (·.2)) (KG xNQ)
   have VB:xZu:=by
    rw [GQ,Ks] at hpw;show xm9 MV Ks (hpw.imp (λ {a b} h=>by have h':xEc a≤xEc b:=h;exact Ld.mp h'))
   have s5:=xYd nlo;refine⟨lo,x1m,x1n,xio (0+xhT),rfl,?_,?_,.step lv hSB VB,sm4.trans s5⟩
   ·rw [i',GQ,GQ];rfl
   ·exact xRj (mK λ z hz=>MB.zip z xY6)
 ·rintro σ H2 ⟨lb,us,B,v3,rfl,hlb,TU,lv,sm⟩;rw [show m-1+1=m by exact xif (xEj (xl6 xaH xaH m1)) [_,_] NE NE τ] at lv;show xcC xaa;obtain⟨_,Ws⟩:=x5 lv.lev;have hul:=TU.len;refine⟨_,rfl,_,rfl,p,_,rfl,xab xRq,_,_,rfl,rfl,xuj,_,_,rfl,rfl,_,_,rfl,?_⟩;have e2:xfT (XV 2*xq0 xdr-2>1) (XV 2*xq0 xdr-2) 1=LT (xLl (xcu-2)):=by
   rw [EA,QD];split<;>lia
  try dsimp only
  show Uf e2 (xuR lb (Mm.of hlb) xvX)
  try dsimp only
  rw [dJ,<-GV];have s5:=xAn (xtV (us.take (xLl (xcu-2))));exact k l5 _ B _ x1o (xIy sm) i' (xRj (TU.take _)) lv
structure FnL (K:Frag)(mg:Α)(x:Str)(st:L7)(ps:xaO)(f:LV)(fd:L0):Prop where
 F:∃dV,xA2 x f fd
 m:xwo=xeL
 b:xps
 d:∃t,xDb K [xdK 6]
theorem FnL.kp (F:FnL K mg x st ps f fd):xiU:=F.F.elim λ _ z=>z.kp
def cw (C:Fr)(p:Nat):Nat:=C.getD p 0
def pos (C:Fr):Fr:=xBL C.length (xf4 p (0<xmO p))
def VH (C:Fr)(m:Nat)(ln:xbz):Prop:=∃(L:Fr) (B:xaW),MV xXt/\xM6 wI xXt xGr/\Py xXt m B/\ln=occ (xxT 1 (xcu-2))
theorem VH.uniq (h:VH C m ln)(h':VH C m ln'):ln=ln':=by
 show xgW L B a1 a2 a3 a4;obtain⟨L',B',b1,b2,b3,b4⟩:=h';have e:=SM.Qc SG.Si (tH a1) (tH b1) (a2.trans b2.symm);have el:=xkK e;rw [EA,EA] at el;rw [<-e] at b3;have:=a3.uniq b3;subst this;rw [a4,b4,el]
def MC.fresh {H:Hp}{A:xav}(h:xqe)(n:Χ av):MC H xAy ts bs:=by
 induction h with
 |nil=>show xib
 |cons a _ ih=>
  obtain⟨l,_,_,h1,h2⟩:=a;exact xk7 ⟨l,On (ae h1 n xOv),On (ae h2 n xOv),h1,h2⟩
def ixN_nat (h:j<n):Tm (ixN n xrG) j:=by
 show xc2 ixN (E5 xd1) (E5 (IL.mpr h));simp
def set_range {f f':xbz}(h:∀p,f' p=f p+ xuk [q]):(xqt n (λ p=>vN (f p))).set q (xhg (f q) 1)=xqt n (λ p=>vN (f' p)):=by
 refine Hg (xc5 i)
 rw [List.getElem?_set,EA,HZ,FA,FA];by_cases hi:i<n
 ·rw [JT hi];by_cases e:q=i
  ·subst e;rw [xai,E5 hi,IX,h q];simp
  ·rw [xsJ,IX,IX,h i];have: [q].count i=0:=Iu (by simp;exact On (e z.symm));rw [this,Ig]
 ·have e2:xac (xaU (List.range n)):=FE (by show xpb HZ hi);rw [e2];by_cases e:q=i
  ·subst e;rw [xai,ES hi];rfl
  ·show xak xsJ
inductive Q5 (vs:M2) (H:Hp) (Q:VK) (Ml:XK):Prop
 |mk (a:LV) (C:Fr) (m:Nat) (h0:vs=[Γ,xkf]) (h1:UF=XL xCN) (h2:(xX3 C)) (h3:Ν C.length) (h4:C.length≤300) (h5:(∃b∈C,0<b)) (h6:Ν m) (h7:xfq m) (h8:xcy (xWy b (0<b)) (2^m)) (h9:xFu xHk) (Ye:xO9 xHk) (PZ:xcy xHk (2^m)) (h12:xie l LV ln xbz (Ι->Κ->xaz=XL (xzX p xAa)->T8 xHk xmO m ln->VH C m ln->xat)):Q5 vs H Q Ml
def NI:ST ["counts","most","singles","lengths","bundle","place"] Jam j7:=Os
def Dw:xAx ["place","count"]:=Z8
def Dn:TE:=DE (lz (Oy 1) (lz (C6 (lz xu3 kU)) kU))
def DJ:TT:=pA (xJO (λ i j=>xEf j i) (Oy 1) xPB)
def Uc {P:LY}{K:Frag}{mg:Α}{base:L4}{f fN fT fA fW' fL fP fW:LV}{fd TJ fdT fdA fdW' fdL fdP QO:L0}(F:FnL K mg "lengths_of" j7 Jam f fd)(Ne:xbD "need_shares" tV Jam fN TJ)(Th:xZy gs xtH fT fdT)(AW:xUc cD Jab fA fdA)(W:xOn fW' fdW')
  (Li:xbD "lightest_bundles" m8 xHf fL fdL) (Pa:x1y kz xCv fP fdP) (We:x04 im xx3 fW QO) (T:xbN):xvo Jam Q5:=by
 show xck dV F0 F.F (F0.ok NI λ L9 A outer s H vs Q E hr h=>?_)
 intro _;obtain⟨a,C,m,rfl,ha,hC,c1,c3,P4,m1,m2,WQ,p30,p1,pm,k⟩:=h;have P2:xbr 31:=Ty;have NO:xnI:=Ty;show xgt (xej (xcQ (yX Ne Th AW W T) hr Ne PP No) (xaF 2 NI.nd (lu (sp:=OG) (kZ We) NO We.b Z7 T.sort (xzi fW Z7 We.m) (xcw (jC (N:=["place","count"]) (g:=YB K 2 (QU xhV (QU (cJ 1) YC))) (tt:=DJ) (te:=Dn) rfl rfl Z8 Z8 Z8
   (mQ Z7 T.enum xoQ) (λ fp s H=>xRR (xuK 0 Dw (xuK 1 Dw jv)))
   (λ fp s H=>xlk cF No) (λ fp s H=>xo2 No (xCe PP))))) (xa6 3 NI.nd (xwa ad xmP) (xnc (xcQ (wX Li Pa We T) P2 Li Ps No) 4 NI.nd (ac (xnc xyD 5 NI.nd (ac (kb (xcD (xq2 TD xa9)) (jB TD xa9 gh)))))) TD))) ⟨_,rfl,_,rfl,a,C,m,rfl,ha,hC,c1,c3,P4,m1,m2,WQ,xdB H1 s1⟩;show xmc Wj xlp (xdd (xuR a (Mm.of Wj) xgo)) (xK (K:=K) (a:=a) (l:=l) (xs:=xCN) (n:=2) (g:=YB K 2 (QU xhV (QU (cJ 1) YC))) (tt:=DJ) (te:=Dn)
  (λ i ys H2=>∃ts:xav,ys=xdr/\xh3=xeM/\xFf H2/\MC H2 [l] ts ((xBL i (xf4 p (0<xmO p))).map (sgl xmO)))
  ⟨[],rfl,i',xtT,.nil⟩ (λ i ys H2 _ z9=>by obtain⟨_,_,_,sm,_⟩:=z9;exact xIo Wj) ?_ ?_ ?_ ?_ ?_)
 ·clear g1;rintro i x ys σ H2 p hx ⟨ts,rfl,hl,sm,hb⟩ hσ hp;show xlv c hc hx;have Ny:xJG i:=xdN hc;have hcw:xmO i=c:=by rw [cw,E9,hc];rfl
  obtain⟨u0,u1,rfl⟩:∃u0 u1,σ=[u0,u1]:=match σ,hσ with| [u0,u1],_=>xee u0 u1
  have sp:=xjF [.int xhT,xi1] hp;have hlp:=sp _ _ hl;have X2:(xj7 p [.int xhT,xi1]) p=xeY [xsn,xi1]:=i';show xbU (xj7 p [.int xhT,xi1]) H3 ⟨p,_,rfl,MT.of X2,rfl,_,_,rfl,_,_,rfl,rfl,?_⟩;refine⟨_,rfl,_,_,rfl,rfl,_,rfl,?_⟩;show xaK QD hb.len EA QD;have hfl:xFu (xBL i (xf4 p (0<xmO p))):=EF (Kx _ _) (by show LE HZ (xJQ Ny c3))
  try dsimp only
  rw [KS,Fp];by_cases h0:0<c
  ·rw [E5 (xKO (xcU<LT c) xWk),Ff (by show LE hcw (EJ h0))];refine xkr _ (by show xkB) (λ q nq=>xen (by show xdn) t nt);have sq:=xa1 [xsn] nq;have hlq:=sq _ _ hlp;have hqq:(xsT q [xsn]) q=XL [xsn]:=i';show xdg nql (q∉ [l]) (On (by rw [xOv,hlp] at nq;cases nq)) (xsT q [xsn]) H4;have st:=xjF [xi1,xrm] nt;have Mb:=xhc hlq;have hqt:=xhc hqq;have Tz:(xdJ H4 t [xi1,xrm]) t=xeY [xi1,xrm]:=i';show xdg ntl (t∉ [l]) (On (by rw [xOv,hlq] at nt;cases nt)) (xdJ H4 t [xi1,xrm]) H5;have s25:xrW H5:=(sp.trans sq).trans st;have kk:∀c' o,c'∉ [l]->H5 c'=Id->(xdw H5 (xdr++[V.ref t])) c'=Id:=λ c' o n e=>by show υ (On (n (by simp [z]))) e
   refine⟨Mb,bz (by show xaT (xlR [_,_] Pi (xlN 300) IO xue hfl)),rfl,ts++[t],by show xak EO,i',xdm c' o,?_⟩
   ·show xqg (s25 _ _ xuB)
   ·show Uf EO ((hb.keepA λ c' o n e=>kk _ _ n (s25 _ _ e)).app (xmA ⟨q,ntl,nql,?_,kk _ _ nql hqt⟩));show Tm _ (HO.tup [vN (xmO i),xrm]);show LE hcw (kk _ _ ntl Tz)
  ·rw [ES (xmj z (EL z) Z4),Fl (by rw [hcw];show xKh)];refine⟨rfl,ts,rfl,hlp,sm.trans sp,?_⟩;rw [List.filter_nil,Fv];exact hb.keep sp
 rotate_left
 ·rintro x σ H3 A' B' hAB ⟨a',xs,e,hq,YR,v,r,e2,v2,r2,e3,e4,h⟩;exact⟨a',xs,e,hq,YR,v,r,e2,v2,r2,e3,e4,hAB _ _ h⟩
 ·exact λ σ H A B h z9=>by obtain⟨v,e1,i,j,e2,e3,c,e4,z⟩:=z9;exact⟨v,e1,i,j,e2,e3,c,e4,xh7⟩
 ·exact λ σ H A B h z9=>by obtain⟨v,e1,v2,e2,n1,z⟩:=z9;exact⟨v,e1,v2,e2,n1,λ q nq=>xih (z q nq).1 t nt (xlo ((z q nq).2 t nt))⟩
 rintro ys H2 ⟨ts,rfl,hl,sm,hb⟩;rw [EA] at hb;have MX:MC H2 [l] ts xGr:=hb;clear hb;show xaK RI MX.len EA RI;refine⟨l,xdr,xhJ xGr b xD2,rfl,xIF,by rw [EA,EA,EA];exact RI,by show xaT (xbl [_,_] xaR (xff 300) IO 1000 p30 (EC RI)),λ j v kk hv hk=>?_,λ lo mm nlo hpw VA=>xaa⟩
 ·rw [FA] at hk;cases e:xfZ (xGr) with
  |none=>show W1 e hk hk
  |some b=>
   rw [e] at hk;obtain⟨t,ht,lt,_,_,h1,h2⟩:=MX.at e;show W1 (ig ht) hv hv;cases hk;exact xjj t lt xg9 h1 rfl rfl
 clear g1;rw [oj] at VA;show xqE Z' QI (SM.Qd SG.Si _ VA);have hZ:=(SM.MJ SG.Si QI).symm;have hSB:x1B wI xGr:=by
  show xhM (SM.Sx (kg:=wI) (λ z:LV×Bd=>xh6) xhA QI) (KG (by show xaT xNQ))
 have hZB:xY5 xGr:=by
  show xhM (hZ.symm.map (·.2)) (KG (by show xaT xNQ))
 have VB:xZu:=by
  rw [GQ,Ks] at hpw;show xm9 MV Ks (hpw.imp (λ {a b} h=>by have h':xEc a≤xEc b:=h;exact(xBt (x0s h'))))
 obtain⟨L,UL,hLp,eL,eU⟩:=oV (RX:=x1n) (UX:=[]) (by show LE Fv hZB.symm);have eU':UL=[]:=by simpa using eU.symm
 subst eU';rw [Fv] at hLp;have s5:=xYd nlo;have X9:=xRj (mK λ z hz=>MX.zip z xY6);have QF:Tm ((upd H2 lo (.lst ((Z'.map (λ z:LV×Bd=>(((z.2.1:Nat):Int),V.ref z.1))).map (·.2)))) lo) (.lst ((Z'.map (·.1)).map V.ref)):=by
  rw [i',GQ,GQ];rfl
 show xpd sm3 x1o (upd H2 lo (.lst ((Z'.map (λ z:LV×Bd=>(((z.2.1:Nat):Int),V.ref z.1))).map (·.2)))) H3;rw [eL] at X9 VB hSB;generalize x1m=ss at*;clear hZ hZB VA QI hpw eL eU hl MX sm s5 RI;have hLl:=hLp.length_eq;have Ui:=s1.trans sm3;have ha3:=Ui _ _ ha;refine xdd (xen (by show xkB) l4 n4)
 have s4:=xa1 [xek] n4;have Sa:(xsT l4 [xek]) l4=XL xsH:=i';show xsV (xsT l4 [xek]) H4 ⟨_,rfl,a,_,rfl,xab (xfj ha3),l4,_,_,rfl,rfl,Sa,Z5,by show xaT (xEh c3),(by rw [EA,E2];exact aW (by show xiX (1*C.length);exact(xfN IO 300 (xgH 1) 2000 c3))),xdB l5 n5⟩ g1;have ez:xJU (xq0 xCN) xsH=xzX p xJe:=by
  rw [E2,EA];show xjn C.length xsH=xGU (λ _=>xut)
  rw [LL,HZ];generalize C.length=n
  induction n with
  |zero=>rfl
  |succ n ih=>rw [Gm,Gu,ih,Gm];rfl
 try dsimp only
 rw [ez];have s5:=xAn (xzX p xJe);have Wt:(xhb (xzX p xJe)) l5=XL (xzX p xJe):=i';have hb5:=xRj ((X9.keep s4).fresh n5);have hlo5:=xRt QF;have Xx:=(xUm).trans s5;show xdg n05 (Χ l5) (xIy xUm) (xhb (xzX p xJe)) H5;clear s4 s5 Sa n4 n5 ez;refine xdd ⟨_,rfl,_,rfl,lo,l5,ss,L,xmO,m,rfl,hlo5,xbR Wt,hb5,VB,Ku p1 hLl,xbl [_,_] xaR (xff 300) IO 300 p30 (EC hLl.symm),m1,m2,λ lb ub B H6 s6 nlb hlb hub lv=>?_⟩
 have h65:=xcE Wt;have s06:=x1p;have QT:T8 L xmO m (occ (xxT 1 (xcu-2))):=by
  refine wS (hLp.nodup_iff.mp ?_) xvY lv.lev (Ku p1 hLl) m1 (Hm hLl.symm pm)
  ·exact List.Pairwise.filter _ List.nodup_range
  ·show xaE (xY7 hp).2 (EL this)
 have hwR:xbQ (xxT 1 (xcu-2)) (∀q∈xeT,xJG q):=λ b hb q hq=>by
  show xaE (Bc lv.lev b (FN hb) q hq) (Jo.mp (xY7 this).1)
 show xdg hln (VH C m (occ (xxT 1 (xcu-2)))) ⟨L,B,VB,hSB,lv,rfl⟩ (xxT 1 (xcu-2)) R;have hulR:=hub.len;have hlb5:lb≠l5:=xe0 Wt nlb;clear hb5 hlo5 Wt VB X9 QF;refine xGx lb hlb (xn4 K lb (ub.map V.ref) (λ i σ H7=>∃v4 v5:xdu,σ=[xaQ,xwu,xap lo,xFq,v4,v5]/\H7 l5=XL (xzX p xE0)/\∀c o,xcd l5->H6 c=Id->H7 c=Id) (xbI none none h65 (xXQ e)) (λ i σ H7 _ z9=>by show xOb kp z9 (Mm.of (xaX hlb5 hlb))) ?_ ?_)
 ·clear g1;rintro i y σ H7 hi ⟨v4,v5,rfl,h7,kp⟩;have Ny:xJ5 i:=by show xgb (xdN hi) EA (EW this hulR)
  have hRi:xaM R R[i]:=xva;obtain⟨t,ht,lq,nt,nq,h1,h2⟩:=hub.at hRi;have hy:y=xgR:=by show π (ig ht) hi (xIW hi)
  subst hy;have Mb:=hwR _ (Hc Ny);show xdg e1 (∀p,xga (R.take (i+1))=xE0+xuk R[i].2) (λ p=>by
   rw [Ga,hRi];show xga (xxt++[R[i]])=_;rw [kE,eC];rfl) R[i] bb;have nq':lq≠l5:=On (nq (by simp [z]))
  have nt':t≠l5:=On (nt (by simp [z]))
  refine⟨_,rfl,t,_,_,_,rfl,rfl,MT.of (xaX nt' h1),xdk,lq,rfl,xbR (Mm.of (xaX nq' h2)),xn4 K lq xSD (λ j σ H8=>∃v5:xdu,σ=[xaQ,xwu,xap lo,xFq,xap t,v5]/\H8 l5=XL (xGU (λ p=>xhg xE0 (xAm j p)))/\∀c o,xcd l5->H6 c=Id->H8 c=Id) (xpI v5 (by simpa using h7) kp) (λ j σ H8 _ z9=>by show xtz kp z9 (Mm.of (xaX nq' h2))) ?_ ?_⟩
  ·rintro j y σ H8 hj ⟨v5,rfl,h8,kp8⟩;show xlv q hq hj;have hqn:xJG q:=Mb q (FO hq);have hg:(xGU (λ p=>xhg xE0 (xAm j p)))[q]?=UV (occ xxt q+xAm j q):=by
    rw [FA,JT hqn];rfl
   have e2:LT (occ xxt q+xAm j q)+1=xiH (occ xxt q+xAm j q):=Kw _;refine⟨_,rfl,_,rfl,l5,_,_,_,rfl,rfl,Mm.of h8,ax hg,_,_,rfl,rfl,?_⟩
   try dsimp only
   show Uf e2 ⟨_,rfl,_,rfl,l5,_,_,q,rfl,rfl,h8,ixN_nat (by rw [EA,HZ];exact hqn),xwv,rfl,?_,λ c o n e=>?_⟩
   ·rw [i',set_range (f:=λ p=>xE0+xAm j p) (f':=λ p=>xE0+xAm (j+1) p) (xc5 p)];rw [bO hq,Iz,FK]
   ·show xjl (kp8 _ _ n e)
  ·rintro σ H8 ⟨v5,rfl,h8,kp8⟩;rw [EA,Fs] at h8;refine xnV ?_ kp8;rw [h8];congr 2;refine JV λ p _=>?_
   rw [e1 p]
 ·rintro σ H7 ⟨v4,v5,rfl,h7,kp⟩;rw [EA,hulR,Fs] at h7;refine xEn (k l5 _ H7 n05 (λ c o e=>xaX (xmX n05) (s06 _ _ e)) h7 (QT.perm hLp.symm) hln)
universe K30.S
namespace K30.Tb
open PySem L2 QQ W13 BP
seal PE PA PS PSs PT PW PG PI
inductive Pd (vs:M2) (H:Hp) (Q:VK) (Ml:XK):Prop
 |mk (a:LV) (L:Fr) (h0:vs=xbL) (h1:UF=xpo) (h2:xiM) (h3:(xqp L 6)) (h4:xlj H):Pd vs H Q Ml
def pj:ST Jaf Jaf fk:=Os
def m6 (F:Δ "need_table" fk Jaf)(Y:xlX):xam 3 Jaf Pd:=by
 obtain⟨T,⟨_,_,W⟩,⟨_,_,AW⟩,_⟩:=Y;show xbH tb hb T.bits tm hm T.many;show xau pj (λ L9 A outer s H vs Q E hr h=>?_);show xiN a L rfl hL hl h6 k;show xgY (ac (xzf (xqM (xfe (fF AW W T) hr AW PP ad (xbw 6 hb tb))) (xa5 kJ xmP xJw))) ⟨_,rfl,a,L,0,6,rfl,hL,λ b z=>by have:=h6 b z;show xaj xu5 (xj9 (xlO 6 6 this)),_,rfl,xiS⟩ ⟨_,rfl,a,_,rfl,xab hL,rfl,_,rfl,CY ?_ k⟩;rw [EA,hl];rfl
inductive U6 (vs:M2) (H:Hp) (Q:VK) (Ml:XK):Prop
 |mk (a:LV) (L:Fr) (p ah:Nat) (h0:vs=[Γ,xke,xEZ]) (h1:UF=xpo) (h2:xiM) (h3:p≤272) (h4:xn2 (xyg ah p)):U6 vs H Q Ml
def PU:ST ["lengths","place","ahead","most","again"] xIr mf:=Os
def wA (F:Δ "again_from" mf xIr)(T:xbN):xpl xIr U6:=by
 show xbH tm hm T.many ta V8 T.mostA;show xau PU (λ L9 A outer st H vs Q E hr h=>?_);obtain⟨a,L,p,ah,rfl,hL,hl,hp,k⟩:=h;have hn:=xDf;show xgt (xaF 3 PU.nd (xw3 (iA hn) T.min Kv (xbw 66 V8 ta) (xdz xJw No)) (xa6 4 PU.nd ad (xoP (xuS (xa5 cH χ TD) (xa5 bd xXD Ps)) (xhx 4 PU.nd xPJ)) χ)) ⟨_,rfl,_,_,rfl,rfl,_,_,rfl,xaa⟩;obtain⟨m,em,XA⟩:∃m,xfT (xJc-xlU<66) (xJc-xlU) 66=xjW/\m=min 66 (272-p):=xee (min 66 (272-p)) (by split<;>lia)
 try dsimp only
 rw [em];clear em;show xnW;refine xbT
 show xaK RQ (kn ah xCS) EN RQ;refine Ψ (λ n σ H2=>∃i,n=m-i/\σ=[xaQ,xnE,xvk,xwu,UV i]/\H2=H/\i≤m/\∀j<i,xbS (xCS) j ah) (xjj m 0 rfl rfl xan (xe9 j hj hj (KQ _)));rintro n σ H2 ⟨i,rfl,rfl,rfl,hi,MB⟩;refine⟨_,rfl,_,rfl,_,_,rfl,rfl,_,rfl,xj5⟩
 ·have h2:i<m:=by show xaE xt8 xx2
  have e1:xlU+xhT=xjg i:=(xjy [_,_] Pi Pi [_,_] Pi Pi);have l1:xmn (p+i):=EW (GF (EM h2 (xld XA xfR))) hl.symm;refine⟨_,rfl,_,rfl,_,rfl,_,_,rfl,rfl,?_⟩
  try dsimp only
  rw [e1];have YU:xaM (xCS) L[p+i]:=by rw [Ik,xKZ]
  refine⟨a,_,_,_,rfl,rfl,Mm.of hL,xmV l1,_,rfl,rfl,_,rfl,xc9 h3 h3⟩
  ·have h4:L[p+i]=ah:=xWF h3;refine Ψ (λ σ' H'=>σ'=[xaQ,xnE,xvk,xwu,xA9]/\H'=H2) (λ σ' H' z=>⟨m-(i+1),xOo h2,i+1,rfl,xeS,xh6, xe5,xvZ⟩)
   ·by_cases e:j=i
    ·subst e;rw [YU,h4]
    ·exact MB j (xJK hj e)
   ·exact xc0 _ _ rfl rfl rfl
  ·refine xEM;have h4:xvT (xaU (xCS)) ah:=by
    rw [YU];intro z;exact h3 xXG
   rw [vX MB h4,HC (xJQ h2 (xld XA xfV))] at k;exact k
 ·refine aS xEM;have h2:i=m:=by
   have NU:¬(SL (xfK xer xpA)):=h1;have:¬(xer<xpA):=On (NU xy5)
   exact ED hi (FS (On (this (xof z))))
  subst h2;have h5:=rH MB;have e:xyg ah p=i:=ED (xuI (xUn ⟨xfV,xDV (hl▸RQ)⟩) XA.symm) (xUn ⟨xld XA xfV,h5⟩);show π e k k
def yo:∀P,xxp P≤9*P.length:=by
 intro P;have e:xxp P=xUY Itm.cost:=iV P;rw [e];clear e
 induction P with
 |nil=>simp
 |cons x P ih=>
  have:x.cost≤9:=by cases x<;>simp [Itm.cost]
  simp;exact(xae [_,_,_] xaR (xa4 (xkN 9) 9) Pi (.m 9 xht) ih this)
inductive Qj (C:LV) (vs:M2) (H:Hp) (Q:VK) (Ml:XK):Prop
 |mk (p d a:LV) (N0 T0:Nat) (L:Fr) (h0:vs=xnX) (h1:Mt C H p d N0 T0) (h2:xFt) (h3:UF=xpo) (h4:xiM) (h5:(xqp L 6)) (h6:a≠d) (h7:xie Pp xk3 b Nat (xR4 0 0 Pp 272 b->xlr C H' xVX N0 (T0+xzM)->xdH (∀c o,ω=Id->xaD->xgs->xaY=Id))):Qj C vs H Q Ml
def MO:ST ["bits","lengths","place","ahead","again"] xQX iJ:=Os
def Ts (F:Δ "put_table" iJ xQX)(NT:xbD "need_table" fk Jaf fN TJ)(AF:xbD "again_from" mf xIr fA fdA)(B:Yi K mg C):xpk xQX (Qj C):=by
 show xhe X B.R.X W B.R.whole S B.needsize;show xgA O B.ones Pu B.put M B.move;have T:=B.T;have GP:=xJ6 (P:=P) (w:=w) base Pu.F S W O M T X;show xbH tm hm X.many ta hag X.again;show xhU tl hle X.leastA MO (λ L9 A outer st H vs Q E hr h=>?_) _;obtain⟨p,d,a,N0,T0,L,rfl,hB,Rw,ha,hl,h6,nad,k⟩:=h;have NO:xnI:=Ty;have ZA:xcF a:=by
  obtain⟨dx,_,_,_,hp,_⟩:=hB;exact xsm ha (by show Υ)
 show xgt (xej (xcO (m6 NT B.R) NO NT No) (xdD 2 MO.nd ad 3 MO.nd ad (ac (xve cH Ps xJw (xaF 4 MO.nd (xfe (wA AF X) hr AF No Ps TD) (ac (aF (xa5 lH χ xGe) (xej (bh PP T.cl Pu GP NO (xmU (xbw 7 hag ta))) (xej (bh PP T.cl Pu GP NO (xmU (xdz χ xGe))) (xmd MO.nd (xbv Ps χ)))) (xcl 3 MO.nd (xq2 No Ps) (aC (bh PP T.cl Pu GP NO (xmU TD))) (xmd MO.nd xPK))))))))) ⟨_,rfl,a,L,rfl,ha,hl,h6,xaa⟩;show xnW;show xnW;refine Ψ (λ n σ H2=>∃q ah Pp v4,n=272-q/\σ=[xfX,xaQ,xwv,xvk,v4]/\q≤272/\xR4 0 0 Pp q ah/\xlr C H2 xVX N0 (T0+xzM)/\(∀c o,ω=Id->xaD->xgs->xh2=Id)) ⟨272,0,0,[],none,rfl,rfl,Z9,xkP,hB,λ c o e _ _=>e⟩
 rintro n σ H2 ⟨q,ah,Pp,v4,rfl,rfl,hq,hw,Og,kp⟩;refine⟨_,rfl,_,_,rfl,rfl,_,rfl,xc9 hc hc⟩
 ·have QE:xkD:=by show xaE xK0 xx2
  have ZF:xpV:=EW QE hl.symm;refine Ψ (λ σ' H'=>∃q' ah Pp v4,q<q'/\σ'=[xfX,xaQ,UV q',xvk,v4]/\q'≤272/\xR4 0 0 Pp q' ah/\xlr C H' xVX N0 (T0+xzM)/\(∀c o,ω=Id->xaD->xgs->xaY=Id)) (λ σ' H' z9=>by obtain⟨q',ah,Pp,v4,Mb,z1,z2,z⟩:=z9;exact⟨272-q',Gv (EM Mb z2) Mb,q',ah,Pp,v4,rfl,z1,z2,z⟩)
  have Xz:=cY hw;have Wg:=yo Pp;have Of:=xaX ha ZA nad;have hws:=du hw ZF;have hsz:=lS (a:=ah) ZF;show xol g2 ⟨_,rfl,_,rfl,_,rfl,a,L,q,ah,rfl,Of,hl, xe5,xcX⟩ g2;obtain⟨dx,B2,r2,k2,ME,hd2,br2,RT⟩:=id Og;have no:∀r k,xac (xds xj2 "put"):=λ r k=>xja
  refine⟨_,rfl,_,_,rfl,rfl,_,rfl,xc9 h3 h3⟩
  ·have h4:3≤xLT:=by show xaE (EL h3) (Ld.mp this)
   have est:xo3 q ah=.rep xLT:=by show xzm stAt h4
   rw [est] at hws hsz;have hr66:xLT≤66:=Gi 66 _;show xbU xLT r ⟨_,rfl,p,dx,_,rfl,ME,xkc _,p,d,_,_,7,3,rfl,Og,xbl [_,_,_,_] (xEO 9 (xf1 9 (xaZ 0 xaS) Sc)) (xzQ 9 272 (xfM 9 (xoA 9))) Pi 4000 Rw (xbJ (EH 9 hq) (EH 9 Xz) Wg),Z9,Z9,Ε H3 QN ML⟩;obtain⟨O5,B3,r3,k3,M4,hd3,br3,ZL⟩:=id QN;have er:LT r-3=LT (r-3):=Z5;refine⟨_,rfl,p,O5,_,rfl,M4,xkc _,_,rfl,_,_,rfl,rfl,?_⟩
   try dsimp only
   show xhO er ⟨p,d,_,_,r-3,6,rfl,QN,xbl [_,_,_,_] (xEO 9 (xf1 9 (xaZ 0 xaS) Sc)) (xzQ 9 272 (xfM 9 (xoA 9))) (xpE 3) 4000 Rw (xbJ (EH 9 hq) (EH 9 Xz) Wg),Z9,(by show r-3<2^6;lia),Ε H4 VU Pm⟩ ⟨_,rfl,_,rfl,_,_,rfl,rfl,q+r,ah,Pp++[.rep r],UV r,xbn [_,_] xdU Sc NE Pi h4,?_,by have:=hsz.2;show q+r≤272;have e:(xVN).size=r:=rfl;exact xbl [_,_,_,_] (xa2 (xdf xfH)) (xaZ 272 xc7) Pi 272 xJp (Ez hsz.2 xkR),hws,?_,λ c o e n1 n2=>xkl xGa n1 n2⟩
   ·have e2:xnG+LT r=LT (q+r):=JU _ _
    try dsimp only
    show xak e2
   ·rw [jc,bZ,aV];have e5:T0+(xzM+xxp [xVN])=T0+xzM+3+6:=by
     have:xxp [xVN]=9:=rfl;exact xcY (xim [_,_,_] WF 9 xfJ (xa4 (xpE 3) 6) xyc) [_,_,_] (.n 9) WF (xa4 (xpE 3) 6) xfJ xgE
    show LE e5 VU
  ·have h4:¬3≤xLT:=On (h3 (EJ (xqu (xaf Τ xdU IO xdU IO z))))
   have est:xo3 q ah=.one L[q]:=by show xci stAt (ES h4);show xQU ZF
   rw [est] at hws;have hx6:L[q]≤6:=h6 _ (Hc ZF);show xnm ⟨_,rfl,_,rfl,a,_,_,_,rfl,rfl,xDj,xmV ZF,?_⟩ ⟨_,rfl,p,dx,_,rfl,ME,xkc _,_,rfl,p,d,_,_,L[q],3,rfl,Og,xbl [_,_,_,_] (xEO 9 (xf1 9 (xaZ 0 xaS) Sc)) (xzQ 9 272 (xfM 9 (xoA 9))) Pi 4000 Rw (xbJ (EH 9 hq) (EH 9 Xz) Wg),Z9,(by show L[q]<2^3;lia),Ε H3 QN ML⟩ ⟨_,rfl,_,_,rfl,rfl,q+1,L[q],Pp++[.one L[q]],_,Kt _,rfl, xe5,hws,?_,λ c o e n1 n2=>xGa⟩;rw [jc,bZ,aV];have e5:T0+(xzM+xxp [Itm.one L[q]])=T0+xzM+3:=by
    have:xxp [Itm.one L[q]]=3:=rfl;exact xcY (xim [_,_,_] WF 3 xfJ (xpE 3) xyc) [_,_,_] xdU WF (xpE 3) xfJ xgE
   show LE e5 QN
 ·have QE:q=272:=by
   have h1:¬(SL (xfK xnG 272)):=hc;have:¬(xnG<272):=On (h1 xy5)
   lia
  show xcL QE (k Pp ah H2 hw Og kp)
universe K30.Tb
namespace C9
noncomputable def ed (L:Fr):xbz
 |0=>0
 |j+1=>2*xpG+L.count (j+1)
noncomputable def cdAt (L:Fr) (q s:Nat):Nat:=2*xiQ (s-1)+xts q s
noncomputable def itm (L:Fr) (j p q:Nat):xHZ:=xSh (xzU/\(xg4≤j\/(xg4=j+1/\q<p))) (xoS xg4,xg4) none
def row (L:Fr)(j p:Nat):List xHZ:=xqt L.length (itm L j p)
def codes (L:Fr):List xHZ:=xuo 12 0
def bv (L:Fr)(j p:Nat):xaI xEU L.length:=by simp [row]
def dl {L:Fr}{j p q:Nat}(h:xpV):xbS (xEU) q (itm L j p q):=by simp [row,h]
def wE (L:Fr):xuo 0 0=xYa none:=by
 apply Hg;intro q;by_cases h:xpV
 ·rw [dl h,Jb,xvU];congr 1;show xci itm (ES Z5)
 ·rw [FE (by show xpb bv h),FE (by show xpb Fd h)]
def xv (L:Fr)(j:Nat):xuo j L.length=xuo (j+1) 0:=by
 apply Hg;intro q;by_cases h:xpV
 ·rw [dl h,dl h];congr 1;unfold itm;by_cases c:xzU/\(xg4≤j\/(xg4=j+1/\xpV))
  ·rw [E5 c,xKv]
  ·rw [xwn,ES Z5]
 ·rw [FE (by show xpb bv h),FE (by show xpb bv h)]
def zh {L:Fr}{j p:Nat}(h:xha p (j+1)):xuo j (p+1)=(xEU).set p (some (xvH,j+1)):=by
 have hp:xmn p:=xdN h;have hg:xtd p=j+1:=by rw [E9,h];rfl
 apply Hg;intro q;by_cases e:p=q
 ·subst e;rw [dl hp,HW (by show LE bv hp)];congr 1;show xc2 itm hg xKv
 ·rw [JF e];by_cases hq:xpV
  ·rw [dl hq,dl hq];congr 1;unfold itm;by_cases c:xzU/\(xg4≤j\/(xg4=j+1/\q<p))
   ·rw [E5 c,xKv]
   ·rw [xwn,ES Z5]
  ·rw [FE (by show xpb bv hq),FE (by show xpb bv hq)]
def wH {L:Fr}{j p:Nat}(h:xvT L[p]? (j+1)):xuo j (p+1)=xEU:=by
 apply Hg;intro q;by_cases hq:xpV
 ·rw [dl hq,dl hq];congr 1;unfold itm;have Oe:q=p->xg4≠j+1:=by
   rintro rfl e;apply h;rw [E9,EI hq] at e;show LE (EI hq) (xxC e)
  by_cases c:xzU/\(xg4≤j\/(xg4=j+1/\q<p))
  ·rw [E5 c,E5 Z4]
  ·rw [xwn,ES (by
    intro z;apply c;refine xde xeS;show xKN xh6 z1 z2
    ·show xa8 z
    ·refine xei z1 ?_;have:xcF q:=λ e=>Oe e z1
     lia)]
 ·rw [FE (by show xpb bv hq),FE (by show xpb bv hq)]
def ua (L:Fr)(j p:Nat):xvH=2*xpG+xts p (j+1):=rfl
def pV {L:Fr}{j p:Nat}(h:xha p (j+1)):xvG (p+1)=xvH+1:=by
 unfold cdAt;rw [Ga,h,Iz];simp;exact xcK [_,_] (xiB Β) (xaG xyC) [_,_] (xaG xyC) (xiB Β)
def vi {L:Fr}{j p:Nat}(h:xvT L[p]? (j+1)):xvG (p+1)=xvH:=by
 show xc2 cdAt Ga Iz;cases e:L[p]? with
 |none=>simp
 |some z=>
  rw [e] at h;have:z≠j+1:=λ q=>h (by rw [q])
  simp [List.count_singleton,this]
def o0 (L:Fr)(j:Nat):xvG L.length=xiQ (j+1):=by
 rw [ua,Fs];rfl
theorem ug (L:Fr)(a:Nat):∀d,2^d*xiQ a≤xiQ (a+d)
 |0=>by simp
 |d+1=>by
  have:=ug L a d;show _≤2*xiQ (a+d)+_;rw [Gj];have:2^d*2*xiQ a=2*(2^d*xiQ a):=by rw [F2 (2^d) 2,FV]
  omega
theorem An (L:Fr):∀j,xpG+L.length≤L.length*2^j
 |0=>by simp [ed]
 |j+1=>by
  have:=An L j;have:=xZv (j+1) (l:=L);rw [ed,Gj,<-FV];lia
def tG {L:Fr}{q s:Nat}(h:xnQ)(hs:xpW):xwD<xiQ s:=by
 show xhi j j (s=j+1) ⟨s-1,xMj hs⟩;have h1:=pV (j:=j) h;have h2:xvG (q+1)≤xiQ (j+1):=by
  rw [<-o0];unfold cdAt;have:List.count (j+1) (List.take (q+1) L)≤List.count (j+1) (List.take L.length L):=by
   show LE Fs (xYZ (IU _ _))
  exact HG.mpr this
 exact EM (EC h1.symm) h2
def D1 {L:Fr}{q1 q2 s1 s2:Nat}(h1:xha q1 s1)(p1:Ν s1)(lt:s1<s2):xjs q2 s2/2^(s2-s1)≠xjs q1 s1:=by
 have a:=tG h1 p1;have b:2^(s2-s1)*xiQ s1≤xjs q2 s2:=by
  show xg7 (ug L s1 (s2-1-s1)) (show s1+(s2-1-s1)=s2-1 by exact xcY (xaf [_,_,_] xaR WF Pi WF (NL.J' (xcI [_,_,_] (xel NE) (xa2 Β) lt τ))) [_,_,_] WF xaR WF Pi τ);rw [show s2-s1=(s2-1-s1)+1 by exact xfU (xae [_,_,_,_,_] (xdh (xbi xcB)) (xll Φ 4 xaS) IO Β τ (xFv (xAl lt))) [_,_,_,_,_] (xbi (xhv 4 Φ)) (.a xcB xgT) Β τ (xPD (xnd xaH lt) (xdF [_,_,_] xmQ xhG IO lt τ)),Gj];unfold cdAt;have e:2^(s2-1-s1)*2*xiQ s1=2*(2^(s2-1-s1)*xiQ s1):=by rw [F2 (2^(s2-1-s1)) 2,FV]
  exact(xae [_,_,_,_] (xFB IO) (xFz xyW) IO (xFz WF) (xwz this) (EC e))
 have c:xiQ s1≤xjs q2 s2/2^(s2-s1):=xYK xgU (by show LE F2 b);omega
def krf (m:Nat)(L:Fr):Nat:=(xhJ (xtI l (0<l)) l (2^(m-l))).sum
def tj (m:Nat)(L M:Fr):krf m (L++M)=krf m L+krf m M:=by
 unfold krf;rw [Fp,EO,ID]
theorem Xq {m:Nat}(hm:xfq m):∀L:Fr,(∀l∈L,l≤m)->xiJ L=2^(12-m)*krf m L
 | [],_=>rfl
 |a::L,h=>by
  have ih:=Xq hm L λ l z=>xiP l z
  have ha:=xl7 a;unfold krf at ih ⊢;by_cases c:0<a
  ·simp only [Lv,c,decide_true,if_true,Gp,Jc];rw [ih,Iq,<-Hh];congr 2;exact Ih (Nat.sub_add_sub_cancel hm ha)
  ·simp only [Lv,c,decide_false,Hj,JP];exact ih
structure Good (L:Fr):Prop where
 ne:xVk
 le:xR0
 most:∀l∈L,xfq l
 some:∃l∈L,0<l
 room:xiJ L≤4096
universe C9
namespace C10
open BP C9
def kle (L:Fr)(j:Nat):Nat:=xiJ (xtI l (l≤j))
theorem gC (p:xby Bool):∀L:Fr,xiJ (L.filter p)≤xiJ L
 | []=>Tl
 |a::L=>by
  have ih:=gC p L;have e:∀M:Fr,xiJ (a::M)=xiJ xfv+xiJ M:=λ M=>tj 12 xfv M
  by_cases h:SL (p a)
  ·rw [Ff h,e (L.filter p),e L];exact HG.mpr ih
  ·rw [Fl h,e L];exact Jv ih
def wP (L:Fr)(j:Nat):kle L (j+1)=kle L j+L.count (j+1)*2^(12-(j+1)):=by
 induction L with
 |nil=>simp [kle]
 |cons a L ih=>
  have e:∀M:Fr,xiJ (a::M)=xiJ xfv+xiJ M:=λ M=>tj 12 xfv M
  unfold kle at ih ⊢;rw [JZ];by_cases h1:a≤j
  ·rw [Ff (by simp;exact Gr h1),Ff (by show xur),e (xtI l (l≤j+1)),e (xtI l (l≤j)),ih,ES (by simp;lia)];simp only [Ig];exact Ih (FK _ _ (_*2^(12-_)))
  ·by_cases h2:a=j+1
   ·subst h2;rw [Ff Z6,Fl Z6,e (xtI l (l≤j+1)),ih,E5 Z6];have:xiJ [j+1]=2^(12-(j+1)):=by
     unfold krf;simp
    rw [this,Io,Nat.one_mul];exact xcK [_,_,_] xfJ (xaV xdQ) [_,_,_] (xaV xdQ) xfJ
   ·rw [Fl (by simp;exact FW (xYf h1) λ a=>h2 (id (Ih a))),Fl (by show xur),ih,ES (by show xKd)];simp only [Ig]
theorem wO (L:Fr):∀j,xfq j->xpG*2^(12-j)=kle L j
 |0,_=>by
  unfold kle krf;have:(xx6 (xtI l (l≤0)) l (0<l))=[]:=by
   rw [List.filter_filter,Hi];intro a _;simp;lia
  rw [this];simp [ed]
 |j+1,h=>by
  have ih:=wO L j (G1 h);rw [wP,<-ih];show(2*xpG+L.count (j+1))*2^(12-(j+1))=_;rw [Io,show 12-j=(12-(j+1))+1 by exact xfU (xae [_,_,_] (xK8 xcB) (xa4 xhG 12) IO Β τ (xeX Τ NE xPC IO xPC h)) [_,_,_] (xK8 xhG) (xa4 xcB 12) Β τ (xeX Τ NE xPC NE xPC h),Gj];congr 1;rw [F2 2,FV,F2 2]
def BV {L:Fr}(g:xiK){j:Nat}(hj:xfq j):xpG≤2^j:=by
 have h:=wO L j hj;have h1:kle L j≤4096:=EF (gC _ L) g.room;have h2:2^j*2^(12-j)=4096:=by rw [<-Hh,Ω (j+(12-j)) 12 (FY hj)]
 rw [<-h,<-h2] at h1;exact Nat.le_of_mul_le_mul_right h1 xgU
def rL {L:Fr}(g:xiK){q s:Nat}(h:xnQ):xfq s:=g.most s (FO h)
def Uu {L:Fr}(g:xiK){q s:Nat}(h:xnQ)(hs:xpW):xwD<2^s:=
 EM (tG h hs) (BV g (rL g h))
def w6 {L:Fr}{q r s:Nat}(h1:xnQ)(h2:xha r s)(e:xwD=xjs r s):q=r:=by
 have key:∀q r:Nat,xnQ->q<r->xts q s<xts r s:=λ q r h1 h=>by
  have e1:xEe q 1=L.take q++[s]:=by rw [Ga,h1];rfl
  have e2:xts (q+1) s=xts q s+1:=by rw [e1,Iz];simp
  have e3:xts (q+1) s≤xts r s:=by
   have:xEe q 1=(L.take r).take (q+1):=by rw [List.take_take,FR Z4]
   show LE this (xYZ (IU _ _))
  exact(xhq [_,_,_] (xel NE) xcc xUk e3)
 unfold cdAt at e;rcases Lk q r with h|h|h
 ·show xaE (key q r h1 h) (ED (xfk NE IO h) (xdX [_,_,_] (xRz WF Β) (xel xyC) (xuA xkR)))
 ·exact h
 ·show xaE (key r q h2 h) (xcY (xdX [_,_,_] (.a xyC xht) (xdf (xiB WF)) (xuA (EC e))) [_,_] Β IO Sc IO h)
def IsCode (L:Fr)(u:Θ)(q:Nat):Prop:=xha q u.length/\Ν u.length/\xoS u.length=xFm
def Yj (L:Fr)(u:Θ):Prop:=∃q s,xnQ/\xyM s/\xwD/2^(s-u.length)=xFm
def gT {L:Fr}{u:Θ}{q:Nat}(h:xpX q)(b:Yj L u):False:=by
 obtain⟨h1,h2,h3⟩:=h;show xfG q2 s2 b1 b2 b3 b (D1 h1 h2 b2 (b3.trans h3.symm))
def jU {L:Fr}{u:Θ}{q r:Nat}(h:xpX q)(h':xpX r):q=r:=w6 xb0 h'.1 ((xu4).trans (xbM h').symm)
inductive Res where
 |thing (q s:Nat)
 |bad
 |none
def Due (L:Fr)(rest:Θ):xdq Res
 | .thing q s=>s≤rest.length/\xBP x0K q/\∀j<s,xNJ L j
 | .bad=>∃s,s≤rest.length/\(∀j<s,xNJ L j)/\¬xNJ L s/\∀q,¬xBP x0K q
 | .none=>∀j≤rest.length,xNJ L j
def Due.uniq {L:Fr}{rest:Θ}{a b:Res}(ha:xDJ L a)(hb:xDJ L b):a=b:=by
 have tt:∀{q s q' s'},xkS L rest q s->xkS L rest q' s'->s≤s':=λ {q s q' s'} h h'=>by
  show xbx s' s c c
  ·show xkn (gT (Ξ h') (xu4 s' c))
  ·exact c
 have tb:∀{q s},xkS L rest q s->xDJ L .bad->False:=λ {q s} h ⟨r,h1,h2,h3,h4⟩=>by
  rcases Lk s r with c|c|c
  ·exact gT xng (h2 s c)
  ·show xcL c (h4 q xng)
  ·exact h3 (xu4 r c)
 have tn:∀{q s},xkS L rest q s->xDJ L .none->False:=λ {q s} h h'=>gT xng (h' s xb0)
 have bn:xDJ L .bad->xDJ L .none->False:=λ z9 h'=>by show xtf r h1 h2 h3 h4;exact h3 (h' r h1)
 cases a with
 |thing q s=>
  cases b with
  |thing q' s'=>
   have e:s=s':=ED (tt ha hb) (tt hb ha);subst e;rw [jU (Ξ ha) (Ξ hb)]
  |bad=>show xkn (tb ha hb)
  |none=>show xkn (tn ha hb)
 |bad=>
  cases b with
  |thing q' s'=>show xkn (tb hb ha)
  |bad=>rfl
  |none=>show xkn (bn ha hb)
 |none=>
  cases b with
  |thing q' s'=>show xkn (tn hb ha)
  |bad=>show xkn (bn hb ha)
  |none=>rfl
theorem PV:∀{a b:Θ},a.length=b.length->num a=num b->a=b
 | [],[],_,_=>rfl
 |x::a,y::b,h,e=>by
  have hl:a.length=b.length:=by show xuY
  rw [ix,ix,hl] at e;have h1:=Nd a;show xaK h2 (Nd b) hl h1;have exy:x=y:=by
   cases x<;>cases y<;>first|rfl|(exfalso;simp at e;omega)
  subst exy;rw [PV hl (ED (xaf [_,_,_] xdQ xcc IO Sc (EC e)) (xaf [_,_,_] xcc xdQ Sc IO xkR))]
def Tp (u:Θ){k:Nat}(h:k≤u.length):xHG k=xFm/2^(xDF k):=by
 have e:xFm=xHG k*2^(xDF k)+num xU1:=by
  show xMl (cR (u.take k) xU1) Ft EN
 show xaK Mb (Nd xU1) EN Mb;rw [e,F2,JY xgU,Ji Mb];rfl
def wd (c:xfl):Θ:=dig xg6 xi5
def WX {L:Fr}(g:xiK){q s:Nat}(h:xnQ)(hs:xpW):num (wd (xwD,s))=xwD:=by
 show xm9 wd dg (Gx (Uu g h hs))
def lD {L:Fr}{q:Nat}(g:xiK):(xt6)[q]?=xSh xpV (xSh xzU (xoS xg4,xg4) none) none:=by
 unfold codes;by_cases h:xpV
 ·rw [dl h,xvU];congr 1;unfold itm;have:xfq xg4:=by
   rw [E9,EI h];exact g.most _ (Hc h)
  by_cases c:xzU
  ·rw [E5 ⟨c,.inl this⟩,E5 c]
  ·rw [ES (On (c xeS)),xwn]
 ·rw [xvV,FE (by show xpb bv h)]
def rM {L:Fr}(g:xiK){q:Nat}{c:xfl}(h:xbS (xt6) q xa7):xha q xi5/\Ν xi5/\xg6=xoS xi5:=by
 rw [lD g] at h
 split at h
 ·rename_i hq
  show xMb h
  split at h
  ·rename_i h1
   cases h;refine xee ?_ h1;rw [E9,EI hq];rfl
  ·cases h
 ·cases h
def OL {L:Fr}(g:xiK){q s:Nat}(h:xnQ)(hs:xpW):xbS (xt6) q (some (xwD,s)):=by
 have hq:=xdN h;have e:xg4=s:=by rw [E9,h];rfl
 rw [lD g,E5 hq,e,E5 hs]
universe C10
namespace L2
open PySem PySem.Spec PyProof.Rows QQ
section
variable {κ:Type}[DecidableEq κ]
def bY (Mn:xr5)(k:κ):xdu:=(Mn.find? (xf4 kv (xfP=k))).map (·.2)
def putK (Mn:xr5)(k:κ)(v:V):xr5:=
 xcA (xIu kv (xfP=k)) (xSt kv (xbc xfP k (xfP,v) kv)) (Mn++[(k,v)])
def cf {k:κ}(e:xaC=k):Tm (bY (p::r) k) xhZ:=by simp [bY,JB,e]
def b9 {k:κ}(e:¬xaC=k):bY (p::r) k=bY r k:=by simp [bY,JB,e]
theorem hJ (k:κ):∀Mn:xr5,(xIu kv (xfP=k))=(xpc).isSome
 | []=>rfl
 |p::r=>by
  rw [List.any_cons];by_cases e:xaC=k
  ·simp only [xst,EJ e,Bool.true_or,Option.isSome_some]
  ·rw [xsu,FZ e,Bool.false_or];exact hJ k r
theorem pJ (k j:κ)(y):∀Mn:xr5,bY (xSt kv (xbc xfP k (xfP,y) kv)) j=xhJ (xtC j) x (xbc j k y x)
 | []=>rfl
 |p::r=>by
  have ih:=pJ k j y r;rw [Gp];by_cases h:xaC=k
  ·rw [xvU];by_cases e:xaC=j
   ·rw [cf (p:=(xaC,y)) e,xst,IX,E5 (e.symm.trans h)]
   ·rw [b9 (p:=(xaC,y)) e,xsu,ih]
  ·rw [xvV];by_cases e:xaC=j
   ·rw [xst,xst,IX,ES (On (h (e.trans z)))]
   ·rw [xsu,xsu,ih]
theorem lM (k j:κ)(y):∀Mn:xr5,xac xpc->bY (Mn++[(k,y)]) j=xbc j k (some y) (xtC j)
 | [],_=>by
  by_cases e:k=j
  ·show xnf e.symm xst
  ·show xlq (On (e z.symm)) xsu
 |p::r,hn=>by
  rw [Ir];have hk:¬xaC=k:=On (by show W1 (cf z) hn hn)
  rw [b9 hk] at hn;have ih:=lM k j y r hn;by_cases e:xaC=j
  ·rw [xst,xst,ES (On (hk (e.trans z)))]
  ·rw [xsu,xsu,ih]
def fE (Mn:xr5)(k j:κ)(y):bY (xCh k y) j=xbc j k (some y) (xtC j):=by
 unfold putK;by_cases a:SL (xIu kv (xfP=k))
 ·rw [E5 a,pJ];rw [hJ] at a;by_cases e:j=k
  ·obtain⟨x,hx⟩:=Option.isSome_iff_exists.mp a;rw [xAz,e,hx,IX,xai]
  ·rw [xsJ];cases xtC j with
   |none=>rfl
   |some x=>rw [IX,xsJ]
 ·show xrT a (lM k j y Mn ?_);rw [hJ] at a;cases q:xpc with
  |none=>rfl
  |some x=>show π q a (a rfl).elim
def c6 (Mn:xr5)(k:κ)(v):xcy xzS (xQk 1):=by
 show xAf putK
 ·show xaT (xRE)
 ·rw [EB,EV,J6];exact(xrL (xag xdR))
def NX.isSome_eq (r:NX o u):o.isSome=u.isSome:=by
 cases o with
 |none=>cases u with
  |none=>rfl
  |some _=>show xkn xOa
 |some _=>cases u with
  |none=>show xkn xOa
  |some _=>rfl
def KV.val (r:xr6)(k:κ):NX xpc (xI0 vs):=by
 unfold KV at r
 induction r with
 |nil=>exact True.intro
 | @cons p q ps qs h t ih=>
  obtain⟨h1,h2⟩:=h;by_cases e:xaC=k
  ·have e':xbt=k:=xMZ;have b:Tm (xI0 (q::qs)) xb7:=by simp [valueAt,JB,e']
   rw [xst,b];exact h2
  ·have e':¬xbt=k:=xRG
   have b:xI0 (q::qs)=xI0 qs:=by simp [valueAt,JB,e']
   rw [xsu,b];exact ih
theorem KV.any (r:xr6)(k:κ):(xIu kv (xfP=k))=vs.any (xf4 kv (xfP=k)):=by
 unfold KV at r
 induction r with
 |nil=>rfl
 |cons h t ih=>rw [List.any_cons,List.any_cons,ih,xb0]
def KV.repl (r:xr6)(k:κ)(ry:xi2):
  KV (xSt kv (xbc xfP k (xfP,y) kv)) (vs.map λ kv=>xbc xfP k (xfP,u) kv):=by
 unfold KV at r ⊢
 induction r with
 |nil=>show xib
 | @cons p q ps qs h t ih=>
  rw [Gp,Gp];show xjH (xk7 ?_) h1 h2 h;by_cases e:xaC=k
  ·rw [xAz,E5 xMZ];show xaj h1 ry
  ·rw [xsJ,ES xRG];show xaj h1 h2
def KV.put (r:xr6)(k:κ)(ry:xi2):KV (xCh k y) (stored vs k u):=by
 unfold putK stored;rw [r.any k];by_cases e:SL (vs.any (xf4 kv (xfP=k)))
 ·rw [xAz,xAz];exact r.repl k ry
 ·rw [xsJ,xsJ];exact x1q (xgB ry)
theorem KV.length {vs:xhs κ LW}(r:xr6):Mn.length=vs.length:=x0i
universe s
def md (r:xGN xE6):SL ((bX P w).is k u):=by
 cases k with
 |inl i=>show xGF t (xyp (∃t,u=xxZ i));show xc3 (oG P w i t)
 |inr x=>show xGF t (xyp (∃t,u=xIc x));show xc3 (o4 P w x t)
theorem lg:∀{ks} {us},xqG xUH->ItemsAre (bX P w) ks us
 | [],_,r=>by show xhX K9 r r .nil
 |k::ks,_,r=>by
  rw [Gp] at r;cases r with
  |cons h t=>exact .cons (md h) (lg t)
abbrev KT (H:Hp):xea xFN (xhs xHc (LV×LW)):=Paired λ p q=>xaC=xbt/\H (Ξ q)=xJr xaC kV/\RelV xhZ xb7.2
def KT.val (r:xGc)(k):NX xpc ((atKey xs k).map (·.2)):=by
 induction r with
 |nil=>exact True.intro
 | @cons p q ps qs h t ih=>
  obtain⟨h1,_,h2⟩:=h;by_cases e:xaC=k
  ·have e':xbt=k:=xMZ;have b:Tm (xKx (q::qs)) xb7:=by simp [atKey,JB,e']
   rw [xst,b];exact h2
  ·have e':¬xbt=k:=xRG
   have b:xKx (q::qs)=xKx qs:=by simp [atKey,JB,e']
   rw [xsu,b];exact ih
def KT.repl (r:xGc)(k)(ry:xi2):
  KT H (xSt kv (xbc xfP k (xfP,y) kv)) (xs.map (putAt k u)):=by
 induction r with
 |nil=>show xib
 | @cons p q ps qs h t ih=>
  rw [Gp,Gp];show xgM (xk7 ?_) h1 h2 h3 h;unfold putAt;by_cases e:xaC=k
  ·rw [xAz,E5 xMZ];exact⟨h1,h2,ry⟩
  ·rw [xsJ,ES xRG];exact⟨h1,h2,h3⟩
def KT.put (r:xGc)(k)(hb:xaN=xLx)(ry:xi2):
  KT H (xCh k y) (storedH xs k b u):=by
 have e:(xIu kv (xfP=k))=(xKx xs).isSome:=by
  rw [hJ,(r.val k).isSome_eq,Lo]
 unfold putK storedH;rw [e];by_cases q:xkX (xKx xs)
 ·rw [E5 q,E5 q];exact r.repl k ry
 ·rw [ES q,ES q];exact x1q (xr1 hb ry)
def KT.keeps (r:xGc)(ht:∀b ys,xaN=xvm->xeN=xvm):KT H' Mn xs:=
 x1c (xMz ⟨xeS,ht _ _ (Ξ z),xbM z⟩)
def Ax (ok:xkk)(e:xwO u):xsO u:=e.ok ok
def qz (ok:xkk)(e:xwO xot):xxI/\xBl/\∃vs,xr6/\xVF P w a vs:=
 show xsO xot from Ax ok e
def Au (ok:xkk)(e:xsg a):xxI/\xBl/\∃vs,xr6/\xVF P w a vs:=qz ok xI5
def kq (ok:xkk)(e:UF=xeY xUH):(xHs P w).is h ks a:=by
 obtain⟨_,its,r,o,h1,h2,n,h3⟩:=(show xsO (.tup xUH) from ok a _ e);exact⟨o,its.toArray,n,h1,h2,h3,by simpa using lg r⟩
def qe (ok:xkk)(e:xwO xG1):xxI/\xBl/\
  ∃xs,xGc/\h.DictOfH (xHs P w) a xs:=by
 obtain⟨z,y,xs,r,o,es,ep,h1,h2,h3,h4,h5⟩:=(show xsO xG1 from Ax ok e);refine⟨z,y,xs,r,o,es,ep,h1,h2,h3,h4,P3 x hx,h5⟩;have all:∀{l} {m},KT H l m->xb6 m ((xHs P w).is h xhW (Ξ x)):=by
  intro l m q
  induction q with
  |nil=>intro x hx;exact nomatch hx
  | @cons p q ps qs hq t ih=>
   intro x hx;show xoe hx e hx
   ·show xc3 (kq ok (by show xba hq.1 (Ξ hq)))
   ·exact ih x hx
 exact all r x hx
def C8 (ok:xkk)(e:xsi a):xxI/\xBl/\
  ∃xs,xGc/\h.DictOfH (xHs P w) a xs:=qe ok xI5
def Oh (H:Hp)(a:LV)(y:V)(r:xdu):Prop:=
 (∃Mn k,xwO xot/\y=xE6/\r=xpc)\/∃Mn k b,xwO xG1/\y=xus/\xaN=xLx/\r=xpc
def RC (H:Hp)(a:LV)(y v:V)(H':Hp):Prop:=
 (∃Mn k,xsg a/\y=xE6/\xNE/\H'=xuM (.dK xzS))\/
 ∃Mn k b,xsi a/\y=xus/\xaN=xLx/\xNE/\H'=xuM (.dT xzS)
theorem Oh.k {H:Hp}{a:LV}{Mn:xuU}{k:Key}(e:xsg a):xs1 H xE6 xpc:=.inl (xbY Mn k xI5 rfl)
def Oh.t {k:xHc}(e:xsi a)(eb:xaN=xLx):xs1 H xus xpc:=.inr ⟨Mn,k,b,xI5,rfl,eb,rfl⟩
theorem RC.k {H:Hp}{a:LV}{Mn:xuU}{k:Key}{v:V}(e:xsg a)(hl:xNE):RC H a xE6 v (xuM (.dK xzS)):=.inl (xeO Mn k e hl rfl)
def RC.t {k:xHc}(e:xsi a)(eb:xaN=xLx)(hl:xNE):
  RC H a xus v (xuM (.dT xzS)):=.inr (xdc Mn k b e eb hl rfl)
def Inv.big {σ:St}(I:SZ):xxw sysModules:=by
 have h:xxw mainGlobals:=(xTb).lt;exact JA Z9 h
def uZ {σ:St}(hu:xAU<cLine)(I:SZ)(g:xs1 H y xaw)(ry:xi2)(h:∀w' s',xzK->xRX w'->Q w' s'):
  xnF (getItem Γ u) Q E s:=by
 rcases g with⟨Mn,k,e,ey,l⟩|⟨Mn,k,b,e,ey,eb,l⟩
 ·subst ey;show xsa z hd vs dd xSc;show xbp w' hw Vm (NX.some_of (by show LE l xMM)) (wpAny_getItem_of xI8 dd.mapOf hw (h w' _ xcS Vm))
 ·subst ey;cases xnU xCi ry;show xsa z hd xs dd xSd;obtain⟨w',hw,Vm⟩:=NX.some_of (by show LE l xMM);show xbd p hp ME (Option.map_eq_some_iff.mp hw) (wpAny_getItem_heap xPt xQf dd hp ?_);show LE ME (h w' _ xcS Vm)
def Ew {σ:St}(hu:xAU<cLine)(I:SZ)(g:xs1 H y o)(ry:xi2)(h:∀s',xzK->xOZ o.isSome s'):
  xnF (compareOp .In u Γ) Q E s:=by
 rcases g with⟨Mn,k,e,ey,l⟩|⟨Mn,k,b,e,ey,eb,l⟩
 ·subst ey;show xsa z hd vs dd xSc;refine wpAny_in_of xI8 hd dd.mapOf ?_;rw [<-xNt,<-l];exact xgp xcS
 ·subst ey;cases xnU xCi ry;show xsa z hd xs dd xSd;refine wpAny_in_heap xPt xQf hd dd ?_;show xaK q xNt Lo q;rw [<-q,<-l];exact xgp xcS
def zw {σ:St}(hu:xAU<cLine)(I:SZ)(g:xs1 H y o)(ry:xi2)(h:∀s',xzK->xOZ (! o.isSome) s'):
  xnF (compareOp .NotIn u Γ) Q E s:=by
 rcases g with⟨Mn,k,e,ey,l⟩|⟨Mn,k,b,e,ey,eb,l⟩
 ·subst ey;show xsa z hd vs dd xSc;refine wpAny_notIn_of xI8 hd dd.mapOf ?_;rw [<-xNt,<-l];exact xgp xcS
 ·subst ey;cases xnU xCi ry;show xsa z hd xs dd xSd;refine wpAny_notIn_heap xPt xQf hd dd ?_;show xaK q xNt Lo q;rw [<-q,<-l];exact xgp xcS
def sE {σ:St}(I:SZ)(mu:Mut UF)(hs:xG5 a h')(he:∃q,xtP a q)(new:xCT (xuM ob) h' a ob):
  xA3 (xuM ob):=
 xXX mu (λ b q hb z=>xqc b hb z) he new
def AR (z:xxI)(hd:xBl)(rel:xr6)(dd:h'.DictOf (bX P w) a vs):
  xyU H' h' a xot:=⟨z,hd,vs,rel,dd⟩
def uM {σ:St}(hu:xAU<cLine)(I:SZ)(g:RC H a y v H')(ry:xi2)(rv:xRX r)(h:∀s',xlH->xzx s'):
  xnF (setItem Γ u r) Q E s:=by
 rcases g with⟨Mn,k,e,ey,l,eH⟩|⟨Mn,k,b,e,ey,eb,l,eH⟩
 ·subst ey eH;show xsa z hd vs dd (Au I.hok e);have hz:xcN vs.length:=by show xba rel.length z
  have hl:xO7 xzS:=by show xaE (c6 Mn k v) (xcI [_,_,_] xPO xhG l this)
  refine wpAny_setItem_pairs xI8 dd λ h' dd' hs=>xgp ?_
  have he:∃q,xtP a q:=let⟨q,_,_,hq,_⟩:=dd';⟨q,hq⟩;exact sE I (by show xWM) hs he (AR hl hd (rel.put k rv) dd')
 ·subst ey eH;cases xnU xCi ry;show xsa z hd xs dd (C8 I.hok e);have hz:xow:=by show xba (Paired.length rel) z
  have hl:xO7 xzS:=by show xaE (c6 Mn k v) (xcI [_,_,_] xPO xhG l this)
  refine wpAny_setItem_heap xPt xQf dd λ h' dd' hs=>xgp ?_
  obtain⟨q,es,ep,hq,h2,h3,h4,_,h5⟩:=dd';refine sE I (by show xWM) hs ⟨q,hq⟩ ⟨hl,hd,_,(rel.put k eb rv).keeps (Ε c ys ec),q,es,ep,hq,h2,h3,h4,h5⟩;show υ (aH ec e xjf) ec
def DH (i:L5):Prop:=∀ov iv,xM5 i ov iv=xUT [ov,iv] ov iv
def zQ {T id:String}
  (hl:xZh xOp=pure (xom id)) (hs:DH slice)
  (h:xmJ (xrf value) (λ o s₁=>xmJ (xrf slice) (λ i s₂=>s₂.TypeIs o T/\xCC (getItem o i) s₂) E s₁) E s):
  xhf (xrf (xxH value slice)):=by
 show xjH (Subscript_ (xiq h (λ o s₁ h₁=>xiq h₁ (Ε i s₂ h₂) x x) x x)) hT h₂ h₂;unfold subscriptTail;show xcr xJE (getitemInPython_of_ne hT.not_modules) (EG (wpAny_specialOf hT hl ?_));have fin:xmJ (xM5 slice o i) (λ r s₃=>xCC (letTemporaryGo value o r>>= λ _=>pure r) s₃) E s₂:=by
  show LE (hs o i) (wpAny_operating (xiq h₂ (λ r s₃ h₃=>EG (wpAny_letTemporaryGo (E1 h₃))) x x))
 first
  |exact E1 (EG fin)
  |exact xrs (EG fin)
  |exact EG fin
def pB {σ:St}(I:SZ)(g:xs1 H y o):s.TypeIs Γ "dict":=by
 rcases g with⟨Mn,k,e,_,_⟩|⟨Mn,k,b,e,_,_,_⟩
 ·obtain⟨_,_,vs,_,dd⟩:=xSc;exact dd.typeIs
 ·obtain⟨_,_,xs,_,dd⟩:=xSd;exact dd.typeIs
def Dm (td ty:TE):TE:=λ σ H Q=>td σ H λ x H1=>ty σ H1 λ y H2=>∃a v,x=Γ/\xs1 H2 y xaw/\Q v H2
def Et (ty td:TE):TE:=λ σ H Q=>ty σ H λ y H1=>td σ H1 λ x H2=>∃a o,x=Γ/\xs1 H2 y o/\xxo o.isSome H2
def yA (ty td:TE):TE:=λ σ H Q=>ty σ H λ y H1=>td σ H1 λ x H2=>∃a o,x=Γ/\xs1 H2 y o/\xxo (! o.isSome) H2
def Dl (td ty tv:TE):TS:=λ D σ H=>tv σ H λ v H1=>td σ H1 λ x H2=>ty σ H2 λ y H3=>∃a H4,x=Γ/\RC H3 a y v H4/\xGZ H4
def yi (hu:xyo 1<cLine)(ho:xar o td)(hi:xar i ty)(hs:DH i):xar (xxH o i) (Dm td ty):=by
 intro L8 s σ H Q I h;refine zQ PySem.F.slot_dict_getitem.lookup hs (thn (xnz s H _ I h) λ u s1 ⟨x,H1,I1,rx,q1⟩=>xhy (xAp s1 H1 _ I1 q1) iv s2);obtain⟨y,H2,I2,ry,a,v,ex,g,q2⟩:=z9;subst ex;obtain rfl:u=xfB:=rx;show xaj (pB I2 g) (uZ hu I2 g ry λ w' s3 I3 Vm=>⟨v,H2,I3,Vm,q2⟩)
def BE (hu:xyo 1<cLine)(hi:xar i ty)(ho:xar o td):PC X .In i o (Et ty td):=by
 intro L8 s σ H Q I h;refine thn (xAp s H _ I h) λ iv s1 ⟨y,H1,I1,ry,q1⟩=>xhy (xnz s1 H1 _ I1 q1) u s2
 obtain⟨x,H2,I2,rx,a,ov,ex,g,q2⟩:=z9;subst ex;obtain rfl:u=xfB:=rx;exact Ew hu I2 g ry λ s3 I3=>xrJ ov.isSome H2 I3 q2
def lO (hu:xyo 1<cLine)(hi:xar i ty)(ho:xar o td):PC X .NotIn i o (yA ty td):=by
 intro L8 s σ H Q I h;refine thn (xAp s H _ I h) λ iv s1 ⟨y,H1,I1,ry,q1⟩=>xhy (xnz s1 H1 _ I1 q1) u s2
 obtain⟨x,H2,I2,rx,a,ov,ex,g,q2⟩:=z9;subst ex;obtain rfl:u=xfB:=rx;exact zw hu I2 g ry λ s3 I3=>xrJ (! ov.isSome) H2 I3 q2
def mE (hu:xyo 1<cLine)(ho:xar o td)(hi:xar i ty)(hv:xar value tv)(hs:xNd value (some (.Subscript o i pos')) X.env=xCH):
  xIp [.Subscript o i pos'] value pos (Dl td ty tv):=by
 intro L8 s σ H D I h;refine wpAny_Assign_Subscript (thn (hv L8 s σ H _ I h) λ r s1 ⟨v,H1,I1,rv,q1⟩=>thn (xnz s1 H1 _ I1 q1) λ u s2 ⟨x,H2,I2,rx,q2⟩=>xhy (xAp s2 H2 _ I2 q2) iv s3) hs;obtain⟨y,H3,I3,ry,a,H4,ex,g,q3⟩:=z9;subst ex;obtain rfl:u=xfB:=rx;exact uM hu I3 g ry rv λ s4 I4=>xvM H4 I4 q3
def wL (h:L4)(hb:x1E):xyU H (h.push (xxb "dict" (.dict #[]))) h.objs.size (.dK []):=
 ⟨xan,IF.mpr (K1 (FL hb)),[],.nil,Heap.DictOf.new h⟩
def xn (h:L4)(hb:x1E):xyU H (h.push (xxb "dict" (.dict #[]))) h.objs.size xiz:=
 ⟨xan,IF.mpr (K1 (FL hb)),[],.nil,_,#[],0,xg1,xrc rfl,rfl,rfl,List.nodup_nil⟩
def BO:TE:=λ _ H Q=>∀p,xi3->xsy (xe4 p (.dK []))
def Bw:TE:=λ _ H Q=>∀p,xi3->xsy (xe4 p xiz)
def o5:xar (.Dict [] [] pos) BO:=λ L8 s σ H Q I h=>
 wpAny_Dict_empty (xbY xok _ (xQn xXI (wL s.heap I.big)) (xgp xkQ))
def qi:xar (.Dict [] [] pos) Bw:=λ L8 s σ H Q I h=>
 wpAny_Dict_empty (xbY xok _ (xQn xXI (xn s.heap I.big)) (xgp xkQ))
def xf {K:Frag}{g:TG}{tb:TS}{D:Ends}(Pv:xFJ)(h0:xne 0)(hl:∀i σ H,xpR->xlY->xh9)
  (hs:∀i x p σ H,xfg=xas->xi3->xlY->g xbV σ (xdJ H p [xQJ,x]) λ σ2 H2=>xn5 D xfr xfr) (hd:∀σ H,xne xs.length->xlV):
  ∃W:xFK,(∃m,xFZ H)/\∀i m σ H,xFY H->
   (xoV xAb H/\xlV)\/(xpC xAb H/\∃N,(∀σ' H',xz2->xdo (m'<m/\xFU (i+1) H'))/\∀x H',xo8 xAb H x H'->xFT λ σ2 H2=>xn5 D N N):=by
 refine Ψ (λ i m σ H=>m=xhB i/\xpR/\xlY) ⟨xs.length,Z6,xan,h0⟩;rintro i m σ H ⟨rfl,hi,p⟩;have q:=xAt σ H hi p;by_cases Mb:xAI
 ·refine .inr ⟨⟨xs,xs[i],q,by simp [Mb]⟩,xfr,λ σ' H' p'=>xbI (xhB (i+1)) xpB Mb p',xw9⟩;obtain⟨p1,x1,MW,e1,e2,y⟩:=y;subst e1 e2;exact xss x1 p1 σ _ (y xs q) MW p
 ·have e:xq6 i:=xvD;show xr3 e ⟨xKG xs q,xKT H p⟩
universe L2
namespace K30.C
open PySem L2 QQ C9 C10
seal PE PA PS PSs PT PW PG PI
def gU (R:Fr):xgC=xU0 (λ b=>xd4) V.int:=by show xak GQ
def IsL (H:Hp)(x:V)(L:Fr):Prop:=∃a,x=Γ/\UF=xpo/\∀l∈L,xfq l
def OT (H:Hp)(x:V):xdq xHZ
 |none=>xn9 x
 |some c=>∃t,x=xgR/\H t=xeY [vN xg6,vN xi5]
def CL (H:Hp)(xs:M2)(cs:List xHZ):Prop:=xI1 cs.length/\∀(i:Nat) x c,xfg=xas->xaU cs=xa7->OT H x c
def OT.keep {H H':Hp}(h:OT H x c)(k:∀t ys,H t=xvm->H' t=xvm):OT H' x c:=by
 cases c with
 |none=>exact h
 |some c=>show xbp t e z h ⟨t,e,xo0 z⟩
theorem CL.keep (h:xse H cs)(k:∀t ys,H t=xvm->H' t=xvm):xse H' cs:=⟨xb0,λ i x c h1 h2=>(xeU i x c h1 h2).keep k⟩
theorem CL.set {H:Hp}(h:xse H cs)(hy:OT H y d):CL H (xs.set p y) (cs.set p d):=by
 refine⟨by rw [KU,KU];exact xb0,λ i x c h1 h2=>?_⟩;by_cases e:p=i
 ·subst e;have hp:xmo p:=by
   have:=xSv
   rwa [KU] at this
  rw [HW hp] at h1;show W1 (HW (by show xba xb0 hp)) h2 h1;cases h2;exact hy
 ·rw [JF e] at h1 h2;exact xeU i x c h1 h2
theorem CL.none (H:Hp)(n:Nat):CL H (xBy .non) (xBy none):=by
 refine⟨by rw [Fd,Fd],λ i x c h1 h2=>?_⟩;rw [Jb] at h1 h2
 split at h1
 ·cases h1;show W1 (E5 (by assumption)) h2 h2;rfl
 ·cases h1
def ndL:xAx ["length"]:=Z8
inductive W7 (vs:M2) (H:Hp) (Q:VK) (Ml:XK):Prop
 |mk (a:LV) (L:Fr) (h0:vs=xbL) (h1:UF=xpo) (h2:(∀l∈L,xfq l)) (h3:xR0) (h4:xez (Κ->xmZ (xiJ L))):W7 vs H Q Ml
def A8:ST Jaf Jaf xw:=Os
abbrev yd:TE:=V4 (rI Dv (xER (i*2^j.toNat))) (tC xuz) (xJO (xER (i-j)) (tC (.int 12)) xu3)
abbrev vT:TT:=pA (xJO (λ i j=>xEf j i) xu3 xPB)
def zd (F:Δ "room_taken" xw Jaf)(T:xbN):xpl Jaf W7:=by
 show xhU tm hm T.mlen A8 (λ L9 A outer s H vs Q E hr h=>?_) _;show xiN a L rfl hL hb hl300 k;have hn:=xDf;show xgY (xbh (bw (xE hn) Z7 T.sum PyProof.Rows.boot_sum (xcw (jC (N:=["length"]) (g:=xhV) (tt:=vT) (te:=yd) rfl rfl Z8 Z8 Z8 (bS PP)
   (λ fp s H=>xA1 ndL) (λ fp s H=>xlk cF PP) (λ fp s H=>xFO (xdz xJx PP)))))) (xvg a hL xgo) (pD (K:=K) (a:=a) (l:=l) (xs:=xGT) (n:=1) (g:=xhV) (tt:=vT) (te:=yd)
  (λ i ys H'=>ys=Ρ (xhJ (xx6 (L.take i) b (0<b)) b (2^(12-b)))/\xaz=xeM/\Κ) (xr1 i' xtT) (λ i ys H' _ z9=>by show xCr sm;exact xIo hL) ?_ ?_ ?_ ?_ ?_)
 ·rintro i x ys σ H' hx ⟨rfl,hl,sm⟩ hσ;show xlv b MR hx;have hb12:=xSF;have Ny:xmn i:=xdN MR;show xhi u0 u0 (σ=[u0]) (match σ,hσ with| [u0],_=>xcM u0)
  have hlen:xFu (xx6 (L.take i) b (0<b)):=EF (Kx _ _) (by show xs3 (xDV hl300));refine⟨_,rfl,_,_,rfl,rfl,_,rfl,?_⟩;rw [xFj,Fp]
  try dsimp only
  by_cases h0:0<b
  ·show xz9 (xKO (xcU<xd4) xWk) ⟨_,rfl,_,_,rfl,rfl,_,_,rfl,rfl,⟨Z5,Z5,Z9⟩,hl,bz (by rw [EA,EA];exact xdj hlen),rfl,?_,i',xGm⟩
   ·rw [Ff (by show xKh),EO,EO];have e1:xcv*2^xlQ (XV 12) xd4=LT (2^(12-b)):=by
     rw [show xlQ (XV 12) xd4=12-b by lia,Int.one_mul];simp
    try dsimp only
    show xak e1
   ·show xqg xuB
  ·show xrT (xmj z (EL z) Z5) (xpe ?_ ?_ sm)
   ·show xb8 (Fl (by show xKh))
   ·exact hl
 ·rintro ys H' ⟨rfl,hl,sm⟩;rw [EA,Fs,gU] at hl;refine xbI l _ xIF ?_;have e:(xhJ (xhJ (xtI b (0<b)) b (2^(12-b))) b xd4).sum=LT (xiJ L):=by
   unfold krf;generalize xhJ (xtI b (0<b)) b (2^(12-b))=Y
   induction Y with
   |nil=>rfl
   |cons y Y ih=>simp only [Gp,Jc];show xb8 ih
  show xfs (xeR sm)
 ·exact λ x σ H A B h z=>xh7
 ·exact λ σ H A B h z9=>by obtain⟨v,e1,i,j,e2,e3,c,e4,z⟩:=z9;exact⟨v,e1,i,j,e2,e3,c,e4,xh7⟩
 ·exact λ σ H A B h z9=>by obtain⟨v,e1,i,j,e2,e3,i2,j2,e4,e5,c,z⟩:=z9;exact⟨v,e1,i,j,e2,e3,i2,j2,e4,e5,c,xh7⟩
inductive Q2 (vs:M2) (H:Hp) (Q:VK) (Ml:XK):Prop
 |mk (x:V) (L:Fr) (h0:vs=xcZ) (h1:IsL H x L) (h2:xiK) (h3:xz0):Q2 vs H Q Ml
def vh:ST Jaf Jaf fU:=Os
structure Za (K:Frag)(mg:Α):Prop where
 X:xbN
 whole:xMf
 arewhole:xWB cD Jab
 things:Wp "are_of_things" gs xtH
 room:Wp "room_taken" xw Jaf
def si {P:LY}{w:LZ}(F:Δ "need_lengths" fU Jaf)(Y:Za K mg):xpk Jaf Q2:=by
 show xZ3 T W AW Th Ro;show xhU tm hm T.mlen vh (λ L9 A outer s H vs Q E hr h=>?_) _;obtain⟨x,L,rfl,⟨a,rfl,hB,hb⟩,G,k⟩:=h;show xgt (xR6 (xcQ (S.Rl Th AW W T) hr Th PP xJx) (xg3 cF (xd2 (zd Ro T) Ro PP) (xFO xJx) aM az)) ⟨_,rfl,a,L,12,rfl,hB,hb,G.ne,G.le,G.some,_,rfl,aS xaa⟩;show ρ ⟨_,rfl,a,L,rfl,hB,hb,G.le,P3 H' s1⟩ ⟨_,_,rfl,rfl,⟨Z9,Z9,Z9⟩,_,_,rfl,rfl,_,rfl,xEb h (xeR s1)⟩;exfalso;have:=xb5;have g:=G.room;have e:xcv*2^(XV 12).toNat=4096:=Z9;show xxh e (xru Τ (xv9 (xaG (.n 4096))) (xcT 4096) (Ez xq1 g))
def Vd {α:Type}(x:α)(k):xjn k xcZ=x0e x:=by
 induction k with
 |zero=>rfl
 |succ k ih=>rw [Gm,Gu,ih,Gm];rfl
def xX (hl:xR0)(hj:xfq j):xpG≤1228800:=by
 have h:=An L j;have h1:2^j≤2^12:=xiT hj;have h2:L.length*2^j≤300*4096:=Nat.mul_le_mul hl h1;exact xbl [_,_,_] xx5 (xa2 (.m 300 (.n 4096))) IO 1228800 h h2
def yO (L)(j):xvG 0=2*xpG:=by show xb8 ua
def ixN_nat (h:i<n):Tm (ixN n xhT) i:=by
 show xzm ixN Z5;show xuY
inductive Q7 (vs:M2) (H:Hp) (Q:VK) (Ml:XK):Prop
 |mk (x:V) (L:Fr) (h0:vs=xcZ) (h1:IsL H x L) (h2:xiK) (h3:∀l xs H',Ι->Κ->xaz=xdZ->xse H' xt6->xat):Q7 vs H Q Ml
def MQ:ST ["lengths","codes","code","size","place","length"] Jaf ik:=Os
def Qz {P:LY}{w:LZ}{mg:Α}{base:L4}{f fN:LV}{fd TJ:L0}(F:Δ "codes_of" ik Jaf)(N:xbD "need_lengths" fU Jaf fN TJ)(Y:Za K mg):xvo Jaf Q7:=by
 have T:=Y.X;show xhU tm hm T.mlen MQ (λ L9 A outer st H vs Q E hr h=>?_) _;obtain⟨x,L,rfl,⟨a,rfl,hB,hb⟩,G,k⟩:=h;show xgt (xej (xd2 (si N Y) N PP) (xaF 1 MQ.nd (xwa bP xmP) (xa6 2 MQ.nd ad (xg0 (xXS Z7 (xfy ad (xcD xJx))) 3 MQ.nd (xaF 2 MQ.nd (xf3 cB Ps) (ac (a9 EY rfl (mQ Z7 T.enum xoQ) (xRR (xuK 4 MQ.nd (xuK 5 MQ.nd jv))) (ac (xqq xa9 TD (ab (kb (xo2 Ps TD) (jB No χ gh))
     (xmd MQ.nd xPK)))))))) No))) (xc0 _ L (xpI a hB hb) G (xdB H1 s1));have NS:=G.le;refine xdd (xen (by show xkB) l0 n0)
 have s2:=xa1 [.non] n0;show xcC ⟨_,rfl,a,_,rfl,xab (xRu hB),l0,_,_,rfl,rfl,i',IV (2^63) _,by show xaT (xEh NS),(by rw [EA,E2];exact aW (by show 1*_≤_;exact(xfN IO 300 (xgH 1) 2000 NS))),xdB l nl⟩;have s3:=xa1 xIb nl;have ez:xJU (xq0 xGT) [V.non]=xIb:=by rw [EA,E2,Vd]
 try dsimp only
 rw [ez];have Oq:(xdw (xbP H1 l0 [.non]) xIb) l=XL xIb:=i';have nlH:Ι:=xoG xfz;have Ui:=xLm;show xsV (xdw (xbP H1 l0 [.non]) xIb) H3 (ao (xdB R1 g1)) g1;refine xdd ⟨_,_,rfl,rfl,1,13,rfl,⟨Z5,Z5,Z5,Z5⟩,?_⟩
 have en:xlQ (XV 13) 1=12:=Z9
 try dsimp only
 show Uf en (xnN 1 12 (λ j σ H2=>∃v3 v4 v5:xdu,∃xs:M2,σ=[xaQ,xeu,UV xpG,v3,v4,v5]/\xh3=xdZ/\xse H2 (xuo j 0)/\xjZ) (xdc none none none _ Oq (by show LE wE (CL.none _ _)) Ui) ?_ ?_)
 ·clear g1 Oq Ui s3 nl;rintro j σ H2 hj ⟨v3,v4,v5,xs,rfl,MD,hC,sm⟩;have eb:xcv+xrG=xiH j:=(xid xfL NE NE xfL)
  try dsimp only
  rw [eb];have hes:=xX NS (show xfq j from G1 hj);show xol g2 (xc0 _ _ rfl ⟨xj9 (xfx [] xed xaH),xj9 (xfx [] xaH (.n 1000000)),Z5⟩ xcX) g2;have ec:LT xpG*2^xON=LT (xvG 0):=by
   rw [yO,xce (xON) 1];lia
  try dsimp only
  show Uf ec (xuR a (xIo hB) (xf (D:=xxX) (K:=K) (a:=a) (xs:=xGT) (λ p σ H'=>∃v4 v5:xdu,∃xs:M2,σ=[xaQ,xeu,UV xvH,xGy,v4,v5]/\xaz=xdZ/\xse H' xEU/\Κ)
   (xjj v4 v5 xs MD hC sm) (λ i σ H' _ z9=>by obtain⟨_,_,_,_,_,_,e⟩:=z9;exact Mm.of (e _ _ hB)) ?_ ?_))
  ·rintro p y t σ H' hp ht ⟨v4,v5,xs,rfl,MD,hC,sm⟩;show xlv b MR hp;have Od:xmn p:=xdN MR;show xmc st (xjF [xke,xd6] ht) ⟨t,_,rfl,xIk,rfl,_,_,rfl,_,_,rfl,rfl,?_⟩ (xc0 _ rfl _ rfl xj5)
   ·have e1:b=j+1:=xXv;rw [e1] at MR st ⊢;refine xmf g3 (xkr _ (by show xdn) (P3 q nq))
    have sq:=xjF [vN xvH,xhg j 1] nq;have hlq:=sq _ _ xRy;have hCq:xse _ xEU:=hC.keep λ t ys e=>sq _ _ (xhc e)
    show xfD ⟨_,rfl,_,rfl,l,xs,_,p,rfl,rfl,hlq,ixN_nat (by rw [hC.1,bv];exact Od),g3 _ _ ?_⟩ g3;refine xwc;have ec2:LT xvH+1=LT (xvG (p+1)):=by show LE (pV MR) (xid NE NE NE NE)
    try dsimp only
    show Uf ec2 (xjj xnE xGy (xs.set p xDR) i' ?_ xGm)
    ·show Uf (zh MR) ((hCq.set (y:=xDR) (d:=some (xvH,j+1)) (xf2 q i')).keep (xdm t2 ys))
     show υ (xAA hlq (by show Υ)) e
    ·show xgr nlH (sq _ _ (xhc xuB))
   ·have e1:xvT L[p]? (j+1):=by
     rw [MR];show Υ;exact h1 xdT
    refine⟨xnE,xhl,xs,?_,xRy,?_,sm.trans st⟩
    ·show xak (vi e1)
    ·show LE (wH e1) (hC.keep λ t ys e=>xhc e)
  ·rintro σ H' ⟨v4,v5,xs,rfl,MD,hC,sm⟩;rw [EA] at hC ⊢;rw [o0];show π xv hC (xdc _ _ _ xs MD hC sm)
 ·rintro σ H2 ⟨v3,v4,v5,xs,rfl,MD,hC,sm⟩;exact xEn (xfp xs H2 nlH sm MD hC)
def u1 (r:xsG A):xAU<cLine:=by show xaE r.un (xaf [_,_,_] (xJI (xkN 16)) Sc xeH Sc this)
abbrev kk (a b:Nat):xHc:=[.inl (LT a),.inl xd4]
def P8:kk a b=kk c d<->a=c/\b=d:=by
 constructor
 ·intro h;injection h with h1 h2
  show xAs h2 h2
  injection h1 with h1
  injection h2 with h2
  show xaj (xif (xBt (EC (xxu h1))) [_,_] IO IO (xRD (xxu h1))) (xif (xBt (EC (xxu h2))) [_,_] IO IO (xRD (xxu h2)))
 ·rintro⟨rfl,rfl⟩;rfl
def CS:¬(xUQ="beginnings"):=Z8
noncomputable def fC (d e:LV):xfn:=[("things",xlg),("beginnings",xoL)]
def iu (d e):xkI "beginnings" e (xCJ d [])=xsF:=by
 show(xcW "things" "beginnings" (xg2 xUQ d) [xg2 "beginnings" e])=_;show xak (ES CS)
def B8 (d e):xds xsF "things"=xhd:=by
 rw [<-iu,ap,ES CS,ap,xai]
def D4 (d e):xds xsF "beginnings"=xap e:=by
 rw [<-iu,ap,xai]
def fC_no (d e){m:Str}(h1:xl8 "beginnings")(h2:xl8 "things"):xmt xsF m:=by
 rw [<-iu,ap,xpg,ap,xno];rfl
def oE (L:Fr)(n:Nat)(Mn:xFN):Prop:=xc1 Mn.length/\∀a b,(∀q,q<n->xha q b->xcJ->xoS b=a->xyz a b=xwv)/\((∀q,q<n->xha q b->xcJ->xoS b≠a)->xac (xyz a b))
def oH (L:Fr)(n:Nat)(Mn:xFN):Prop:=Mn.length≤12*n/\∀a b,xkX (xyz a b)<->∃q s,q<n/\xnQ/\b<s/\xwD/2^(s-b)=a
structure NM (C:LV)(H:Hp)(p d e:LV)(L:Fr):Prop where
 ob:∃dx,xbF=xoY d e
 th:∃Mn,xsi d/\xwr L.length Mn
 bg:∃Mn,xsi e/\xws L.length Mn
structure CRc (K:Frag)(mg:Α)(C:LV):Prop where
 cl:xhm
 nT:xdC "things"
 nB:xdC "beginnings"
inductive Xf (C:LV) (vs:M2) (H:Hp) (Q:VK) (Ml:XK):Prop
 |mk (p d e dx:LV) (c s:Nat) (Mn:xFN) (h0:vs=[xbV,xi1,xcV]) (h1:xbF=xoY d e) (h2:xsi e) (h3:Mn.length≤5000) (h4:xfq s) (h5:∀H' Pq,Tm (H' e) (.dT Pq)->Pq.length≤xQk s->(∀a b:Nat,xkX (bY Pq (kk a b))<->xkX (xyz a b)\/(b<s/\c/2^(s-b)=a))->xdH (∀x o,xgx=Id->x≠e->H' x=Id)):Xf C vs H Q Ml
def Xn:ST ["self","code","length","size"] xW2 wu:=Os
def yB (F:xaL "keep_beginnings" "CodeReader.keep_beginnings" wu)(T:CRc K mg C)(X:xbN):xdl xW2 (Xf C):=by
 show xao Xn (λ L9 A outer st H vs Q E hr h=>?_);obtain⟨p,d,e,dx,c,s,Mn,rfl,hp,he,hl,hs,q⟩:=h;have npe:p≠e:=xKY he (by show Υ);show xax (ac (xg0 (xsk Ps) 3 Xn.nd (ac (mE xI9 Ζ (xo2 (xzJ No (xdz Ps TD)) TD) et rfl)))) (xoF _ (LT s) rfl Z4 Z4 ?_)
 try dsimp only
 show Uf E2 (xnN 0 s (λ i σ H2=>∃v Pq,σ=[xfX,UV c,xi0,v]/\Tm (H2 e) (.dT Pq)/\Pq.length≤xQk i/\
   (∀a b,xkX (bY Pq (kk a b))<->xkX (xyz a b)\/(b<i/\c/2^(s-b)=a))/\∀x o,xgx=Id->x≠e->H2 x=Id) ⟨none,Mn,rfl,he,(xmv IO (xcT 0)),λ a b=>⟨.inl,On (z.elim id (xmj z xeS xQK))⟩,λ x o e _=>e⟩ ?_ ?_)
 ·rintro i σ H2 hi ⟨v,Pq,rfl,Wf,MD,hv,RH⟩;have ei:xcU+xhT=xhT:=(xid (xdP 0) IO IO (xdP 0))
  try dsimp only
  rw [ei];show xmc ME (RH _ _ hp npe) ⟨_,rfl,p,C,dx,_,_,rfl,ME,T.cl,T.nB,D4 _ _,?_⟩ ⟨_,rfl,_,rfl,_,rfl,_,_,rfl,rfl,_,_,rfl,rfl,(by show xcU≤LT s-xhT;lia),_,rfl,(by show xdn),P3 t nt⟩;have e1:LT c/2^xlQ (LT s) xhT=LT (c/2^(s-i)):=by
   show xb8 (show xlQ (LT s) xhT=s-i by lia)
  try dsimp only
  rw [e1];have net:e≠t:=ae Wf nt;show ρ (xbI e _ (RC.t (b:=t) (k:=kk (c/2^(s-i)) i) (by show υ net Wf) i' (xo1 (show _≤6000 from(xgQ [_,_,_,_] (xa2 (xhv 3 IO)) (xaZ 5000 (xK8 (xa2 xrh))) IO 6000 hl (xbJ hs hi MD))))) ?_) ⟨_,_,rfl,i',EF (c6 _ _ _) (xaf [_,_,_] IO Φ NE xhG MD),P3 a b,λ x o ex hx=>?_⟩
  ·rw [fE];by_cases c1:kk a b=kk (c/2^(s-i)) i
   ·rw [E5 c1];show xpU (P8.mp c1) ⟨λ _=>.inr (xcM (xrL NE)),xhA⟩
   ·rw [ES c1,hv];constructor
    ·rintro(z|⟨z1,z2⟩)
     ·show xa8 z
     ·exact xei (xbn [_,_] NE Sc NE Β z1) z2
    ·rintro(z|⟨z1,z2⟩)
     ·show xa8 z
     ·refine xei ?_ z2;show xbx b i h h
      ·exact h
      ·show xgy (b=i) (xif (xaf [_,_] NE Β IO Sc z1) [_,_] IO IO h);show xaq (P8.mpr (xcM z2.symm)) c1
  ·have h1:=RH x o ex hx;rw [ai hx,xqx h1 nt];exact h1
 ·rintro σ H2 ⟨v,Pq,rfl,Wf,MD,hv,RH⟩;exact q _ _ Wf MD hv RH
def zj (L):xwr 0 []:=xih Tl a b ⟨xe9 q hq hq xQK,xhA⟩
def zr (L):xws 0 []:=by
 refine xih xan a b ⟨xc5 h,λ z9=>by obtain⟨q,s,hq,_⟩:=z9;show xaq hq xQK⟩;cases h
def zO (h:xwr n Mn)(h0:∀s,xha n s->¬xpW):xwr (n+1) Mn:=by
 refine xih (EF xb0 xm1) a b ⟨λ q hq hb h1 hc=>?_,λ hn=>(xeU a b).2 λ q hq=>hn q (xaf [_,_] NE Sc NE Β hq)⟩;show xbx q n z z
 ·exact(xeU a b).1 q z hb h1 hc
 ·show xgy (q=n) (xif (xaf [_,_] NE Β IO Sc hq) [_,_] IO IO z);show xaq h1 (h0 b hb)
def zW (h:xws n Mn)(h0:∀s,xha n s->¬xpW):xws (n+1) Mn:=by
 refine xih (EF xb0 (xmv (xgH 12) (.m 12 NE))) a b (xqC h a b ⟨λ z9=>by show xbq q s hq r z9 ⟨q,s,xbn [_,_] NE Sc NE Β hq,r⟩,xc5 z9⟩);obtain⟨q,s,hq,h1,h2,h3⟩:=z9;show xbx q n z z
 ·exact⟨q,s,z,h1,h2,h3⟩
 ·show xgy (q=n) (xif (xaf [_,_] NE Β IO Sc hq) [_,_] IO IO z);show xaq Z4 (h0 s h1)
def Cj (h:xwr n Mn)(hs:xha n s)(h1:xpW):xwr (n+1) (xCh (kk (xjs n s) s) xcG):=by
 refine xih (EF (c6 _ _ _) (by show xaE xb0 (xsS [_,_] IO Sc NE Β))) a b ⟨λ q hq hb MR hc=>?_,xc5 hn⟩
 ·rw [fE];by_cases c:kk a b=kk (xjs n s) s
  ·show xBs (P8.mp c);rw [xai,w6 hb hs hc]
  ·rw [xwn];show xbx q n z z
   ·exact(xeU a b).1 q z hb MR hc
   ·have:q=n:=xif (xaf [_,_] NE Β IO Sc hq) [_,_] IO IO z;show xb3 this hs hb hb;show xaq (P8.mpr (xcM hc.symm)) c
 ·rw [fE,ES]
  ·exact(xeU a b).2 λ q hq=>hn q (xaf [_,_] NE Sc NE Β hq)
  ·intro c;show xpU (P8.mp c) (hn n (xrL NE) hs h1 rfl)
def CM (h:xws n Mn)(hs:xha n s)(hs12:xfq s)(hl:Pq.length≤xQk s)
  (hv:∀a b:Nat,xkX (bY Pq (kk a b))<->xkX (xyz a b)\/(b<s/\xjs n s/2^(s-b)=a)):xws (n+1) Pq:=by
 refine xih (by show xaE xb0 (xae [_,_,_,_] (xa2 xfH) (xK8 (.a xoE (xmh 12))) IO (.m 12 Β) hs12 (xuA hl))) a b ((hv a b).trans ?_);rw [xeU a b];constructor
 ·rintro(⟨q,r,hq,z⟩|⟨z1,z2⟩)
  ·exact⟨q,r,xbn [_,_] NE Sc NE Β hq,z⟩
  ·exact⟨n,s,(xrL NE),hs,z1,z2⟩
 ·rintro⟨q,r,hq,z1,z2,z3⟩;show xbx q n z z
  ·show xa8 ⟨q,r,z,z1,z2,z3⟩
  ·have:q=n:=xif (xaf [_,_] NE Β IO Sc hq) [_,_] IO IO z;show xb3 this hs z1 z1;exact xei z2 z3
inductive spCInit (C:LV) (vs:M2) (H:Hp) (Q:VK) (Ml:XK):Prop
 |mk (p dx a:LV) (L:Fr) (h0:vs=xnX) (h1:xbF=xzN) (h2:UF=xpo) (h3:xiK) (h4:∀(d e:LV) (H':Hp),xAJ->Χ e->xqm H'->xdH (∀b o,xaN=Id->xhn->xeN=Id)):xOd vs H Q Ml
def scCInit:ST ["self","lengths","place","pair"] xT0 sCInit:=Os
structure Mks (K:Frag)(mg:Α)(C:LV):Prop where
 X:xbN
 Y:Za K mg
 need:Wp "need_lengths" fU Jaf
 cof:Wp "codes_of" ik Jaf
def bt (R:Fr):Θ:=BP.dig xt1 Ο
def Mu (R):xaI xtm Ο:=BP.Mp _ _
theorem sZ (n):∀m i,i<m->xaM (BP.dig n m) (xnZ (n/2^(m-1-i)%2))
 |m+1,0,_=>by
  show Tm (some _) _;rfl
 |m+1,i+1,h=>by
  show xaU (BP.dig n m)=_;rw [sZ n m i (xaf [_,_] xeH Β NE Sc h),show m+1-1-(i+1)=m-1-i by exact xfU (xcI [_,_,_,_,_,_] (xsv (xbi (xhv 4 xDp))) (xll Φ 5 (xhv 3 xdL)) τ (xRY τ (NL.J' (xrL xaH)) (xdF [_,_,_] (.a xeH Β) (xnr xht) NE h τ))) [_,_,_,_,_,_] (xdh (xhv 3 (xhv 5 Φ))) (xll xDp 4 (xbi xfF)) Sc τ (xRY τ (xdE xeH Β xaH Sc h) (xdF [_,_,_] (xdf xeH) (xnr xht) IO h τ))]
def AL (h:t+s<Ο):∃b,xOX (s+1)=xvF++xey/\xt1/2^(Ο-(t+s+1))%2^1=b.toNat:=by
 refine Ψ (xnZ (xt1/2^(Ο-1-(t+s))%2)) ?_
 ·rw [Ga,Ik];show xci bt (sZ _ _ _ h);rfl
 ·rw [show Ο-(t+s+1)=Ο-1-(t+s) by exact xfU (xcI [_,_,_,_,_,_] (xsv (xFw (xag xPy))) (xll xui 5 (xlM xdL)) τ (xFv (xeX [_,_,_] xeF xbK xeF xbK h))) [_,_,_,_,_,_] (xFw (xhv 5 xui)) (xJV xPy (xFw xfF)) Sc τ (xPD (xeX [_,_,_] xeF xbK xaH xbK h) (xae [_,_,_,_] (.a xeF xbK) (xgm xm6) Pi xaS h τ)),Nat.pow_one];have h2:=Hf (xt1/2^(Ο-1-(t+s))) (show 0<2 from Z9);by_cases c:xt1/2^(Ο-1-(t+s))%2=1
  ·rw [EJ c,c];rfl
  ·rw [FZ c];show _=0;lia
def Eu:¬(xUQ="held"):=Z8
def NM.keep (h:xqm H)(s:∀c o,ω=Id->(c=p\/c=d\/c=e)->xaY=Id):xqm H':=by
 obtain⟨⟨dx,h1⟩,⟨k1,h2,RJ⟩,⟨k2,h3,XG⟩⟩:=h;exact⟨xgc (xft h1 xec),⟨k1,xQ3 h2 xec,RJ⟩,⟨k2,xQ3 h3 xx7,XG⟩⟩
def NM.same (h:xqm H)(s:Κ):xqm H':=h.keep λ c o e _=>xft e
def zB (h:xws L.length Mn)(u):xkX (xW4 xU2)<->Yj L u:=by
 rw [xeU];constructor
 ·rintro⟨q,s,_,h1,h2,h3⟩;exact⟨q,s,h1,h2,h3⟩
 ·rintro⟨q,s,h1,h2,h3⟩;exact⟨q,s,xSv,h1,h2,h3⟩
def zc (h:xwr L.length Mn)(u):(∀q,xpX q->xW4 xU2=xwv)/\((∀q,¬xpX q)->xac (xW4 xU2)):=by
 refine⟨λ q ⟨h1,h2,h3⟩=>(xeU _ _).1 q xSv h1 h2 h3,λ hn=>(xeU _ _).2 λ q _ h1 h2 h3=>hn q ⟨h1,h2,h3⟩⟩
def scThing:ST ["self","reader","begin","code","size"] xUb fV:=Os
universe K30.C
namespace K30
open PySem L2 QQ W17 W16 BP
def th:xoa Pc
 | .sg s=>s
 | .cp _ z=>xKK
noncomputable def cP (L:Fr):Pc->xbf
 | .sg s=>[(xtu s xzj,xzj)]
 | .cp b z=>[(xtu xKK xLP,xLP),(b,8)]
def hP (L:Fr)(P:xfa):xbf:=P.flatMap (cP L)
def cn (Q:Fr):Fr:=xHx (λ q=>xCY)
def vK (L)(P Q:xfa):xoW (P++Q)=xoW P++xoW Q:=by simp [hP]
def sU (L)(x)(P):xoW (x::P)=cP L x++xoW P:=by simp [hP]
def BY (L)(x:Pc):xoW xcZ=cP L x:=by simp [hP]
def dw (Q:Fr):xaI xhC 272:=by simp [cn]
theorem GR.all:∀{P} {B},GR B P->xb6 P (∃B',gE B' x)
 |y::P,B,h,x,hx=>by
  show xe6 hx hx
  ·show xaj B xb0
  ·exact GR.all xeU x hx
def ye (h:gE B x):th x<272:=by
 cases x with
 |sg s=>have:xch s:=h;show s<272;exact xo1 (E4 this)
 |cp b z=>
  obtain⟨_,_,_,_,h5⟩:xcJ/\xA7/\xgL b/\xw6/\xwN:=h;show xKK<272;exact(xfN IO 18 (xaG (xdP 253)) 272 h5)
structure TOk (L:Fr)(Pp:xfa):Prop where
 good:xye
 len:xiM
 six:xqp L 6
 has:xb6 Pp (Ν (xmW x))
def TOk.at (h:xF8)(hx:x∈Pp)(g:gE B x):xha (th x) (xmW x)/\Ν (xmW x)/\xmW x≤6:=by
 have hl:xmn (th x):=by show LE h.len (ye g)
 have e:xha (th x) (xmW x):=by rw [E9,EI hl];rfl
 exact⟨e,h.has x hx,h.six _ (FO e)⟩
def zt (h:xF8)(g:GR W Pp):Good xuH:=λ q hq=>by
 obtain⟨x,hx,hq⟩:=Ly.mp hq;obtain⟨B',gx⟩:=g.all x hx;show xjP e1 e2 e3 (h.at hx gx) cl (C10.Uu h.good e1 e2);cases x with
 |sg s=>
  show xjG (xlf q [(xtu s xzj,xzj)] hq) cl
 |cp b z=>
  show xe6 (xlf q [(xtu xKK xLP,xLP),(b,8)] hq) hq
  ·exact cl
  ·rw [Fm.mp hq];obtain⟨_,h2,_,_,_⟩:xcJ/\xA7/\b≤B'.length/\xw6/\xwN:=gx;show b<2^8;exact HE h2
def yI (six:xqp L 6)(x):xJa L x≤14:=by
 have six:∀n,xtd n≤6:=λ n=>by
  rw [E9];cases e:L[n]? with
  |none=>exact xan
  |some y=>exact six y (FO e)
 cases x with
 |sg s=>have:=six s;show xzj+0≤14;exact xdj this
 |cp b z=>have:=six xKK;show xLP+(8+0)≤14;exact Nat.add_le_of_le_sub Z9 this
theorem mj (six:xqp L 6):∀P:xfa,tots (xoW P)≤14*P.length
 | []=>Tl
 |x::P=>by
  rw [sU,aV,EV];have:=mj six P;have:=yI six x;lia
theorem jy:∀{It:xtF} (a:Nat),(xOV It x)->xrn≤3*xHR a
 | [],_,_=>Tl
 |x::It,a,h=>by
  have hx:=h x Z6;have e:W13.puts (x::It)=x.puts++xkL:=by simp [W13.puts]
  rw [e,aV];cases x with
  |one y=>
   have ih:=jy (It:=It) y λ z hz=>h z (by simp [hz])
   show(3+0)+xrn≤3*(xHR y+1);exact xbn [_,_] IO xEa (xv9 (xqj xdU)) xQ7 ih
  |rep r=>
   have ih:=jy (It:=It) a λ z hz=>h z (by simp [hz])
   have hr:3≤r/\r≤66:=hx;show(3+(6+0))+xrn≤3*xcm (xB6 r) (xtD a);rw [EB,Fd];exact(xae [_,_,_] (xag (.m 3 xdU)) (xfM 3 xEa) (xv9 (xaZ 3 (xm4 6 0))) (.m 3 Φ) ih (EH 3 hr.1))
def uo (hl:xiM){It:xtF}(h:xCI 0 0 It 272 b):xtD 0=L:=by
 have:=W13.Qb h;rw [Hx,F6,<-hl,Fs] at this;exact this.symm
theorem tS:∀{P P':xtF} {p a b b':Nat},xCI p a P L.length b->xCI p a P' L.length b'->P=P'
 | [],[],_,_,_,_,_,_=>rfl
 | [],x::P',p,a,b,b',h,h'=>by have:=xb0;have:=h'.1;lia
 |x::P,[],p,a,b,b',h,h'=>by have:=h'.1;have:=xb0;lia
 |x::P,x'::P',p,a,b,b',h,h'=>by
  obtain⟨_,e,h⟩:=h;obtain⟨_,e',h'⟩:=h';subst e;subst e';rw [tS h h']
theorem lW (a)(Q):∀n,(xqt n (λ q=>xDL (a::Q))).sum=(xqt n (λ q=>xCY)).sum+xLn (a<n) 1
 |0=>rfl
 |n+1=>by
  rw [KS,EO,ID,EO,ID,lW a Q n];simp only [Gp,K9,Jc,List.sum_nil,JZ];by_cases e:a=n
  ·subst e;rw [ES xli,E5 xna];simp;exact xcK [_,_] xb1 xeF [_,_] xeF xb1
  ·have:Μ (a==n):=by simp [e]
   rw [this];by_cases l:a<n
   ·have l2:a<n+1:=HY l;rw [E5 l,E5 l2];simp;exact xcK [_,_] xmQ xeF [_,_] xeF xmQ
   ·have l2:¬a<n+1:=On (e (xQ9 z (Ll.mp l)))
    rw [ES l,ES l2];simp
def By (Q){q:Nat}(h:xkD):xCY∈xhC:=by
 unfold cn;exact Hk.mpr (xee q (Jo.mpr h))
def vL (h:b∈xhC):∃q,b=xCY:=by
 unfold cn at h;show xPs q e h;show xaj q e.symm
theorem yf:∀Q:Fr,(xhC).sum≤Q.length
 | []=>by
  have:∀n,(xqt n (λ q=>xDL ([]:Fr))).sum=0:=λ n=>by
   induction n with
   |zero=>rfl
   |succ n ih=>rw [KS,EO,ID,ih];rfl
  show xXx (λ q=>xDL ([]:Fr))≤0;show LE this Tl
 |a::Q=>by
  have ih:=yf Q;have e:=lW a Q 272;have ih':xXx (λ q=>xCY)≤Q.length:=ih;show xXx (λ q=>xDL (a::Q))≤Q.length+1;rw [e]
  split<;>omega
theorem qc:∀C:Fr,xcy (xWy b (0<b)) C.sum
 | []=>Tl
 |a::C=>by
  have ih:=qc C;rw [Lv,Jc];by_cases h:0<a
  ·rw [E5 (EJ h),EV];exact(xae [_,_,_] (xag xdR) xcc NE Φ ih h)
  ·show xlq (by show xuY) (Jv ih)
def xH (C):xWy b (0<b)=(S.pos C).map (S.cw C):=by
 have e:C=xGU (S.cw C):=by
  apply Hg;intro i;rw [FA];by_cases h:xJG i
  ·rw [JT h,EI h];simp [S.cw,E9,h]
  ·rw [FE (FS h),FE (by simp;exact FS h)];rfl
 conv=>lhs;rw [e]
 show xak KR
def ww (Q){q:Nat}(h:xkD):xPH q=xCY:=by
 simp [S.cw,cn,E9,h]
seal cn
def Dd {Q:Fr}(hq:∀q∈Q,xkD)(h1:Ν Q.length)(MG:xfY Q.length):(xX3 xhC)/\xO9 xhC/\xFu xhC/\(∃b∈xhC,0<b)/\Ν 6/\xfq 6/\xcy (xx6 xhC b (0<b)) (2^6)/\xFu xqZ/\xO9 xqZ/\xcy xqZ (2^6):=by
 have hf:=qc xhC;have hs:=yf Q;have hp:xaI xqZ (xx6 xhC b (0<b)).length:=by rw [xH,EA]
 have h0:∃b∈xhC,0<b:=by
  show xcb a ha (KD h1) (xbu (By Q (hq a ha)) (J4.mpr ha))
 refine⟨xfi,by show xqb dw,by show xqb dw,h0,Z9,Z9,Z4,(xgQ [_,_,_,_] xJi (xo7 xPz) IO 300 MG (xbJ hf hs (EC hp))),?_,Z4⟩
 ·show xc4 q (vL hb);show xaE (xZv q (l:=Q)) (xbl [_,_] xaR (xff 64) IO 1000000 MG this)
 ·rw [hp];show xbp b hb Vu h0 (List.length_pos_iff.mpr (List.ne_nil_of_mem (HI.mpr ⟨hb,EJ Vu⟩)))
def Vx (Q:Fr)(L:Fr):Prop:=∃ln:xbz,S.VH xhC 6 ln/\L=xJC/\PM.T8 xqZ xPH 6 ln
theorem Vx.uniq {Q L L':Fr}(h:Vx Q L)(h':Vx Q L'):L=L':=by
 obtain⟨ln,h1,rfl,_⟩:=h;obtain⟨ln',h2,rfl,_⟩:=h';rw [h1.uniq h2]
def Vf:q∈xqZ<->xkD/\q∈Q:=by
 unfold S.pos;rw [HI,Jo,dw];constructor
 ·rintro⟨h1,h2⟩;show π (ww Q h1) h2 ⟨h1,J4.mp (EL h2)⟩
 ·rintro⟨h1,h2⟩;show xgk ⟨h1,EJ ?_⟩ (ww Q h1) (J4.mpr h2)
def Vx.ok (hq:∀q∈Q,xkD)(h1:Ν Q.length)(h:Vx Q L):xye/\xiM/\(xqp L 6)/\∀q∈Q,xzU:=by
 obtain⟨ln,_,rfl,b1,b2,b3⟩:=h;have get:∀q,xkD->(xJC).getD q 0=ln q:=λ q hq=>by simp [E9,hq]
 have le6:∀q,ln q≤6:=λ q=>by
  by_cases m:q∈xqZ
  ·exact(b1 q m).2
  ·show xqb (b2 q m)
 have six:xqp xJC 6:=xbo (by
  show xPs q rfl hb;exact le6 q)
 have P4:∀q∈Q,Ν (ln q):=λ q m=>(b1 q (Vf.mpr ⟨hq q m,m⟩)).1
 have ek:C9.krf 6 xJC=(xhJ xqZ p (2^(6-xAa))).sum:=by
  unfold C9.krf S.pos;rw [KR,GQ,dw];have:xBL 272 ((xf4 l (0<l))∘ln)=xBL 272 (xf4 p (0<xPH p)):=by
   refine List.filter_congr (P3 q Vp)
   have QE:=Jo.mp Vp;show xfK 0 (ln q)=xfK 0 (xPH q);rw [ww Q QE];by_cases m:q∈Q
   ·rw [xKO (0<ln q) (P4 q m),EJ (J4.mpr m)]
   ·have z:=b2 q (On (m (Vf.mp z).2));rw [z,List.count_eq_zero.mpr m]
  show xak this
 refine⟨⟨Z6,Z6,λ l hl=>xdj (six l hl),?_,?_⟩,Z6,six,λ q m=>by show LE (get q (hq q m)) (P4 q m)⟩
 ·show xcb a ha (KD h1) ⟨ln a,Hk.mpr (xee a (Jo.mpr (hq a ha))),P4 a ha⟩
 ·rw [C9.Xq (m:=6) Z9 _ six,ek];have:2^(12-6)*(xhJ xqZ p (2^(6-xAa))).sum≤2^(12-6)*2^6:=EH _ b3;exact this
def Vx.tok (g:GR W Pp)(h1:xNG)(h:Vx xHX L):xF8:=by
 have hq:∀q∈xHX,xkD:=λ q hq=>by
  show xeB x hx (Hk.mp hq);obtain⟨_,gx⟩:=g.all x hx;exact ye gx
 show xbq a b c d (h.ok hq (by show xaT h1)) ⟨a,b,c,λ x hx=>d _ (Hk.mpr (xee x hx))⟩
universe K30
namespace K30
open PySem L2 QQ W17 W16 BP
seal PE PA PS PSs PT PW PG PI
def xh {pos:Pos}(h:∃t,xuQ=xcz c)(hg:xka)(hd:xgf (x==xhu)):xuJ xt5 xIm:=by
 show xcb t h h (aD hg h (xcM t) hd)
structure Shs (K:Frag)(mg:Α):Prop where
 X:xbN
 whole:xMf
 arewhole:xWB cD Jab
 things:Wp "are_of_things" gs xtH
 need:Wp "need_shares" tV Jam
 weight:Wp "weight_of" im xx3
 pairs:Wp "in_pairs" kz xCv
 light:Wp "lightest_bundles" m8 xHf
 lengths:∃f fd,S.FnL K mg "lengths_of" j7 Jam f fd
inductive OZ (vs:M2) (H:Hp) (Q:VK) (Ml:XK):Prop
 |mk (t:LV) (x:Pc) (h0:vs=[xgR]) (h1:H t=xQm x) (h2:xn2 (th x)):OZ vs H Q Ml
def uA:ST xyf xyf kj:=Os
def qT (F:Δ "thing_of" kj xyf)(T:xbN):xdl xyf OZ:=by
 show xau uA (λ L9 A outer s H vs Q E hr h=>?_);show xeE t x ht k h;refine xca (xjM (xqq xPT de (xbh xPT)) (xdz (xbv (xh T.first Z7) xPT) (xh T.least Z7)))
 cases x with
 |sg s=>
  refine⟨_,rfl,t,_,_,_,rfl,rfl,xq9,xev,rfl,_,rfl,xzh xdT h⟩;exact⟨_,rfl,t,_,_,_,rfl,rfl,xq9,xdk,k⟩
 |cp b z=>
  show ρ ⟨_,rfl,t,_,_,_,rfl,rfl,xq9,xev,rfl,_,rfl,xE4 xb5 wq xfA⟩ ⟨_,rfl,t,_,_,_,rfl,rfl,xq9,xxe 2,_,_,rfl,rfl,_,_,rfl,rfl,?_⟩;have e:XV 256+LT z-3=LT (253+z):=Z5
  try dsimp only
  show xfs k
inductive SE (vs:M2) (H:Hp) (Q:VK) (Ml:XK):Prop
 |mk (a:LV) (Qs:Fr) (h0:vs=xbL) (h1:UF=XL (Qs.map vN)) (h2:(∀q∈Qs,xkD)) (h3:Ν Qs.length) (h4:xfY Qs.length) (h5:xie l LV L Fr (Ι->Κ->xaz=xpo->Vx Qs L->xat)):SE vs H Q Ml
def Om:ST ["things","counts","thing"] xOj iL:=Os
def Bq {Qs:Fr}(h:xaM Qs q)(hq:xkD):(Ρ (xHH i)).set q (xhg (xtq i q) 1)=Ρ (xHH (i+1)):=by
 have e1:∀A,Ρ (cn A)=xHx (λ p=>vN (A.count p)):=λ A=>by show xci cn GQ;rfl
 rw [e1,e1];refine S.set_range (f:=λ p=>xtq i p) (f':=λ p=>xtq (i+1) p) (xc5 p)
 show xtq (i+1) p=xtq i p+ xuk [q];rw [oO h,Iz]
def BU:xjn 272 xsH=Ρ (cn []):=by
 have e1:Ρ (cn [])=xHx (λ _=>xut):=by show xci cn GQ;rfl
 rw [e1,LL,HZ];generalize 272=n
 induction n with
 |zero=>rfl
 |succ n ih=>rw [Gm,Gu,ih,Gm];rfl
def pp (F:Δ "shares_of" iL xOj)(Y:Shs K mg):xam 34 xOj SE:=by
 obtain⟨T,⟨_,_,Wh⟩,⟨_,_,AW⟩,⟨_,_,Th⟩,⟨_,_,Ne⟩,⟨_,_,We⟩,⟨_,_,Pa⟩,⟨_,_,Li⟩,⟨_,_,Le⟩⟩:=Y;show xhU t6 B6 Le.d Om (λ L9 A outer st H vs Q E hr h=>?_) _;obtain⟨a,Qs,rfl,ha,hq,h1,MG,k⟩:=h;show xax (xa6 1 Om.nd (xwa ad (xh T.many Z7)) (xnc PP 2 Om.nd (ac (kb (xcD (xq2 No Ps)) (jB No Ps gh)))) (ci (S.Uc Le Ne Th AW Wh Li Pa We T) hr Z7 Le.m Le.kp B6 (xQT (a:=V.int 6) xbs) bf (xcw No))) (xdd (xen (by show xkB) l4 n4))
 have s4:=xa1 [xek] n4;have Sa:(xfS l4 [xek]) l4=XL xsH:=i';show xsV (xfS l4 [xek]) H4 ⟨l4,_,_,rfl,rfl,Sa,Z9,Z9,(by show xe7 (1*272)),xdB l5 n5⟩ g1;have s5:=xAn (xjn 272 xsH);have Wt:(xhb (xJU xJc xsH)) l5=xah (xHH 0):=by
  show LE i' (xyw z xU3 BU)
 have n05:Χ l5:=xIy s4;show xdg Xx (xef (xhb (xJU xJc xsH))) xNw (xhb (xJU xJc xsH)) H5;clear s5 s4 Sa;have RI:a≠l5:=ae ha n05;refine xdd (xvg a (Xx _ _ ha) (xn4 K a (Qs.map vN) (λ i σ H7=>∃v,σ=[xaQ,xFq,v]/\H7 l5=xah (xHH i)/\∀c o,xcd l5->H5 c=Id->H7 c=Id) (xpI none Wt (xXQ e)) (λ i σ H7 _ z9=>by show xtz kp z9 (Mm.of (xaX RI (Xx _ _ ha)))) ?_ ?_))
 ·clear g1;rintro i y σ H7 hi ⟨v,rfl,h7,kp⟩;show xlv q hqi hi;have hqn:=hq q (FO hqi);have hg:(Ρ (xHH i))[q]?=UV (xtq i q):=by
   unfold cn;rw [FA,FA,JT hqn];rfl
  have e2:LT (xtq i q)+1=xiH (xtq i q):=Kw _;refine⟨_,rfl,_,rfl,l5,_,_,_,rfl,rfl,Mm.of h7,ax hg,_,_,rfl,rfl,?_⟩
  try dsimp only
  show Uf e2 ⟨_,rfl,_,rfl,l5,_,_,q,rfl,rfl,h7,S.ixN_nat (by rw [EA,dw];exact hqn),xwv,rfl,?_,λ c o n e=>?_⟩
  ·rw [i',Bq hqi hqn]
  ·show xjl (xaX n e)
 ·rintro σ H7 ⟨v,rfl,h7,kp⟩;rw [EA,Fs] at h7;show xcC xaa;have s07:xef H7:=λ c o e=>xaX (xmX n05) (Xx _ _ e)
  obtain⟨q1,q2,q3,q4,q5,q6,q7,q8,q9,q10⟩:=Dd hq h1 MG;show ρ ⟨_,rfl,l5,cn Qs,6,rfl,h7,q1,q2,q3,q4,q5,q6,q7,q8,q9,q10,λ l ln H8 nl s8 hl hb hln=>?_⟩ (xfp xJC H8 (xoG s07) (s07.trans s8) ?_ (xc8 ln hln hb));rw [hl,dw,GQ];rfl
structure Cds (K:Frag)(mg:Α)(D C:LV):Prop where
 M:xLv C
def uJ:ST xjA xjA jM:=Os
def vJ:ST xJ7 xJ7 kM:=Os
structure XN (K:Frag)(mg:Α)(B D C:LV):Prop where
 Y:Wys K mg
 Zb:Yi K mg B
 Sh:Shs K mg
 Cd:Cds K mg D C
 thingof:Wp "thing_of" kj xyf
 sharesof:Wp "shares_of" iL xOj
 needtab:Wp "need_table" fk Jaf
 again:Wp "again_from" mf xIr
 puttab:Wp "put_table" iJ xQX
inductive SH (B:LV) (vs:M2) (H:Hp) (Q:VK) (Ml:XK):Prop
 |mk (o p d a:LV) (x:V) (T W:Fr) (Pp:xfa) (N T0:Nat) (h0:vs=[xgX,xbV,Γ,x]) (h1:xn7 B T0) (h2:xFt) (h3:UF=xcf) (h4:xfd T) (h5:xHY) (h6:xvs) (h7:xjb) (h8:xAL) (h9:xo4) (Ye:xvQ (W++T) Pp W T) (PZ:∀(L:Fr) (It:xtF) (b:Nat) (H':Hp),Vx xHX L->xCI 0 0 It 272 b->xlr B H' (xkL++xuH) N (T0+tots (xkL++xuH))->xdH (∀c o,ω=Id->xaD->xgs->xaY=Id)):SH B vs H Q Ml
def ND:ST ["self","bits","text","before","pieces","lengths","codes","piece","pair"] Jac mI:=Os
def Es:xAx xyf:=Z8
def Db:TE:=sP OZ [] E0 (lz xu3 kU)
def m5 (h:xwE Pp q)(VN:p<q):xNG:=by
 cases Pp with
 |nil=>have:p=q:=h;exact(xae [_,_,_] xPI xcc xaH IO VN xgE)
 |cons x Pp=>simp
def vx (F:xSx "ShareWay.tell" mI)(A0:XN K mg B D C):xam 35 Jac (SH B):=by
 obtain⟨⟨Vi,⟨_,_,Po⟩,⟨_,_,Na⟩,⟨_,_,Ns⟩⟩,Z,Sh,Cd,⟨_,_,To⟩,⟨_,_,So⟩,⟨_,_,Nt⟩,⟨_,_,Ag⟩,⟨_,_,Pt⟩⟩:=A0;show xbO Nr Vi.needrow Nw Vi.needwin;have X:=Vi.R.X;show xhe GTh (qT (P:=P) (w:=w) (base:=base) To X) Nl Cd.M.need Co Cd.M.cof;show xhe GC (K30.C.Qz (P:=P) (w:=w) (base:=base) Co Nl Cd.M.Y) Wh Z.R.whole Sz Z.needsize;show xgA O Z.ones Pu Z.put M Z.move;have TB:=Z.T;have GP:=xJ6 (P:=P) (w:=w) base Pu.F Sz Wh O M TB X;show xao ND (λ L9 A outer st H vs Q E hr h=>?_);obtain⟨o,p,d,a,x,T,W,Pp,N,T0,rfl,hB,Rw,ha,OO,h1,MG,hx,Wk,X',hwk,k⟩:=h;have Mw:xbg:=Ty;have NO:xnI:=Ty;have V6:xbr 7:=Ty;have Yr:xbr 32:=Ty;have T3:xbr 33:=Ty;show xgt (xej (xcQ (dj Ns Na Nw Nr Vi.R) V6 Ns Ps TD) (xdD 4 ND.nd (ci (i6 Po Vi) Yr Z7 Po.m Po.kp Po.b .nil bf (xfy Ps TD)) 5 ND.nd (xd2 (pp So Sh) So (yU (N:=xyf) (g:=xhV) (te:=Db) rfl rfl Z8 Z8 Z8 (bS χ) (λ fp s H=>xA1 Es) (λ fp s H=>xl5 GTh To PP))) (xcl 6 ND.nd (xcO GC T3 Co xa9) (aC (xcQ (Tb.Ts Pt Nt Ag Z) Yr Pt No xa9)) (ac (xnc χ 7 ND.nd (xcl 8 ND.nd (xq2 xco (xl5 GTh To xgi)) (aC (xYy GP NO (xfy (xqX xjN) (xqX xjN)))) (xg3 bd (xqX xgi) de (aC (xWN (xqX xgi))) az))))))) ⟨_,rfl,_,rfl,a,x,T,W,rfl,ha,OO,h1,MG,hx,Wk,X',λ l0 H0 s0 n0 Uq=>xaa⟩;show xjh ⟨_,rfl,_,rfl,a,x,W,T,rfl,xSC,xVL,Wk,OO,xdj X',xdj MG,λ l P' H1 s01 YH ⟨ts,hl,Rp⟩ Yo=>xaa⟩;have eP:P'=Pp:=d9 Yo hwk;subst eP;have s1:=xUI;have nl:Ι:=xkU YH;show xeP gr WJ RW (dt Wk OO hwk) Y0 (Ν P'.length) (m5 hwk (by show xhY (Ha h1)));clear s0 s01 Uq YH Yo;show ρ (xdd (xvg l hl (P3 l2 nl2))) (zZ (g:=xhV) (te:=Db) (K:=K) (a:=l) (l:=l2) (xs:=xdr) (n:=1) (λ i ys H2=>ys=Ρ ((xxk).map th)/\H2 l2=xeM/\xFf H2)
  (xr1 i' (aj nl2)) (λ i ys H2 _ z9=>by show xCr sm;exact xIo hl) ?_ ?_ ?_ ?_)
 ·clear g1;rintro i y ys σ H2 hi ⟨rfl,Sd,sm⟩ hσ;show xeB t ht (jh hi);show xhi u0 u0 (σ=[u0]) (match σ,hσ with| [u0],_=>xcM u0)
  have Ny:i<P'.length:=by show xba xvi (xdN ht)
  have XF:xaM P' P'[i]:=xva;refine⟨_,rfl,t,P'[i],rfl,xhK (Rp.2 i t _ ht XF),Sd,bz (by rw [EA,EA,ER];exact xDV (EF RW (xdj MG))),rfl,?_,i',xGm⟩
  ·rw [oO XF,EO,EO];rfl
  ·show xgr nl2 xuB
 rotate_left
 ·exact λ x σ H A B h z=>xh7
 ·rintro σ H A B h ⟨v,e1,t,x,e2,e3,z⟩;exact⟨v,e1,t,x,e2,e3,xh7⟩
 rintro ys H2 ⟨rfl,Sd,NJ⟩;rw [EA,xvi,Fs] at Sd;have hq:∀q∈P'.map th,xkD:=λ q hq=>by
  show xeB x hx (Hk.mp hq);obtain⟨_,gx⟩:=gr.all x hx;exact ye gx
 show xcC ⟨l2,P'.map th,rfl,Sd,hq,by show xaT Y0,by show xaT (EF RW MG),λ l3 L H3 nl3 s23 h33 hsh=>xaa⟩;have tok:=hsh.tok gr Y0;have VJ:=NJ.trans s23;have nl31:xhF l3:=none_of NJ nl3;show xjh (xc0 _ L (xpI l3 h33 (xbo (xdj (tok.six b hb)))) tok.good (λ l4 xs H4 nl4 s34 Sa Wg=>xaa));have Uh:=VJ.trans s34;have VU:=hB.keep λ c o e _=>xBh xcs
 show xph h43 (s34 _ _ h33) dxp rp kp' X2 VU.ob;obtain⟨dxd,Bd,rd,kd,_,X8,_⟩:=id VU;have nl3p:xcF l3:=aH h43 X2 (by show Υ);have nl3d:l3≠d:=(cU ((xDg).imp (λ _ e=>xcs)) nl31).symm;have nl4p:xcF l4:=aH Sa X2 (by show Υ);have nl4d:l4≠d:=(cU ((xDg).imp (λ _ e=>VJ _ _ xcs)) nl4).symm;have Oa:xsC:=xv3 xPf;have PX:xlZ:=xv3 xDg;show xjh ⟨_,rfl,_,rfl,p,d,l3,N,T0,L,rfl,VU,Rw,h43,tok.len,tok.six,nl3d,λ It b H5 hit hB5 QK=>xaa⟩;have WO:=uo tok.len hit;have Vo:=jy 0 (x0V hit);rw [WO,tok.len] at Vo;have h5l:=xl0 (xBh hl) Oa PX;have h54:=xl0 Sa nl4p nl4d;have Yp:∀t ys,H4 t=xvm->H5 t=xvm:=λ t ys e=>xl0 e (xAA X2 (by show Υ)) (xAA X8 (by show Υ))
 have hcl5:=Wg.keep Yp;show xph hts5 ((Rp.keep λ a xs e=>xBh e).keep Yp) dxp5 rp5 kp5' hpp5 hB5.ob;obtain⟨dxd5,Bd5,rd5,kd5,_,hdd5,_⟩:=id hB5;refine xvg l h5l (xn4 K l xdr (λ i σ H6=>∃v7 v8,σ=[xAB,xfX,xaQ,xas,xeu,xK7,xap l4,v7,v8]/\xlr B H6 (xoW xxk) (cL xkL N) (T0+xrn+xLA)/\∀c o,H5 c=Id->xaD->xgs->H6 c=Id) (xbI none none hB5 (λ c o e _ _=>e)) (λ i σ H6 _ z9=>by show xOb kp z9 (xQZ h5l Oa PX)) ?_ ?_)
 ·rintro i y σ H6 hi ⟨v7,v8,rfl,hB6,kp⟩;show xeB t ht (jh hi);have Ny:i<P'.length:=by show xba xvi (xdN ht)
  have XF:xaM P' P'[i]:=xva;have Tz:=hts5.2 i t _ ht XF;have hga:=gr.at XF;have hmem:P'[i]∈P':=Hc Ny;have XR:xcF t:=xFn hpp5 (by show Υ);have XS:t≠d:=xFn hdd5 (by show Υ);have htt6:=xaX Tz XR XS;have h64':=xaX h54 nl4p nl4d;show xjP e1 e2 e3 (tok.at hmem hga) OS (C10.OL tok.good e1 e2);have hlx:xmo (th P'[i]):=by show LE hcl5.1 (xdN OS)
  have hxi:xbS xs (th P'[i]) xs[th P'[i]]:=EI hlx;obtain⟨tc,etc,htc⟩:K30.C.OT H5 xs[th P'[i]] (some (xtu (th P'[i]) (xmW P'[i]),xmW P'[i])):=hcl5.2 _ _ _ hxi OS;rw [etc] at hxi;have ntcp:xcF tc:=aH htc hpp5 (by show Υ);have ntcd:tc≠d:=aH htc hdd5 (by show Υ);have htc6:=xaX htc ntcp ntcd;show xaK hto2 (mj tok.six xxk) ER hto2;show xph hcl2 (C10.Uu tok.good e1 e2) dx r kk ZG hB6.ob;rw [oO XF,vK,bZ,aV,BY];show xoI g2 ⟨_,rfl,_,rfl,t,P'[i],rfl,htt6,l4,_,_,_,rfl,rfl,Mm.of h64',ax hxi,xcX⟩ g2 g2 ⟨_,rfl,p,dx,_,rfl,ZG,xja,_,rfl,tc,_,_,_,rfl,rfl,MT.of htc6,xev,_,rfl,tc,_,_,_,rfl,rfl,MT.of htc6,xdk,p,d,_,_,_,_,rfl,hB6,xbl [_,_,_,_,_,_] (xag (xFW (xf1 14 xdL (xaV (xa2 (.m 14 xfF)))))) (xzQ 14 64 (xFW (xkZ 3 272 (xf1 14 xfF (.m 14 xdL))))) xx5 4000 Rw (xbJ (xlB MG) (xlB RW) (xbJ Vo hto2 (xlB xfR))),Z5,hcl2,λ H7 hB7 YK=>xcX⟩ g2;show xph htt7 (YK _ _ htt6 XR XS) dx7 r7 kk7 hp7 hB7.ob;generalize P'[i]=xx at*;cases xx with
  |sg s=>
   show ρ ⟨_,rfl,t,_,_,_,rfl,rfl,xVO,xev,rfl,_,rfl,xE4 xb5 (On (wq z.symm)) xfA⟩ (xnV ?_ (λ c o e n1 n2=>YK _ _ xUz n1 n2));have e5:T0+xrn+(xLA+xJa L xq4)=T0+xrn+xLA+xmW xq4:=by
    have:xJa L xq4=xmW xq4:=rfl;exact xcY (xaf [_,_,_,_,_] xaS xdL xP8 xP2 xyc) [_,_,_,_,_] xdL xaS xP2 xP8 xgE
   show LE e5 hB7
  |cp bk z=>
   obtain⟨g1,g2,g3,g4,g5⟩:Ν bk/\bk≤255/\bk≤_/\xw6/\xwN:=hga;show xnm ⟨_,rfl,t,_,_,_,rfl,rfl,xVO,xev,rfl,_,rfl,xzh xdT h⟩ ⟨_,rfl,p,dx7,_,rfl,hp7,xja,_,rfl,t,_,_,_,rfl,rfl,xVO,xdk,p,d,_,_,bk,8,rfl,hB7,Z5,Z9,(by show bk<2^8;exact HE g2),Ε H8 hB8 kp8⟩ (xnV ?_ (λ c o e n1 n2=>kp8 _ _ (YK _ _ xUz n1 n2) n1 n2));have e5:T0+xrn+(xLA+xJa L xRS)=T0+xrn+xLA+xmW xRS+8:=by
    have:xJa L xRS=xmW xRS+8:=rfl;exact xcY (xaf [_,_,_,_,_] xaS (xeW 4 8) xP8 (xiD xP2) xyc) [_,_,_,_,_] (xeW 4 8) xaS (xiD xP2) xP8 xgE
   show LE e5 hB8
 ·rintro σ H6 ⟨v7,v8,rfl,hB6,kp⟩;rw [EA,xvi,Fs] at hB6;refine k L It b H6 hsh hit ?_ λ c o e n1 n2=>xaX (xl0 (xBh xcs) n1 n2) n1 n2
  rw [bZ,aV,<-FK];exact hB6
def zJ:Sp:=λ vs H Q _=>∃o,vs=[xgX]/\xku 3
def yM:xdW iX:=Os
def wV (F:xPL "ShareWay.number" iX):xh5 zJ:=by
 show xao yM (λ L9 A outer st H vs Q E hr h=>?_);show xbp o rfl k h (xbu xPV k)
def Nf:ST ["self","reader","count","before","signs","begin","end","codes","thing","back"] Jad mh:=Os
def p4 (T)(s):xGV (T++[s])=xnA++[(s,8)]:=by simp [pf]
inductive SI (vs:M2) (H:Hp) (Q:VK) (Ml:XK):Prop
 |mk (a:LV) (T:Fr) (h0:vs=xbL) (h1:UF=xcf) (h2:xvs) (h3:∀l ts H',Κ->Ι->xaz=xvn->QP H' ts xlc->xat):SI vs H Q Ml
def NY:ST ["signs","runs","begin","place"] xCZ iw:=Os
def ut (F:Δ "runs_of" iw xCZ)(T:xbN):xdl xCZ SI:=by
 show xau NY (λ L9 A outer st H vs Q E hr h=>?_);show xgW a S rfl ha MG k;show xgt (xaF 1 NY.nd xe8 (xa6 2 NY.nd ad (xg0 (xXS Z7 (xfy ad (xcD xmP))) 3 NY.nd (ac (aF (xTs (xa5 bd TD xmP) (xa5 kJ (xjX TD) (xjX Ps)))
    (xej (xw2 No (xo2 (xjX Ps) (xdz TD Ps))) (xmd NY.nd TD)) az))) No)) (xju (xdB l nl));have s0:=xLD;show xnW;refine xbT
 have en:xuu (xlQ (xKH+1) 1):=by show xpO
 show xcr ⟨_,rfl,a,_,rfl,xab xSC,_,_,rfl,rfl,1,_,rfl,⟨Z5,Z5,by show xpO,by show xpO⟩,?_⟩ en (xnN 1 S.length (λ i σ H2=>∃b rs ts v3,σ=[xaQ,xeu,xhl,v3]/\xjZ/\xh3=xvn/\QP H2 ts rs/\rs++rl (S.drop b)=rl S/\b≤i/\rs.length≤i/\(xuu i->xuu b)/\∀j,b≤j->j≤i->xiw j->xfZ S=S[b]?) ⟨0,[],[],none,rfl,s0,i',.nil,rfl,Tl,Tl,On z,λ j h1 h2 _=>by rw [Nat.le_zero.mp h2]⟩ ?_ ?_)
 ·clear g1;rintro i σ H2 hi ⟨b,rs,ts,v3,rfl,sm,MD,Rz,RQ,ZP,hri,Yz,RI⟩;have hbS:xiw b:=Fq ZP hi;have Of:=xhK ha;have ep:xcv+xhT=xgq:=(xid xfL NE NE xfL);have QD:=Rz.len;have Sb:xbS S b S[b]:=EI hbS;have J:(xvT S[i+1]? S[b])->∀t,xac (H2 t)->∃b' rs ts' v3,[xqN a,xqN l,xA9,xA9]=[xqN a,xqN l,UV b',v3]/\xef (xdw (xj7 t [vN S[b],vN (i+1-b)]) (xtV (ts++[t])))/\(xdw (xj7 t [vN S[b],vN (i+1-b)]) (xtV (ts++[t]))) l=XL (ts'.map V.ref)/\QP (xdw (xj7 t [vN S[b],vN (i+1-b)]) (xtV (ts++[t]))) ts' rs/\rs++rl (S.drop b')=rl S/\b'≤i+1/\rs.length≤i+1/\(xuu (i+1)->xuu b')/\∀j,b'≤j->j≤i+1->xiw j->xfZ S=S[b']?:=by
   intro Oe t nt;have st:=xjF [vN S[b],vN (i+1-b)] nt;have nlt:t≠l:=xe0 MD nt;refine⟨i+1,rs++[(S[b],i+1-b)],ts++[t],xA9,rfl,xGm,i',?_,?_,Tl,by rw [EB];show rs.length+1≤i+1;exact Gb hri 1,On z,λ j h1 h2 _=>by rw [Ω j (i+1) (Ih (ED h1 h2))]⟩
   ·show xqg (xhc xuB)
   ·refine((Rz.mono st).keep (xdm c xs)).app (xmA ?_)
    ·show υ (On (by show xbm xRy e e)) e
    ·rw [ai nlt,i']
   ·rw [EE,<-RQ,yp (b:=b) (e:=i+1) (a:=S[b]) (HE ZP) xe5 (λ j h1 h2=>by rw [RI j h1 (F9 h2) (EM h2 hi),Sb]) Oe];rfl
  show Uf ep ⟨_,rfl,_,rfl,a,_,rfl,xab Of,rfl,_,rfl,xc9 h h⟩
  ·have he:xuu (i+1):=by
    have:=xb5;injection this with this
    show xxh EA (KN.mp this)
   refine cb ⟨_,rfl,xhj MD,_,rfl,_,rfl,a,_,_,_,rfl,rfl,xDj,xmV hbS,_,rfl,_,rfl,_,_,rfl,rfl,(by show xdn),P3 t nt⟩;have e2:xgq-xd4=LT (i+1-b):=xmy (Gr ZP)
   try dsimp only at nt
   try dsimp only
   show Uf e2 ⟨l,_,_,rfl,rfl,xRk _ _ MD,bz (by show xaT (xqf [_,_,_,_] (xgg xtS) (xo7 xui) IO MG (xbJ hi hri xue))),_,rfl,?_⟩;have z:=J (by rw [he,FE Tl];exact xjf) t nt;show π EO z z
  ·have he:xiw (i+1):=by
    have h':¬(SL (xIH (V.int xgq) xKH)):=h;show xbx (i+1) S.length q q
    ·exact q
    ·show xjQ (by rw [EA,Ω (i+1) S.length (ED hi q)]) h'
   refine⟨_,rfl,_,rfl,a,_,_,_,rfl,rfl,xDj,xmV he,_,rfl,_,rfl,a,_,_,_,rfl,rfl,xDj,xmV hbS,rfl,_,rfl,?_⟩;by_cases Oe:S[i+1]=S[b]
   ·rw [Oe,xdT];refine aS ⟨b,rs,ts,_,rfl,sm,MD,Rz,RQ,Gr ZP,xbn [_,_] IO Sc IO Β hri,On (xfU (xfk NE IO hbS) [_,_,_] (xaV (xgZ xyB xNu)) (xo7 (xgZ Sc (xDT xht))) Sc MG (Ez (xFI he) (xk2 64 z.symm))),λ j h1 h2 h3=>?_⟩;show xbx i j q q
    ·rw [show j=i+1 by exact xcY (xaf [_,_] IO Β IO Β h2) [_,_] Β IO Β IO q,EI he,Sb,Oe]
    ·exact RI j h1 q h3
   ·show Uf (FZ (On (Oe (MU.mp z)))) (cb ⟨_,rfl,xhj MD,_,rfl,_,rfl,a,_,_,_,rfl,rfl,xDj,xmV hbS,_,rfl,_,rfl,_,_,rfl,rfl,(by show xdn),P3 t nt⟩);have e2:xgq-xd4=LT (i+1-b):=xmy (Gr ZP)
    try dsimp only at nt
    try dsimp only
    show Uf e2 ⟨l,_,_,rfl,rfl,xRk _ _ MD,bz (by show xaT (xqf [_,_,_,_] (xgg xtS) (xo7 xui) IO MG (xbJ hi hri xue))),_,rfl,?_⟩;have z:=J (by show LE (EI he) (On (Oe (Fx z)))) t nt;show π EO z z
 ·rintro σ H2 ⟨b,rs,ts,v3,rfl,sm,MD,Rz,RQ,_,_,Yz,_⟩;rw [Yz rfl,Lx,AZ,Fv] at RQ;show π RQ Rz (xEn (xfp ts H2 sm nl MD Rz))
def Ec (u:Bool):Int:=xLn u 1
def qk (u:Bool):Sp:=λ vs H Q _=>∃o:LV,vs=[xgX]/\xku (Ec u)
def pS:xdW gD:=Os
def pd:xdW gL:=Os
def oy (F:xPL "RawWay.number" gD):xh5 (qk false):=by
 show xao pS (λ L9 A outer st H vs Q E hr h=>?_);show xbp o rfl k h (xbu xPV k)
def oz (F:xPL "RunWay.number" gL):xh5 (qk true):=by
 show xao pd (λ L9 A outer st H vs Q E hr h=>?_);show xbp o rfl k h (xbu xPV k)
inductive Ua (u:Bool) (B:LV) (vs:M2) (H:Hp) (Q:VK) (Ml:XK):Prop
 |mk (o p d a:LV) (x:V) (T W:Fr) (N T0:Nat) (h0:vs=[xgX,xbV,Γ,x]) (h1:xn7 B T0) (h2:xFt) (h3:UF=xcf) (h4:xfd T) (h5:xHY) (h6:xvs) (h7:xjb) (h8:xAL) (h9:xo4) (Ye:xez (xlr B H' (pf u T) N (T0+tots (pf u T))->xdH (∀c o,ω=Id->xaD->xgs->xaY=Id))):Ua u B vs H Q Ml
def Rg:ST ["self","bits","text","before","sign"] Jac jK:=Os
def rQ (F:xSx "RawWay.tell" jK)(Y:Wys K mg)(Z:Yi K mg B):xam 8 Jac (Ua false B):=by
 show xhe R Y.V.R Nr Y.V.needrow Nw Y.V.needwin;show xbO Na Y.needahead Ns Y.needsigns;show xhe X R.X W Z.R.whole S Z.needsize;show xgA O Z.ones Pu Z.put M Z.move;have TB:=Z.T;have GP:=xJ6 (P:=P) (w:=w) base Pu.F S W O M TB X;show xao Rg (λ L9 A outer st H vs Q E hr h=>?_);obtain⟨o,p,d,a,x,T,W,N,T0,rfl,hB,Rw,ha,OO,h1,MG,hx,Wk,X',k⟩:=h;have NO:xnI:=Ty;show xax (ac (xnc (xcQ (dj Ns Na Nw Nr R) hr Ns Ps TD) 4 Rg.nd (xSm χ))) ⟨_,rfl,_,rfl,a,x,T,W,rfl,ha,OO,h1,MG,hx,Wk,X',λ l H1 s1 nl hl=>?_⟩;have Yd:=hB.keep λ c o e _=>xcs
 have Oa:xsC:=xv3 xPf;have PX:xlZ:=xv3 xDg;refine xGx l hl (xn4 K l xkJ (λ i σ H2=>∃v4,σ=[xAB,xfX,xaQ,xas,v4]/\xlr B H2 (xGV xU4) N (T0+tots (xGV xU4))/\∀c o,H1 c=Id->xaD->xgs->xh2=Id) (xpI none Yd (λ c o e _ _=>e)) (λ i σ H2 _ z9=>by show xtz kp z9 (xQZ hl Oa PX)) ?_ ?_)
 ·rintro i y σ H2 hi ⟨v4,rfl,Og,kp⟩;show xlv b hb hi;have Ny:i<T.length:=xdN hb;obtain⟨dx,r,kk,ME⟩:=Og.ob;show xaK Tz (cy xU4) ER Tz;show ρ ⟨_,rfl,p,dx,_,rfl,ME,xja,_,rfl,p,d,_,_,b,8,rfl,Og,xbl [_,_,_,_] (xag (xgm (xaV xrA))) (xtx (xir xPY (xln xbK))) Pi 4000 Rw (xnb (xpY MG) Tz (xpY xfR)),Z9,OO b (FO hb),Ε H3 QN ML⟩ (xgG rfl ?_ (λ c o e n1 n2=>xGa));rw [bO hb,p4,bZ,aV,<-FK];exact QN
 ·rintro σ H2 ⟨v4,rfl,Og,kp⟩;rw [EA,Fs] at Og;exact k H2 Og λ c o e n1 n2=>xaX xcs n1 n2
def O0:ST ["self","bits","text","before","sign","size"] Jac jR:=Os
def qJ {fR:LV}(F:xSx "RunWay.tell" jR)(Ro:xbD "runs_of" iw xCZ fR fdR)(Y:Wys K mg)(Z:Yi K mg B):xam 8 Jac (Ua true B):=by
 show xhe R Y.V.R Nr Y.V.needrow Nw Y.V.needwin;show xbO Na Y.needahead Ns Y.needsigns;show xhe X R.X W Z.R.whole S Z.needsize;show xgA O Z.ones Pu Z.put M Z.move;have TB:=Z.T;have GP:=xJ6 (P:=P) (w:=w) base Pu.F S W O M TB X;show xao O0 (λ L9 A outer st H vs Q E hr h=>?_);obtain⟨o,p,d,a,x,T,W,N,T0,rfl,hB,Rw,ha,OO,h1,MG,hx,Wk,X',k⟩:=h;have NO:xnI:=Ty;have Mw:xbg:=Ty;show xgY (ac (a9 EY rfl (bS (xl5 (ut Ro X) Ro (xcQ (dj Ns Na Nw Nr R) hr Ns Ps TD))) (xRR (xuK 4 O0.nd (xuK 5 O0.nd jv))) (xSn (xlu xa9) (xSm χ)))) ⟨_,rfl,_,rfl,a,x,T,W,rfl,ha,OO,h1,MG,hx,Wk,X',λ l0 H0 s0 n0 Uq=>?_⟩ ⟨l0,T,rfl,Uq,MG,λ l ts H1 s01 YH hl Rz=>?_⟩;have s1:=xUI;have nl:Ι:=xkU YH;have Yd:=hB.keep λ c o e _=>xcs
 have Oa:xsC:=xv3 xPf;have PX:xlZ:=xv3 xDg;have QD:=Rz.len;have hok:=wR MG OO;have hlen:xcy xlc 64:=by
  show xgb (gF (rs:=xlc) λ q hq=>(rC hq).1) my (EF this MG)
 obtain⟨dxp,rp,kp',X2⟩:=Yd.ob;obtain⟨dxd,Bd,rd,kd,_,X8,_⟩:=id Yd;refine xGx l hl (xn4 K l xdr (λ i σ H2=>∃v4 v5:xdu,σ=[xAB,xfX,xaQ,xas,v4,v5]/\xlr B H2 (pR xJZ) N (T0+xmH xJZ)/\∀c o,H1 c=Id->xaD->xgs->xh2=Id) (xbI none none Yd (λ c o e _ _=>e)) (λ i σ H2 _ z9=>by show xOb kp z9 (xQZ hl Oa PX)) ?_ ?_)
 ·rintro i y σ H2 hi ⟨v4,v5,rfl,Og,kp⟩;show xeB t ht (jh hi);show xeP q hq Tz (Rz.at ht) Ny (i<(xlc).length) (xdN hq);show xeP q1 q2 q3 (hok q (FO hq)) XR (xcF t) (xFn X2 (by show Υ));have XS:t≠d:=xFn X8 (by show Υ);show xph Vz (xaX Tz XR XS) dx r kk ME Og.ob;show xaK Vo (jo xJZ) ER Vo;refine⟨t,_,rfl,xXi,rfl,_,_,rfl,_,_,rfl,rfl,?_⟩;have e1:LT xb7-1=LT (xb7-1):=xmy q1;refine xmf g2 ⟨_,rfl,p,dx,_,rfl,ME,xja,_,rfl,_,_,rfl,rfl,?_⟩
  try dsimp only
  rw [e1];show xko ⟨p,d,_,_,xb7-1,6,rfl,Og,xbl [_,_,_,_] (xEO 14 (xR7 14)) (xzQ 14 64 (xFW (xkN 14))) Pi 4000 Rw (xnb (xlB hlen) Vo (xlB xfR)),Z9,(by show xb7-1<2^6;lia),λ H3 QN ML=>xcX⟩;obtain⟨O5,r3,kk3,M4⟩:=QN.ob;show ρ ⟨_,rfl,p,O5,_,rfl,M4,xja,_,rfl,p,d,_,_,xbt,8,rfl,QN,xbl [_,_,_,_] (xEO 14 (xR7 14)) (xzQ 14 64 (xFW (xkN 14))) (xpE 6) 4000 Rw (xnb (xlB hlen) Vo (xlB xfR)),Z9,(by show xbt<2^8;assumption),Ε H4 VU Pm⟩ (xnV ?_ (λ c o e n1 n2=>xkl xGa n1 n2));rw [oO hq,vp,bZ,aV];have e5:T0+(xmH xJZ+xmH [q])=T0+xmH xJZ+6+8:=by
   have:xmH [q]=14:=by show xak jo
   exact xcY (xim [_,_,_] WF 14 xfJ (xiD (xpE 6)) xyc) [_,_,_] (.n 14) WF (xiD (xpE 6)) xfJ xgE
  show LE e5 VU
 ·rintro σ H2 ⟨v4,v5,rfl,Og,kp⟩;rw [EA,QD,Fs] at Og;exact k H2 Og λ c o e n1 n2=>xaX xcs n1 n2
def yQ:Sp:=λ vs H Q _=>∃o,vs=[xgX]/\xku 2
def yV:xdW gi:=Os
def xR (F:xPL "CopyWay.number" gi):xh5 yQ:=by
 show xao yV (λ L9 A outer st H vs Q E hr h=>?_);show xbp o rfl k h (xbu xPV k)
inductive S6 (B:LV) (vs:M2) (H:Hp) (Q:VK) (Ml:XK):Prop
 |mk (o p d a:LV) (x:V) (T W:Fr) (Pp:xfa) (N T0:Nat) (h0:vs=[xgX,xbV,Γ,x]) (h1:xn7 B T0) (h2:xFt) (h3:UF=xcf) (h4:xfd T) (h5:xHY) (h6:xvs) (h7:xjb) (h8:xAL) (h9:xo4) (Ye:xvQ (W++T) Pp W T) (PZ:xez (xlr B H' (pP Pp) N (T0+xzP)->xdH (∀c o,ω=Id->xaD->xgs->xaY=Id))):S6 B vs H Q Ml
def Tg:ST ["self","bits","text","before","piece"] Jac iK:=Os
def uT (F:xSx "CopyWay.tell" iK)(Y:Wys K mg)(Z:Yi K mg B):xvo Jac (S6 B):=by
 obtain⟨Vi,⟨_,_,Po⟩,⟨_,_,Na⟩,⟨_,_,Ns⟩⟩:=Y;show xbO Nr Vi.needrow Nw Vi.needwin;show xhe X Vi.R.X W Z.R.whole S Z.needsize;show xgA O Z.ones Pu Z.put M Z.move;have TB:=Z.T;have GP:=xJ6 (P:=P) (w:=w) base Pu.F S W O M TB X;show xck tl hle X.least (F.ok Tg λ L9 A outer st H vs Q E hr h=>?_)
 intro _;obtain⟨o,p,d,a,x,T,W,Pp,N,T0,rfl,hB,Rw,ha,OO,h1,MG,hx,Wk,X',hwk,k⟩:=h;have NO:xnI:=Ty;have V6:xbr 7:=Ty;show xgt (xej (xcQ (dj Ns Na Nw Nr Vi.R) V6 Ns Ps TD) (ac (xnc (xwk (i6 Po Vi) Po.m Po.kp Po.b bf (xfy Ps TD)) 4 Tg.nd (ac (aF (xa5 bd xyD de) (xSn ad (xSm xyD)) (xSn ad (xSn xyD (xSm (xdz xyD xGe))))))))) ⟨_,rfl,_,rfl,a,x,T,W,rfl,ha,OO,h1,MG,hx,Wk,X',λ l0 H0 s0 n0 Uq=>xaa⟩;show xgM ⟨_,rfl,_,rfl,a,x,W,T,rfl,xSC,xVL,Wk,OO,(xlO 192 255 X'),(xlO 64 500 MG),λ l P' H1 s01 YH z9 Yo=>?_⟩ ts hl Rp z9;have eP:P'=Pp:=d9 Yo hwk;subst eP;have s1:=xUI;have nl:Ι:=xkU YH;have Yd:=hB.keep λ c o e _=>xcs
 have Oa:xsC:=xv3 xPf;have PX:xlZ:=xv3 xDg;obtain⟨gr,WJ,RW⟩:=dt Wk OO hwk;obtain⟨dxp,rp,kp',X2⟩:=Yd.ob;obtain⟨dxd,Bd,rd,kd,_,X8,_⟩:=id Yd;refine xGx l hl (xn4 K l xdr (λ i σ H2=>∃v4,σ=[xAB,xfX,xaQ,xas,v4]/\xlr B H2 (pP xxk) N (T0+xLh)/\∀c o,H1 c=Id->xaD->xgs->xh2=Id) (xpI none Yd (λ c o e _ _=>e)) (λ i σ H2 _ z9=>by show xtz kp z9 (xQZ hl Oa PX)) ?_ ?_)
 ·rintro i y σ H2 hi ⟨v4,rfl,Og,kp⟩;show xeB t ht (jh hi);have Ny:i<P'.length:=by show xba xvi (xdN ht)
  have XF:xaM P' P'[i]:=xva;have Tz:=Rp.2 i t _ ht XF;have hga:=gr.at XF;have XR:xcF t:=xFn X2 (by show Υ);have XS:t≠d:=xFn X8 (by show Υ);show xph Vz (xaX Tz XR XS) dx r kk ME Og.ob;show xaK Vo (mX xxk) ER Vo;rw [oO XF,ux,bZ,aV,Cf];generalize P'[i]=xx at*;cases xx with
  |sg s=>
   have hs:xch s:=hga;show xlx ⟨_,rfl,t,_,_,_,rfl,rfl,xXi,xev,rfl,_,rfl,xzh xdT h⟩ (xmf g2 ⟨_,rfl,p,dx,_,rfl,ME,xja,p,d,_,_,0,1,rfl,Og,xdj (Ez Rw (EF Vo xQW)),Z9,Z9,λ H3 QN ML=>xcX⟩) g2;show xph Yq (xct Vz XR XS) O5 r3 kk3 M4 QN.ob;show ρ ⟨_,rfl,p,O5,_,rfl,M4,xja,_,rfl,t,_,_,_,rfl,rfl,MT.of Yq,xdk,p,d,_,_,s,8,rfl,QN,xdj (HS (Ez Rw (EF Vo xQW))),Z9,hs,Ε H4 VU Pm⟩ (xgG rfl ?_ (λ c o e n1 n2=>xkl xGa n1 n2));have e5:T0+(xLh+xSB)=T0+xLh+1+8:=by
    have:xSB=9:=rfl;exact xcY (xim [_,_,_] WF 9 xfJ xJh xyc) [_,_,_] (.n 9) WF xJh xfJ xgE
   show LE e5 VU
  |cp b z=>
   obtain⟨g1,g2,g3,g4,g5⟩:xcJ/\xA7/\b≤_/\xw6/\xwN:=hga;show xlx ⟨_,rfl,t,_,_,_,rfl,rfl,xXi,xev,rfl,_,rfl,xE4 xb5 wq xfA⟩ (xmf q2 ⟨_,rfl,p,dx,_,rfl,ME,xja,p,d,_,_,1,1,rfl,Og,xdj (Ez Rw (EF Vo xQW)),Z9,Z9,λ H3 QN ML=>q2 _ _ ?_⟩) q2;show xph Yq (xct Vz XR XS) O5 r3 kk3 M4 QN.ob;show xol q2 ⟨_,rfl,p,O5,_,rfl,M4,xja,_,rfl,t,_,_,_,rfl,rfl,MT.of Yq,xdk,p,d,_,_,b,8,rfl,QN,xdj (HS (Ez Rw (EF Vo xQW))),Z9,(by show b<2^8;exact HE g2),λ H4 VU Pm=>q2 _ _ ?_⟩ q2;show xph htt4 (xkl Yq XR XS) dx4 r4 kk4 Um VU.ob;have e1:LT z-3=LT (z-3):=xmy g4;refine⟨_,rfl,p,dx4,_,rfl,Um,xja,_,rfl,t,_,_,_,rfl,rfl,MT.of htt4,xxe 2,_,_,rfl,rfl,?_⟩
   try dsimp only
   show xhO e1 ⟨p,d,_,_,z-3,4,rfl,VU,xbl [_,_,_,_,_] (xEO 13 (xyS 13 (xaV (.m 13 xdL)))) (xzQ 13 64 (xfM 13 (xf1 13 xdL (xoA 13)))) xJh 4000 Rw (xbJ (xK3 MG) (xK3 RW) (Ez Vo (xK3 xfR))),Z9,(by show z-3<2^4;lia),Ε H5 hB5 QK⟩ (xgG rfl ?_ (λ c o e n1 n2=>xl0 (xkl xGa n1 n2) n1 n2));have e5:T0+(xLh+xxz (xzA z))=T0+xLh+1+8+4:=by
    have:xxz (xzA z)=13:=rfl;exact xcY (xim [_,_,_] WF 13 xfJ (xa4 xJh 4) xyc) [_,_,_] (.n 13) WF (xa4 xJh 4) xfJ xgE
   show LE e5 hB5
 ·rintro σ H2 ⟨v4,rfl,Og,kp⟩;rw [EA,xvi,Fs] at Og;exact k H2 Og λ c o e n1 n2=>xaX xcs n1 n2
universe K30
namespace L2
open PySem PySem.Spec PySem.Calls PyProof.Rows QQ PySem.W
def Inv.grown {σ:St}{P c':LV}(I:SZ)(hP:xjw P xC7)(k:xUs P)(hc:xG9 c')
  (Pz:xtP c' oc) (hP':xtP P (tabObj (ps++more))):xA3 (upd (xe4 P (.tbl (ps++more))) c' (.frz oc xOs)):=by
 have hn:Χ c':=I.hok.fresh hc;have nPc:P≠c':=ae hP hn;have at_:∀{b} {u},xaN=xaP->b≠P->(upd (xe4 P (.tbl (ps++more))) c' (.frz oc xOs)) b=xaP:=λ {b u} e n=>by
  rw [xkt hn,xpK];exact e
 refine xV9 [] (xmx z z) (λ b o _ _ _ e n=>k b o (xe0 hP n) e) (λ b o _ _ _ e n=>xOw (k b o (xe0 hP n) e)) (λ b o _ e n=>?_) (λ b o _ e=>?_) (λ b xs e=>at_ e (xAA hP (by show Υ))) (λ b o u e=>at_ e (xAA hP (by show Υ))) (xdm b qs) (P3 m hm) (xdm b u) I.bare
 ·rw [ai (xyh xdV hc),ai (xe0 hP n)];exact n
 ·by_cases z:b=P
  ·show xcL z (xbR hP')
  ·show xaj o (k b o z e)
 ·by_cases z:b=P
  ·show xb3 z hP e e;show xaj more (by rw [ai nPc,i'])
  ·show xaj #[] (by show xb8 (at_ e z))
 ·show xfG o es ep ho r hm ⟨o,es,ep,xeR o (xe0 hP I.free) ho,r⟩
 ·by_cases z:b=c'
  ·show xb3 z i' e e;exact⟨Pz,oc,Pz⟩
  ·rw [ai z] at e;by_cases y:b=P
   ·show xb3 y i' e e;exact hP'
   ·rw [ai y] at e;refine xH4 b u e (λ c v hcb q=>k c v ?_ q) (λ c q=>at_ q (aH q hP (by show Υ))) (λ c xs q=>at_ q (aH q hP (by show Υ)))
    rcases hcb with hcb|hcb
    ·show LE hcb y
    ·exact aH hcb hP (by show Υ)
def k8 (P:LV)(H H':Hp):Prop:=∀c o,xcd P->ω=Id->xaY=Id
def Px (P:LV)(pos:Pos)(qual:Str)(H:Hp):Prop:=∃ps,xjw P xC7/\(ps=#[]\/∃c' oc vs t,ps=#[x0w,x0W,xtX]/\H c'=xtn oc xOs/\oc.data=xMG/\xbS vs 1 (.str qual t))
def Px.same (h:xFo P qual H)(s:Κ):xFo P qual H':=by
 show xbd ps e h h (Ψ ps (xft e));rcases h with h|⟨c',oc,vs,t,a,b,r⟩
 ·show xa8 h
 ·show xdG ⟨c',oc,vs,t,a,xft b,r⟩
def kT (pos)(v):codeAmong pos [x0w,x0W,v]=xaw:=by
 have:=codeAmong_snoc (c:=v) (pos:=pos) [] trivial rfl;show xmD
def x4 {L8:Η}{σ:St}(I:SZ)(T:xFo P xms H)
  (Ut:X.env.code=xDn) (C:xRo X.base P) (ZO:∃bm o,xZm=xap bm/\xWa bm/\xVy bm/\x0X=Id/\o.cls=xT9/\xWR/\xWO)
  (hdef:xZM X.env=([],[])) (Wg:xXA=pure clos)
  (h:∀(f c':LV) (pm VY:LW) (H':Hp) (s':LX),xlH->xzW f->xqF f (xQr xms body scope clos pm c' VY)->s'.heap.CodeRec xtX xms->
   (∃oc vs t,H' c'=xtn oc xOs/\oc.data=xMG/\xbS vs 1 (.str xms t))->xFo P xms H'->k8 P H H'->Q xeD s'):
  xjt (xqs (x0Y body scope pos)) Q E s:=by
 show xgM (kla_eval hdef ?_) ps hP T T;have hPo:xgN P (tabObj ps):=xhI P hP;have M:=I.ok.mod;have hg:s.heap.Ns mainGlobals X.mg:=M.glob.keeps I.bk;have hgP:mainGlobals≠P:=On (by
  obtain⟨o,es,ep,e,hd,_⟩:=hg;show xbm hPo e e;cases hd)
 have hb:s.heap.BuiltinsAt X.mg P:=by
  obtain⟨bm,o,b1,b2,b3,b4,b5,b6,b7⟩:=ZO;refine⟨bm,o,b1,b2,b3,xc5 z,I.bk _ _ b4,b5,b6,b7⟩;have:=I.bk _ _ b4;show xbm hPo this this;cases b5
 rcases T with rfl|⟨c',oc,vs,t,rfl,YW,d1,d2⟩
 ·refine kla_makeFunction Wg I.ok.glob hg Ut xZ7 hPo trivial rfl hgP hb λ c' VY h' tk hx Np Mb hrec htb=>?_
  obtain⟨c2,oc,vs,t,e2,Pz,d1,d2⟩:=hrec;cases e2;have I1:=I.grown (t':=tk) hP hx Np Pz htb;have hn:Χ c':=I.hok.fresh Np;have nPc:P≠c':=ae hP hn;have I2:=xML tk (h':=h'.push (xQr xms body scope clos xXL c' VY)) (λ b u e=>xd0)
  have hoc2:xk1 (h'.push (xQr xms body scope clos xXL c' VY)) c' oc:=xjD Pz;refine x0Z c' _ VY _ _ I2 xKI xg1 (xdc c' oc vs t hoc2 d1 d2) ⟨oc,vs,t,i',d1,d2⟩ (xbu (by rw [ai nPc,i']) (.inr ⟨c',oc,vs,t,Z6,i',d1,d2⟩)) λ b o n e=>?_
  rw [xkt hn,xpK];exact e
 ·have Pz:xgN c' oc:=(xhI _ YW).1;refine kla_makeFunctionHit Wg I.ok.glob hg Ut xZ7 hPo (by simp [TriplesOk,rawInt]) (kT pos _) hb λ VY h' tk hk hsz=>?_
  have I2:=I.kept (t':=tk) (h':=h'.push (xxb "function" (.func (xTF xms params body scope clos xXL xtX VY)))) λ b u e=>xjD (hk b u e)
  refine x0Z c' _ VY _ _ I2 (xMP hsz hsz) xg1 (xdc c' oc vs t (xjD (hk _ _ Pz)) d1 d2) ⟨oc,vs,t,YW,d1,d2⟩ (xbu hP (.inr (xdc c' oc vs t YW d1 d2))) λ b o n e=>e
noncomputable def qq (X:Cx) (N:xaO) (qual:Str) (scope:Scope) (cl:xzL) (f:LV) (cd:LW) (A:L3) (s:LX) (H:Hp):Cx where
 prog:=X.prog
 w:=X.w
 K:=X.K
 mg:=X.mg
 base:=X.base
 A:=A.deeper (xRr f cd cl)
 N:=N
 s₀:=s
 H₀:=H
 env:=xRr f cd cl
 outer:=X.stack
 stack:=xRr f cd cl::X.stack
 ex:=[]
 calm:=true
 fn:=λ _=>false
 pn:=[]
 xe:=xqr
structure WW (X:Cx)(y:Str)(Nc:xaO)(scope:Scope)(cl:xzL)(js:Fr):Prop where
 kind:xHO
 co:Μ scope.isCoroutine
 gen:Μ scope.isGenerator
 nocell:xLN
 par:xAi y
 clos:xXA=pure cl
 sub:∀x c,xCu=xa7->xeA=xa7
 has:∀x,(xth x xf8\/xth x xUt)->∃c,xCu=xa7
 len:js.length=Nc.length
 slot:∀(i:Nat) (x:Str) (j:Nat),xaU Nc=xas->xaM js j->xfZ X.N=xas/\xqz=xf8/\xth x xUt/\∀c,xeA=xa7->xCu=xa7
noncomputable def zm (js:Fr) (σ:St) (v:V):St:=xaw::xSq j (xCX (xvJ))
def y4 {σ:St}(I:SZ)(C:WW X y Nc scope cl js)(r:xd5)
  (hn:xY3 (On (([(y,u)]:xtj LW).reverse.lookup z))) (hk:∀b o,xfo->xda=Id):
  xu8 (qq X (y::Nc) qual scope cl f cd X.A.in1 s H) (zm js σ v) H (xNK h' t'):=by
 have e0:=I.env0.in1;have XT:∀b,b∉(qq X (y::Nc) qual scope cl f cd X.A.in1 s H).ex:=xe9 b z (xlf b ([]:xav) z) Z6
 have sub:∀{x} {c},x0S (qq X (y::Nc) qual scope cl f cd X.A.in1 s H)=xa7->xeA=xa7:=λ {x c} e=>C.sub x c e
 refine⟨⟨I.ok.mod,C.kind,rfl,rfl,Tl,λ x z c e1 e2=>I.ok.inj x z c (sub e1) (sub e2),λ x hx=>C.has x hx,λ x c e _=>(by cases e),e0.qt,xYt,xt9,
  xe9 b z z xEN,I.bs,e0.bsz,λ b _ _=>xEN,xe9 b z z xEN,e0.funs,e0.frf⟩,
  rfl,I.bare,xVJ,xbu hn (λ i x v' h1 h2 h3=>?_),xdm x c,xkQ,λ x c e=>xCV c xI6,xe9 p hp (xlf p ([]:Η) hp) Z6,x1j,?_⟩
 ·cases i with
  |zero=>
   have NU:some y=xas:=h1;cases NU;have RJ:Tm (some xaw) xVV:=h2;cases RJ;refine⟨u,r,.inl (xde C.par)⟩;show([(y,u)]:xtj LW).reverse.lookup y=xaP;simp [List.lookup]
  |succ i=>
   have NU:xaU Nc=xas:=h1;have RJ:xaM (xSq j (xCX (xvJ))) xVV:=h2;rw [FA] at RJ;cases ej:xaU js with
   |none=>show W1 ej RJ RJ
   |some j=>
    rw [ej] at RJ;have XG:Tm (xCX (xvJ)) v':=Fx RJ;obtain⟨YS,XC,RT,hc⟩:=C.slot i x j NU ej;have QC:xbS σ j xVV:=by
     cases e:xvJ with
     |none=>show W1 e XG XG
     |some w'=>show π e XG (xxC XG)
    obtain⟨mo,hno,hl⟩:=I.loc;show xbd u' r' l (hl j x v' YS QC (xV4 XC)) (Ψ u' r');rcases l with⟨q,_⟩|⟨_,c,ec,o,ho,hd⟩
    ·have q':xqz=xf5:=q;show W1 XC q' q'
    ·show xdG ⟨.inr RT,c,hc c ec,o,hk c o ho,hd⟩
 ·show xbq v' o ho hd (xAV xI6) ⟨v',o,hk c o ho,hd⟩
 ·show xaI (xaw::xSq j (xCX (xvJ))) (y::Nc).length;rw [EV,EA,C.len,EV]
def x0 {X:Cx}{L8:Η}{σ:St}{H:Hp}{s:LX}{y:Str}{Nc:xaO}{qual:Str}{params:Arguments}{body:L5}{scope:Scope}{cl:xzL}{js:Fr}{f c':LV}{pm VY:LW}{te:TE}{k:Nat}{v:V}{u:LW}{Q:VK}{E:xad}
  (I:SZ) (C:WW X y Nc scope cl js) (hr:xxS (k+2)) (hf:xgN f (xQr qual body scope cl pm c' VY)) (QG:s.heap.CodeRec xtX qual)
  (Ss:∀u,xWD (xTF qual params body scope cl pm xtX VY) xky=pure [(y,u)]) (r:xd5)
  (he:PE (qq X (y::Nc) qual scope cl f xtX X.A.in1 s H) body te) (hq:te (zm js σ v) H Q):
  xVU xKc xp4 E s:=by
 have hd:xVv X.A.in1.depth:=(show Mj (k+1) X.A.in1 from hr.in1).depth;show xcr (wpAny_call (kla_callFunE hd hf rfl C.co C.gen rfl QG ?_)) Ss (E1 (wpAny_newFunctionEnv C.nocell (P3 z hz) (λ h₁ hns hsb=>xde ((I.ok.mod.nolimit.keeps I.bk).fresh _ hsb)) C.kind))
 ·show xjG hz C.par
 show codeAny _ _ (.expr body (xRr f xtX cl)) _ _;have hk₁:∀b o,xfo->h₁.get? b=Id:=λ b o e=>hsb.extBut b o xDt xd0
 refine kla_codeExpr (xiq (he [] _ (zm js σ v) H Q (y4 I C r hns hk₁) hq) (Ε w' s' hs) z xHw);show xfG v' H' J r' q hs (I.after ⟨v',H',J.os,J.bare,J.base,J.hok,r',q⟩)
def MS.at (f:xp5 b)(n:xHC):xzW b:=⟨n,f.2⟩
def vO {X:Cx}{L8:Η}{σ:St}{H:Hp}{l f I S:LV}{xs:M2}{of:L6}{Q:VK}{E:xad}(kf:xby Int)(hh:xxy)(hq:Mm X.K H l xs)(hf:∀v,of.data≠ xyG)
  (step:∀(MZ:Η) (s':LX) (H':Hp) (i:Nat) (v:V) (u:LW),xz1 H' s'->xqF f of->Κ->xfg=xaw->xd5->
   xVU xKc (EP X MZ σ λ r XO=>r=xBJ i/\Mf H' XO) xqr s')
  (fin:xie i Nat v V (xfg=xaw->(∀j,xmo j->xpL≤kf j/\(j<i->xpL<kf j))->Κ->xAE)) (ZR:S≠I):
  ∀(r j i:Nat) (s':LX) (H':Hp) (vb:V) (ub:LW) (tb:Tok) (c:Nat),xhB (j+1)=r->xxl (j+1)->xlH->Κ->xzW I->xzW S->xzW f->f≠I->f≠S->
   xqF f of->xqF S (xqw #[ub,xBJ i tb] c)->s'.heap.IsListIter I l (j+1)->xaM xs vb->RelV vb ub->i≤j->(∀j',j'≤j->xpL≤kf j'/\(j'<i->xpL<kf j'))->
   xV2 X.A (.builtin "min.loop" (xoC [.ref I,xeD,.ref S])) (λ r OQ=>match r with| .ok (.ret v)=>xp4 v OQ| .ok _=>False| .error e=>E e OQ) s':=by
 have Sr:(x00++xZ8:String)="min.loop":=Z9;intro r
 induction r with
 |zero=>
  intro j i s' H' vb ub tb c hr hj J sm fI fS ff Zz Zy YV hSo hit hvb rb ZM QT;have YT:xq6 (j+1):=ED hj (xBC hr);show xoo rv pl hz (J.list (sm.seq hq));show xyK Ny;have hlI:xex I:=On (by
   obtain⟨o,e,hc,n,hd⟩:=pl.isList;obtain⟨o2,e2,ec,ed⟩:=hit;rw [z,e2] at e;have e':=Fx e;rw [<-e',ed] at hd;cases hd)
  have W:=xWK (w:=X.w) (A:=X.A.in1) hh I l hlI its.toArray;have hsz:xTp:=E3 ..;refine Kh Kq ?_;rw [KL Hv _];show xn1 (xCQ (.ref S) _);refine xFb hSo rfl ?_;show xn1 (xNj (xUN I)>>= _);refine xJP (W.done _ _ _ ⟨by rw [hsz,<-Ny,<-YT];exact hit,pl.isList⟩ (xsU tk' XD));have J1:xqv H' s' h' tk':=J.turned (it:=I) (λ b o n e=>XD b o (by simpa using n) e) fI.1 (Ξ fI) (xqV fI) (xv4 fI) (xzr fI);have ZS:=XD S _ (by simpa using ZR) hSo;show xn1 (updateSeq S (λ _=>#[])>>= _);show xxq ?_ (xTI ZS (EG (JW xjC)));exact⟨vb,H',J1.turn fS,rb,fin i vb H' hvb (λ j' hj'=>QT j' (xcI [_,_,_] xuf xPI (EC YT.symm) hj')) sm⟩
 |succ r ih=>
  intro j i s' H' vb ub tb c hr hj J sm fI fS ff Zz Zy YV hSo hit hvb rb ZM QT;have Mb:xmo (j+1):=Ky hr;show xoo rv pl hz (J.list (sm.seq hq));show xyK Ny;have hlI:xex I:=On (by
   obtain⟨o,e,hc,n,hd⟩:=pl.isList;obtain⟨o2,e2,ec,ed⟩:=hit;rw [z,e2] at e;have e':=Fx e;rw [<-e',ed] at hd;cases hd)
  have W:=xWK (w:=X.w) (A:=X.A.in1) hh I l hlI its.toArray;have hsz:xTp:=E3 ..;refine Kh Kq ?_;rw [KL Hv _];show xn1 (xCQ (.ref S) _);refine xFb hSo rfl ?_;show xn1 (xNj (xUN I)>>= _);refine xJP (W.item (j+1) _ _ _ (by show LE hsz (EW Mb Ny)) ⟨hit,pl.isList⟩ λ u h' tk' hP QI XD=>?_);have hu:its[j+1]?=xaP:=by simpa using hP
  show xmY oI' WM Pz hod QI.1;obtain⟨v,hv,rvu⟩:∃v,xs[j+1]?=xaw/\xd5:=by
   obtain⟨u',e3,r3⟩:=xOT (j+1) (x:=xs[j+1]) (EI Mb);show xhX hu e3 e3 (xbu (EI Mb) r3)
  have J1:xqv H' s' h' tk':=J.turned (it:=I) (λ b o n e=>XD b o (by simpa using n) e) fI.1 (Ξ fI) (xqV fI) (xv4 fI) (xzr fI);have ZS:=XD S _ (by simpa using ZR) hSo;have ZN:=XD f _ (by simpa using Zz) YV;have Jp:=J1.pinned (fp:=[I,S,f]) (xbo (by
   show xkp
   ·exact fI
   ·show xkp
    ·exact fS
    ·show xjG hb ff)) (xbo (by
   show xkp
   ·exact xbu WM (λ v z=>by show W1 hod z z)
   ·show xkp
    ·exact xbu ZS eZ
    ·show xjG hb (xbu ZN hf)))
  show xn1 (xWI xky xKc>>= _);refine xJP (G7 (xiq (step _ _ H' (j+1) v u Jp ZN sm hv rvu) (Ε x OQ he) hF hF.elim));obtain⟨rv',H2,J2p,rr,re,sm2⟩:=he;subst re;show xhi t2 t (x=xdK (kf (j+1))) rr;have pin:∀{b:LV} {o:L6},b∈ [I,S,f]->xda=Id->x01=Id/\xac (H2 b):=λ {b o} hb e=>by
   have:=J2p.pin (b,o) xv8;show xaj xDD (Ξ this)
  show xbH gI nI (xEy WM) gS nS (xEy ZS);obtain⟨gf,nf⟩:=xEy ZN;have J2:=J2p.unpinned;have sm02:=sm.trans sm2;have WO:OQ.heap.IsListIter I l (j+1+1):=⟨oI',gI,Pz,hod⟩;show xn1 (xWI [u,xsh (j+1)] (richCompare .Lt (xsh (j+1)) (xBJ i tb)>>= _)>>= _);show xgj (JL (G7 (EG (CmpOf.ints_lt (prog:=X.prog) (w:=X.w) (A:=X.A.in1) (P:=λ i v=>∃t,v=xdK xpL) kf (λ i v h=>h) (j+1) i _ _ _ _ _ (xcM t2) (xcM tb) ?_)))) (G7 (IB ?_));refine EG (JW xjC);by_cases MX:kf (j+1)<xpL
  ·show xty c2 hc2 c2 (Tm (xxm S (xMp #[u,xsh (j+1)]) S) (xqw #[u,xsh (j+1)] c2)) (xbR (Ka gS λ _=>#[u,xsh (j+1)]));show xWl MX if_true;show xxq ?_ (xTI gS xP6);rw [Sr];have fS2:=xWm;refine E1 ⟨xM2 _,ih (j+1) (j+1) _ H2 v u t2 c2 (xZN hr) Mb x0x sm02 xU5 fS2 xU6 Zz Zy ?_ hc2 ⟨oI',?_,Pz,hod⟩ hv rvu Tl (P3 j' hj')⟩
   ·show xxm S _ f=_;show xwU _ Zy gf
   ·show xxm S _ I=_;show xwU _ ZR.symm gI
   ·by_cases e:j'=j+1
    ·subst e;show xaj x1r (xnk h xli)
    ·have:=QT j' Z5;show xaj (Int.le_trans (LP MX) xDD) (λ _=>Int.lt_of_lt_of_le MX xDD)
  ·simp only [MX,decide_false,Hj,JP];show xcr xP6 Sr (E1 ⟨xM2 _,ih (j+1) i _ H2 vb ub tb c (xZN hr) Mb J2 sm02 xU5 xWm xU6 Zz Zy gf gS WO hvb rb (Gr ZM) (P3 j' hj')⟩);by_cases e:j'=j+1
   ·subst e;show xaj (Int.not_lt.mp MX) (λ _=>Z5)
   ·exact QT j' Z4
def yN {X:Cx}{L8:Η}{σ:St}{H:Hp}{s:LX}{l f:LV}{xs:M2}{of:L6}{Q:VK}{E:xad}(I:SZ)(kf:xby Int)(hh:xxy)(hq:Mm X.K H l xs)(Oe:xmo 0)(hf:∀v,of.data≠ xyG)(ff:xp5 f)(YV:xgN f of)
  (step:∀(MZ:Η) (s':LX) (H':Hp) (i:Nat) (v:V) (u:LW),xz1 H' s'->xqF f of->Κ->xfg=xaw->xd5->
   xVU xKc (EP X MZ σ λ r XO=>r=xBJ i/\Mf H' XO) xqr s')
  (fin:xie i Nat v V (xfg=xaw->(∀j,xmo j->xpL≤kf j/\(j<i->xpL<kf j))->Κ->xAE)):
  xjt (xtr "min" [xa0] xwZ) xp4 E s:=by
 have Sr:(x00++xZ8:String)="min.loop":=Z9;show xod rv pl;show xyK Ny;have VQ:xxw l:=by obtain⟨o,e,_⟩:=pl.isList;exact xdV
 refine kmk_tree PySem.F.kind_min PySem.F.plain_min PySem.F.entry_min (kmk_min_key _ _) ?_;show xYc (xYq ["key","default"] 0 ⟨[],xwZ⟩>>= _) s;show xgj (wpAny_of_eq (xce (xYq ["key","default"] 0 ⟨[],xwZ⟩) (pure [xeL,none])) ?_) xjC;show xgj (x0m pl.isList) (xMR xan);rw [Sr];have hS:xCk #[xa0,xkg]=xeh:=size_push' ..;have hlI:xxr l:=FL VQ;have ZR:xxr (xCk #[xa0,xkg]):=by show LE hS (Ja xna)
 refine E1 (xde (xM2 _));have O3:∀b o,xfo->xEr (xE5 #[xa0,xkg] 0)=Id:=λ b o e=>xjD xd0
 have gI:xk1 (xE5 #[xa0,xkg] 0) s.heap.objs.size (xMx "list_iterator" #[xa0,xkg]):=
  xjD xg1
 have gS:xk1 (xE5 #[xa0,xkg] 0) (xCk #[xa0,xkg]) (xqw #[] 0):=xg1;have fI:xp5 s.heap.objs.size:=I.fpOk Tl xkQ;have fS:xp5 (xCk #[xa0,xkg]):=xMP (by show LE hS xEF) (by show LE hS xEF);have Zz:xxr f:=FL (Fk YV);have Zy:f≠xCk #[xa0,xkg]:=by show LE hS (FL (HY (Fk YV)))
 have J0:xJ9 (xE5 #[xa0,xkg] 0):=xOP O3;have YQ:(xE5 #[xa0,xkg] 0).IsList l its.toArray:=by
  show xbp o e r pl.isList (xjS (O3 _ _ e) r)
 have hf0:=O3 _ _ YV;show xqB (xCk #[xa0,xkg]) S (xE5 #[xa0,xkg] 0) h0;generalize s.heap.objs.size=Ia at*;have W:=xWK (w:=X.w) (A:=X.A.in1) hh Ia l hlI its.toArray;have hsz:xTp:=E3 ..;refine Kh Kq ?_;rw [KL Hv _];show xn1 (xCQ (.ref _) _);refine xFb gS rfl ?_;show xn1 (xNj (xUN Ia)>>= _);refine xJP (W.item 0 _ _ _ (by show LE hsz (EW Oe Ny)) ⟨xGG gI,YQ⟩ λ u h' tk' hP QI XD=>?_);have hu:its[0]?=xaP:=by simpa using hP
 show xmY oI' WM Pz hod QI.1;obtain⟨v,hv,rvu⟩:∃v,xs[0]?=xaw/\xd5:=by
  obtain⟨u',e3,r3⟩:=xOT 0 (x:=xs[0]) (EI Oe);show xhX hu e3 e3 (xbu (EI Oe) r3)
 have J1:xGv H tk':=Inv.turned (s:=xmi h0) (it:=Ia) J0 (λ b o n e=>XD b o (by simpa using n) e) fI.1 (Ξ fI) (xqV fI) (xv4 fI) (xzr fI);have ZS:=XD S _ (by simpa using ZR) gS;have ZN:=XD f _ (by simpa using Zz) hf0;have Jp:=J1.pinned (fp:=[Ia,S,f]) (xbo (by
  show xkp
  ·exact fI
  ·show xkp
   ·exact fS
   ·show xjG hb ff)) (xbo (by
  show xkp
  ·exact xbu WM (λ v z=>by show W1 hod z z)
  ·show xkp
   ·exact xbu ZS eZ
   ·show xjG hb (xbu ZN hf)))
 show xn1 (xWI xky xKc>>= _);refine xJP (G7 (xiq (step _ _ H 0 v u Jp ZN (Mf.refl H) hv rvu) (Ε x OQ he) hF hF.elim));obtain⟨rv',H2,J2p,rr,re,sm2⟩:=he;subst re;show xhi t2 t (x=xdK (kf 0)) rr;have pin:∀{b:LV} {o:L6},b∈ [Ia,S,f]->xda=Id->x01=Id/\xac (H2 b):=λ {b o} hb e=>by
  have:=J2p.pin (b,o) xv8;show xaj xDD (Ξ this)
 show xbH gI2 nI (xEy WM) gS2 nS (xEy ZS);obtain⟨gf2,nf⟩:=xEy ZN;have J2:=J2p.unpinned;show xty c2 hc2 c2 (Tm (xxm S (xMp #[u,xsh 0]) S) (xqw #[u,xsh 0] c2)) (xbR (Ka gS2 λ _=>#[u,xsh 0]));show xn1 (updateSeq S (λ _=>#[u,xsh 0])>>= _);show xxq ?_ (xTI gS2 ?_);rw [Sr];have fS2:=xWm;refine E1 ⟨xM2 _,vO kf hh hq hf step fin ZR _ 0 0 _ H2 v u t2 c2 rfl Oe x0x sm2 xU5 fS2 xU6 Zz Zy ?_ hc2 ⟨oI',?_,Pz,hod⟩ hv rvu Tl (P3 j' hj')⟩
 ·show xxm S _ f=_;show xwU _ Zy gf2
 ·show xxm S _ Ia=_;show xwU _ ZR.symm gI2
 ·have e:j'=0:=(xnY (xaf Τ IO xed IO xed hj'));subst e;show xaj x1r (xnk h xli)
inductive Uz (K:Frag) (P:LV) (pos:Pos) (qual:Str) (js:Fr) (te:TE) (σ:St) (Q:VK) (zs:M2) (H1:Hp):Prop
 |mk (p:LV) (xs:M2) (kf:xby Int) (h0:zs=xbk) (h1:xrB H1 p) (h2:xmo 0) (h3:xFo P qual H1) (h4:(∀c xs,xrB H1 c->xcd P)) (h5:∀H2,k8 P H1 H2->xFo P qual H2->(xie i Nat v V (xfg=xaw->xrW H'->te (zm js σ v) H' λ r XO=>r=xBJ i/\Mf H' XO))/\xie i Nat v V (xfg=xaw->(∀j,xmo j->xpL≤kf j/\(j<i->xpL<kf j))->xrW H'->xAE)):Uz K P pos qual js te σ Q zs H1
def DC (K:Frag)(P:LV)(pos:Pos)(qual:Str)(js:Fr)(te:TE)(t:TA):TE:=λ σ H Q=>xkE zs (Uz K P pos qual js te σ Q zs H1)
def zu {X:Cx}{k:Nat}{e:L5}{body:L5}{te:TE}{p:Pos}{kp:Pos}{pos:Pos}{WI:Pos}{y:Str}{Nc:xaO}{scope:Scope}{params:Arguments}{cl:xzL}{js:Fr}{P:LV}{c:LV}{t:TA}(hn:xxy)(hr:xxS (k+2))(hg:xCL "min")(hm:xqT "min")(C:WW X y Nc scope cl js)(Ut:X.env.code=xDn)(hC:xRo X.base P)
  (ZO:∃bm o,xZm=xap bm/\xWa bm/\xVy bm/\x0X=Id/\o.cls=xT9/\xWR/\xWO)
  (hdef:xZM X.env=([],[])) (Ss:∀(pm cd ct u:LW),xWD (xTF xms params body scope cl pm cd ct) xky=pure [(y,u)])
  (he:∀f c' s H,PE (qq X (y::Nc) xms scope cl f xtX X.A.in1 s H) body te) (ha:xjT [e] t)
  (hee:xal (xua (e:: [])=xi6::xJW)) (P9:xYe)
  (MB:xal ((backToKw pos (keywordEach [⟨some "key",.Lambda params body scope WI,kp⟩] X.env)).all (·.1.isSome)=true))
  (hkw:xal ((backToKw pos (keywordEach [⟨some "key",.Lambda params body scope WI,kp⟩] X.env)).any (·.1.isNone)=false))
  (hfm:xal ((backToKw pos (keywordEach [⟨some "key",.Lambda params body scope WI,kp⟩] X.env)).filterMap (·.1)=[("key":Str)])):
  xpu "min" p [e] [⟨some "key",x0Y body scope WI,kp⟩] (DC X.K P WI xms js te t):=by
 intro L8 s σ H Q I h;show ρ (Hu (xzt I (Ω (bootBuiltins "min") (xom "min") Z8) ?_)) (xYV e (rest:=[]) xGp hee P9 MB hkw);show xm0 vs;obtain⟨l,xs,kf,rfl,hq,Oe,hT,hnP,q⟩:=q1;show xqE u ru (fK r1);obtain rfl:u=Value.ref l:=ru;refine kws_cons (x4 I1 hT Ut hC ZO hdef C.clos λ f c' pm VY H2 s2 I2 ff YV QG hrec Wm sT=>kws_nil ?_);rw [hfm];obtain⟨qs,qf⟩:=q H2 sT Wm;show xtB (xtr "min" [xa0] xwZ) s2;have QE:Mm X.K H2 l xs:=by
  rcases hq with hq|hq
  ·show xKN hq o z
   ·show xa8 (.inl (xqa (hnP l xs (xKn z)) z))
   ·show xa8 (xei o (xqa (hnP l xs (.inl (xei o z))) z))
  ·show xdG hq
 refine yN I2 kf hn QE Oe (λ v z=>by cases z) ff YV (λ MZ s' H' i v u J hfo' sm hv ru=>?_) qf;obtain⟨oc,vs',t,hc,d1,d2⟩:=hrec;have Pz:xqF c' oc:=(J.hok _ _ (xhK hc)).1;exact x0 J C hr hfo' (xdc c' oc vs' t Pz d1 d2) (λ u=>Ss _ _ _ u) ru (he f c' s' H') (qs i v H' hv sm)
def C'.weak {K:Frag}(F:xii P w K CX k f fd ps sp)(h:∀vs H Q E,sp' vs H Q E->xhp):xii P w K CX k f fd ps sp':=
 ⟨λ vs H Q E z=>F.len vs H Q E (xlo _ _ z),λ A outer s H args us vs Q E hr e0 hb r z=>xWT A s H args us vs Q E hr e0 hb r (xlo _ _ z)⟩
inductive Sv (P:LY) (w:LZ) (K:Frag) (mg:Α) (base:L4) (k:Nat) (m:Str) (t:TA) (σ:St) (Q:VK) (x:V) (H1:Hp):Prop
 |mk (a C dx:LV) (fs:xfn) (f:LV) (fd:L0) (ps:xaO) (sp:Sp) (h0:x=Γ) (h1:H1 a=xr2) (h2:xUu m) (h3:xhm) (h4:xrM K m f) (h5:xAh k sp) (h6:xps) (h7:t σ H1 λ vs H2=>sp (x::(vs++[])) H2 Q E0):Sv P w K mg base k m t σ Q x H1
def wF (P:LY)(w:LZ)(K:Frag)(mg:Α)(base:L4)(k:Nat)(m:Str)(ta:TE)(t:TA):TE:=λ σ H Q=>xn8 (Sv P w K mg base k m t σ Q x H1)
def pO {X:Cx}{o:L5}{e:L5}{es:xmT}{m:Str}{apos:Pos}{pos:Pos}{k:Nat}{ta:TE}{t:TA}{P:LY}{w:LZ}{K:Frag}{mg:Α}{base:L4}{pl:xDe}(hP:X.prog=P)(hw:X.w=w)(hK:X.K=K)(hmg:X.mg=mg)(Vu:X.base=base)(he:xAR)(hr:xp1)(ha:xsI)
    (OR:xal (xpt=xi6::xpp)) (Od:xtc)
    (ht:xal (xGA o m xew=(do
      let ov<-xsb
      xBN
      let xEw f<-xBZ [ov] ov m pl
      xDM f (xua xew) xFX))):
    xGB o m xew (wF P w K mg base k m ta t):=by
  subst hP hw hK hmg Vu
  intro L8 s σ H Q I h
  refine xRc pl (xvL _ I h u) ht
  obtain⟨x,H1,I1,rx,a,C,dx,fs,f,fd,ps,sp,ex,ea,l,c,hm,F,hb,q⟩:=z9
  subst ex
  obtain rfl:u=xfB:=rx
  show ρ (eF I1 ea c hm l ?_) (Kd (first:=xbL) (h₀:=X.base) I.ok.mod.kin hm.kp (thn (xTM s1 H1 _ I1 q) λ us s2 ⟨vs,H2,I2,r,q2⟩=>xde I2.kIn) OR Od)
  exact xKu (Γ::us) (vs:=Γ::vs) F hr hb .nil bf I2 (xWC r) q2
abbrev OA (mg:Α)(h:L4):Prop:=∃bm o,mg "__builtins__"=xap bm/\xWa bm/\xVy bm/\h.get? bm=Id/\o.cls=xT9/\xWR/\xWO
def uB {K:Frag}
  (KX:K.In s₁.heap) (hns:s₁.heap.Ns mainGlobals mg) (hb:s₁.heap.Ns builtinsNs mb) (hbb:∀x:Str,xEQ->mb x=xB8) (hlim:s₁.heap.NoLimit) (hg:s₁.gens=#[])
  (ha:xTO a xJk) (hi:xFL) (hl:xcN ns.length) (hr:xsG callerA)
  (hT:xTO Tb (tabObj #[])) (hC:xRo s₁.heap Tb) (hKT:xpr) (ZO:OA mg s₁.heap)
  (F:∀base:L4,xWg->xLi->xnP->xns->xii P w K Mq k fa fd xcZ sp) (Ss:∀(s:LX) (u:LW),xze s xky [(x,u)])
  (Rq:∀H:Hp,Mm K H a xip->xjw Tb xCD->xrU a->sp xbL H (λ v _=>v=xCR) xMY):
  xtA (model P w) callerA xVR xPR (λ r s'=>r=.ok xVY/\xV5/\s'.os=s₁.os/\xHe) s₁:=by
 have rv:=uz hi;have lenV:=hi.length;have naT:xrU a:=On (by show xbm hT ha ha)
 have core:∀H,(∀b,xrU b->xd3\/∃ob xs,xaN=xtn ob xC0)->xjw Tb xCD->Mm K H a xip->xyt H s₁.heap->(∀b,xaN≠none->b=a\/b=Tb)->(UF≠none->xqD a none)->
   xtA (model P w) callerA xVR xPR (λ r s'=>r=.ok xVY/\xV5/\s'.os=s₁.os/\xHe) s₁:=by
  intro H hO hHT hS hok hA hK;have base_of:∀{b} {o},xM3=Id->xd3->xEr xyX=Id:=λ e n=>xb e n
  have noH:∀{b} {o},xM3=Id->(b=a->False)->(b=Tb->False)->xd3:=λ {b o} e n1 n2=>by
   cases q:xaN with
   |none=>rfl
   |some u=>
    show xfw (hA b (by show xb8 q))
    ·show xkn (n1 z)
    ·show xkn (n2 z)
  have XT:∀{b} {o} {es:Array DictEntry} {ep:Nat},xM3=Id->xza (xRa es)->xd3:=λ {b o es ep} e d=>noH e (On (by
   show xb3 z ha e e;have d':xTn _=Data.dict es ep:=d;cases d')) (On (by
   show xb3 z hT e e;have d':x0y=Data.dict es ep:=d;cases d'))
  have nsK:∀{b} {m},s₁.heap.Ns b m->(xyX).Ns b m:=λ {b m} ⟨o,es,ep,e,d,r⟩=>⟨o,es,ep,base_of e (XT e d),d,r⟩
  have hKb:K.In xyX:=λ b o e=>base_of (KX b o e) (by
   cases q:xaN with
   |none=>rfl
   |some u=>
    show xfw (hA b (by show xb8 q))
    ·show xb3 z (hK (by show xb8 q)) e e
    ·show xb3 z hKT e e)
  have hM:Mod K mg xyX:=⟨hKb,nsK hns,⟨mb,nsK hb,hbb⟩,let⟨mc,h1,h2⟩:=hlim;⟨mc,nsK h1,h2⟩⟩;have hCb:xRo xyX Tb:=by
   obtain⟨o,vs',file,tf,flags,tg,inF,text,tt,e1,r1,r2,r3,r4,r5,r6,r7,r8,Oe⟩:=hC;exact⟨o,vs',file,tf,flags,tg,inF,text,tt,base_of e1 (noH e1 (On (by
    show xb3 z ha e1 e1;have r2':xTn _=Data.fields vs':=r2;cases r2')) Oe),r1,r2,r3,r4,r5,r6,r7,r8,Oe⟩
  have hBb:OA mg xyX:=by
   obtain⟨bm,o,b1,b2,b3,b4,b5,b6,b7⟩:=ZO;exact⟨bm,o,b1,b2,b3,base_of b4 (noH b4 (On (by
    show xb3 z ha b4 b4;have b7':xTn _=Data.plain:=b7;cases b7')) (On (by
    show xb3 z hT b4 b4;have b7':x0y=Data.plain:=b7;cases b7'))),b5,b6,b7⟩
  have e0:QJ P w K mg xyX callerA [] s₁ H:=⟨rfl,hM,λ b o e=>z7 e,EC (uv _ _),trivial,xe9 b hb (xlf b ([]:xav) hb) Z6,hok,.of_eq hg,xec⟩;refine xHv ((F _ hKb (nsK hns) hCb hBb).run callerA [] s₁ H xPR xbL xbL _ _ hr e0 (Ss s₁ Γ) (xmA rfl) (Rq H hS hHT naT)) r s' h
  cases r with
  |error e=>show xfE h
  |ok fl=>
   cases fl with
   |next=>show xfE h
   |brk=>show xfE h
   |cont=>show xfE h
   |ret u=>
    obtain⟨v,H',os,bare,un,hok',r',q⟩:=h;have q':v=xCR:=q;subst q';obtain rfl:u=Value.bool true:=r';have keep:∀b o,xrU b->xM3=Id->s'.heap.get? b=Id:=λ b o n e=>by
     cases q:xaN with
     |none=>exact un.keep b o e q (by intro z;show xaq (xlf b ([]:xav) z) Z6) Z6
     |some u=>
      rcases hO b n with z|⟨ob,xs,z⟩
      ·show W1 q z z
      ·have z2:=un.frzs b ob _ z;obtain⟨e1,_⟩:=hok b _ z;obtain⟨e2,_⟩:=hok' b _ z2;show xhX e e1 e1 e2
    show xks more hm (un.tbls Tb #[] hHT) hTo (xqF Tb (tabObj (#[]++more))) (hok' Tb _ hm);refine xpe ⟨xdm b o,xdm b o⟩ os bare
    ·by_cases z:b=Tb
     ·show xb3 z hT e e;show xdG (.inl ⟨(hC.tab hT).isCodeTable,rfl,#[],more,rfl,hTo⟩)
     ·show xa8 (keep b o z e)
    ·by_cases z:b=Tb
     ·show xcL z (xbR hTo)
     ·show xaj o (keep b o z e)
 cases hk:K.lookup a with
 |some o=>
  have e:=KX a o hk;show xpS ha;refine core (λ b=>xbc b Tb (some xCD) none) (λ b n=>.inl (ES n)) xai (.inr ⟨_,vs.toArray,_,hk,rfl,rfl,rfl,by rw [E3,lenV];exact hl,by simpa using rv⟩) (Ε b u z) (P3 b z) (xmj z (ES naT) z)
  ·by_cases hb:b=Tb
   ·have z':=xHB (E5 hb);cases z';show xcL hb hT
   ·have z':=xHB xJb;cases z'
  ·by_cases hb:b=Tb
   ·show xdG hb
   ·show xaq xJb z
 |none=>
  refine core (λ b=>xbc b Tb (some xCD) (xbc b a (xtn xJk (.lst xip)) none)) (P3 b n) xai (.inl (xei xJk (by show(xbc a Tb _ _)=_;rw [ES naT,xai]))) (Ε b u z) (P3 b z) λ _=>hk
  ·by_cases hb:b=a
   ·show xdG (xbu _ (xH6 n (E5 hb)))
   ·show xa8 (xH6 n xJb)
  ·by_cases ZQ:b=Tb
   ·have z':=xHB (E5 ZQ);cases z';show xcL ZQ hT
   ·by_cases hb:b=a
    ·have z':=xHB (xH6 ZQ (E5 hb));cases z';show xcL hb ⟨ha,by show xaT hl,vs,_,rv,ha⟩
    ·have z':=xHB (xH6 ZQ xJb);cases z'
  ·by_cases ZQ:b=Tb
   ·show xdG ZQ
   ·by_cases hb:b=a
    ·show xa8 hb
    ·show xaq (xH6 ZQ xJb) z
def Xt {l:PySem.W.OpenLaw}{K:Params->Frag}{sp:LZ->Sp}
  (hn:xQq n) (QL:xcN n) (hdf:xT4 []) (hr:xsG callerA)
  (hY:∀(w:LZ) (h:L4),YP w h->xEB h/\xBE Tb (tabObj #[])) (hC:∀w:LZ,SL (codeHdIn xop c Tb)) (hKT:∀w:LZ,xmt xop Tb)
  (F:∀(w:LZ) (mg:Α) (fa:LV) (h:L4),xEB h->xvq->xWi=xap fa->
   ∃fd:L0,(∀(s:LX) (u:LW),xze s xky [(x,u)])/\
    ∀base:L4,xEB base->xLi->xnP->xns->xii l.prog w xop Mq k fa fd xcZ (sp w))
  (Rq:∀(w:LZ) (H:Hp) (a:LV) (ns:xoJ),xIf n->Mm xop H a xip->xjw Tb xCD->xrU a->sp w xbL H (λ v _=>v=xCR) xMY):
  x0z loose XP YP l.row.toRowW d [] (λ f vs=>xUD vs):=by
 show xjH (Att.Tu hn hdf λ w s₀ s₁ mg mb fa o pm cd doc a vs ns G Y ho hd QG hmg hobj hints hlen hg=>?_) KX hT (hY w _ Y);show xeP fd hb hF (F w mg fa _ KX G.T.g hmg) ZO (OA mg s₁.heap) (by
  obtain⟨bm,ob,b1,b2,b3,b4,b5,b6⟩:=G.T.bmain;refine⟨bm,ob,b1,b2,xc5 z,b3,b4,b5,b6⟩;obtain⟨o,es,ep,e,hd,_⟩:=G.T.g;show xbm e b3 b3;show W1 hd b6 b6)
 exact uB KX G.T.g G.T.b G.T.builtins G.T.nolimit hg hobj hints (EF hlen QL) hr hT (codeHd_of_K KX (hC w)) (hKT w) ZO hF hb λ H hS hHT na=>Rq w H a ns hlen hS hHT na
universe L2
namespace L2
open PySem
def rP {a b x:Str}{i j k:Nat}(h1: xaU [a,b]=xas)(h2: xaM [none,some k] (some j)):x=b/\j=k:=by
 rcases i with _|_|i
 ·cases h2
 ·cases h1;cases h2;exact xkP
 ·cases h1
def slots3 {a b c x:Str}{i j k l:Nat}(h1: xaU [a,b,c]=xas)(h2: xaM [none,some k,some l] (some j)):(x=b/\j=k)\/(x=c/\j=l):=by
 rcases i with _|_|_|i
 ·cases h2
 ·cases h1;cases h2;show xa8 xkP
 ·cases h1;cases h2;exact xt9
 ·cases h1
def slotsL {b c x:Str}{i j k l:Nat}(h1: xaU [b,c]=xas)(h2: xaM [k,l] j):(x=b/\j=k)\/(x=c/\j=l):=by
 rcases i with _|_|i
 ·cases h1;cases h2;show xa8 xkP
 ·cases h1;cases h2;exact xt9
 ·cases h1
universe L2
namespace K30
open PySem L2 QQ W17 W16 BP
seal PE PA PS PSs PT PW PG PI
def NK (u:Nat)(W T:Fr)(ps:xbf):Prop:=
 match u with
 |0=>ps=xnA
 |1=>ps=pf true T
 |2=>∃Pp,xvQ (W++T) Pp W T/\ps=pP Pp
 |3=>∃(Pp:xfa) (L:Fr) (It:xtF) (b:Nat),xvQ (W++T) Pp W T/\Vx xHX L/\xCI 0 0 It 272 b/\ps=xkL++xuH
 |_=>False
structure TW (T W:Fr):Prop where
 tb:xe3 T
 one:xHY
 le:xvs
 wb:xe3 W
 wl:xo4
def Vx.len (h:Vx Q L):xiM:=by
 obtain⟨ln,_,rfl,_⟩:=h;simp
theorem NK.uniq {u:Nat}(h:xnT)(h':NK u W T ps'):ps=ps':=by
 show xH3 u
 ·exact LU h (Ih h')
 ·exact LU h (Ih h')
 ·obtain⟨P,w,e⟩:=h;obtain⟨P',w',e'⟩:=h';rw [e,e',d9 w w']
 ·obtain⟨P,L,It,b,w,sl,wi,e⟩:=h;obtain⟨P',L',It',b',w',sl',wi',e'⟩:=h';have eP:=d9 w w';subst eP;have eL:=sl.uniq sl';subst eL;have hl:=sl.len;rw [<-hl] at wi wi';rw [e,e',tS wi wi']
 ·show xfE h
def pC (t:xi9){It:xtF}(w:xvQ (W++T) Pp W T)(sl:Vx xHX L)(wi:xCI 0 0 It 272 b):
  GR W Pp/\xy2 W=W++T/\xt3 Pp.length/\xNG/\xF8/\(xOV It x)/\xtD 0=L:=by
 show xjP gr WJ RW (xQQ w) h1 t.one;have Y0:=m5 w (by show xhY (Ha h1));have tok:=sl.tok gr Y0;exact⟨gr,WJ,RW,Y0,tok,x0V wi,uo tok.len wi⟩
def NK.good {u:Nat}(h:xnT)(t:xi9):xQv/\xdb≤1712:=by
 have hl:=t.le;show xH3 u
 ·have h:ps=xnA:=h;have:=tE false T;show LE h ⟨sH false hl t.tb,xbl [_,_] (xAj 14 IO) (xkZ 14 64 (xmh 14)) IO 1712 (xlB hl) this⟩
 ·have h:ps=pf true T:=h;have:=tE true T;show LE h ⟨sH true hl t.tb,xbl [_,_] (xAj 14 IO) (xkZ 14 64 (xmh 14)) IO 1712 (xlB hl) this⟩
 ·obtain⟨P,w,e⟩:=h;obtain⟨gr,WJ,RW⟩:=xQQ w;have:=mX P;show xfs ⟨sA gr,xbl [_,_,_] (xAj 13 (xfM 13 IO)) (xkZ 13 64 (xAj 13 (xkN 13))) IO 1712 (xK3 hl) (xuA (xK3 RW))⟩
 ·obtain⟨P,L,It,b,w,sl,wi,e⟩:=h;obtain⟨gr,WJ,RW,Y0,tok,hIt,hdec⟩:=pC t w sl wi;have h1:=mj tok.six P;have h2:=jy 0 hIt;rw [hdec,tok.len] at h2;show Uf e ⟨P3 q hq,by show LE aV (xbl [_,_,_,_] (xfM 14 (xFW xaR)) (xkZ 14 64 (xfM 14 (xFW (.m 3 (.n 272))))) Pi 1712 (xlB hl) (xbJ (xlB RW) h1 h2))⟩;show xbX hq z z
  ·exact W13.VI hIt q z
  ·exact zt tok gr q z
 ·show xfE h
def Aa (S):∀n p,xrg p=n->xdO p->∃Pp,xwE Pp S.length:=by
 intro n
 induction n using Nat.strongRecOn with
 |ind n ih=>
  intro p hn hp;by_cases e:xuu p
  ·show xaj [] e
  ·have Mb:xAK:=FW hp e;have hz:=iF Mb;show xcb Pp w (ih (xrg (p+xIU)) Z5 (p+xIU) rfl hz.2) (xc8 (xrp::Pp) Mb w)
def g9 (W T):∃Pp,xvQ (W++T) Pp W T:=Aa _ _ _ rfl (by show xhY (xfx [_,_] IO Pi))
inductive spT (u:Nat) (B:LV) (vs:M2) (H:Hp) (Q:VK) (Ml:XK):Prop
 |mk (o p d a:LV) (x:V) (T W:Fr) (N T0:Nat) (h0:vs=[xgX,xbV,Γ,x]) (h1:xn7 B T0) (h2:xFt) (h3:UF=xcf) (h4:xjb) (h5:xi9) (h6:∀(ps:xbf) (H':Hp),xnT->xlr B H' ps N (T0+xdb)->xdH (∀c o,ω=Id->xaD->xgs->xaY=Id)):xSg vs H Q Ml
inductive spC (u:Nat) (C:LV) (vs:M2) (H:Hp) (Q:VK) (Ml:XK):Prop
 |mk (o dx a:LV) (x:V) (T W:Fr) (h0:vs=[xgX,Γ,x]) (h1:H o=xzN) (h2:UF=xcf) (h3:xjb) (h4:xi9) (h5:∀(ps:xbf) (H':Hp),xnT->Κ->xmZ xdb):spC u C vs H Q Ml
def spN (u:Nat):Sp:=λ vs H Q _=>∃o,vs=[xgX]/\xn2 u
structure Su (P:LY)(w:LZ)(K:Frag)(mg:Α)(base:L4)(B D C:LV)(u:Nat):Prop where
 cl:xhm
 num:∃f fd,xrM K "number" f/\xEG/\xh5 (spN u)
 tell:∃f fd,xrM K "tell" f/\xlh Jac/\xam 35 Jac xSg
 cost:∃f fd,xrM K "cost" f/\xlh xIh/\xam 36 xIh (spC u C)
def Xo:ST ["self","text","before","bits"] xIh wx:=Os
def ji (F:xaL "cost" "Way.cost" wx)(Z:Yi K mg B)(clW:xhm)(Te:xrM K "tell" fT)(bT:Binds K fdT Jac [])(GT:xLB fT fdT Jac xSg):
  xam 36 xIh (spC u C):=by
 have X:=Z.R.X;show xRJ;show xQ1 Ma Z.many TB Z.T;show xao Xo (λ L9 A outer st H vs Q E hr h=>?_);obtain⟨o,dx,a,x,T,W,rfl,ho,ha,hx,tw,k⟩:=h;have N3:xnH:=Ty;have Mw:xbg:=Ty;show xax (xa6 3 Xo.nd (xsr (oW FI TB) N3 Z.m bI bf) (aC (mJ PP clW Te GT hr bT .nil bf (xin TD No Ps))) (xRl TD Ma (ym Ma.F TB X) Mw)) xbT
 intro p dp np Vn YI;have VO:(xkA (xra dp p) p B dp) p=xkG B dp []:=i';have s0:xef (xkA (xra dp p) p B dp):=λ c o e=>by
  rw [xkt np,xkt Vn];exact e
 show xcC (xbI p dp VO (λ d H1 nd hB kp=>xLc));have nd0:xAJ:=xkU nd;have s1:xrZ:=λ c o e=>xaX xrK xul
 clear s0 VO kp;show xjh ⟨_,rfl,o,dx,_,rfl,xcR ho,rfl,_,rfl,_,rfl,_,rfl,o,p,d,a,x,T,W,0,0,rfl,hB,Z9,xlp,xUZ,tw,λ ps H2 Vq Og Rm=>xaa⟩;have s2:xjZ:=λ c o e=>xsM xcs xul (xmX nd0)
 obtain⟨TK,r2,k2,ME⟩:=Og.ob;show xgk ⟨_,rfl,p,TK,_,rfl,ME,xja,p,d,_,_,rfl,Og,?_⟩ Ge (k ps _ Vq s2)
structure WC (K:Frag)(mg:Α)(C CW:LV):Prop where
 cl:xhm
 mkb:MkB K C
 cost:∃f fd,xeV C "cost" "Way.cost" wx xIh
structure Raw (K:Frag)(mg:Α)(C CW:LV):Prop where
 W:WC K mg C CW
 m:mg "RawWay"=xiZ
 num:xQd "RawWay.number" gD
 tell:∃f fd,xeV C "tell" "RawWay.tell" jK Jac
structure Run (K:Frag)(mg:Α)(C CW:LV):Prop where
 W:WC K mg C CW
 m:mg "RunWay"=xiZ
 num:xQd "RunWay.number" gL
 tell:∃f fd,xeV C "tell" "RunWay.tell" jR Jac
structure Cpy (K:Frag)(mg:Α)(C CW:LV):Prop where
 W:WC K mg C CW
 m:mg "CopyWay"=xiZ
 num:xQd "CopyWay.number" gi
 tell:∃f fd,xeV C "tell" "CopyWay.tell" iK Jac
structure Shr (K:Frag)(mg:Α)(C CW:LV):Prop where
 W:WC K mg C CW
 m:mg "ShareWay"=xiZ
 num:xQd "ShareWay.number" iX
 tell:∃f fd,xeV C "tell" "ShareWay.tell" mI Jac
def tK (F:xAh k sp)
  (h:∀(o p d a:LV) (x:V) (T W:Fr) (N T0:Nat) (H:Hp) (Q:VK) (E:XK),xn7 B T0->xFt->UF=xcf->xjb->xi9->
   (∀(ps:xbf) (H':Hp),xnT->xlr B H' ps N (T0+xdb)->xdH (∀c o,ω=Id->xaD->xgs->xaY=Id))->sp [xgX,xbV,Γ,x] H Q E):xAh k xSg:=by
 refine F.weak λ vs H Q E z=>?_
 obtain⟨o,p,d,a,x,T,W,N,T0,rfl,hB,h0,ha,hx,t,k⟩:=z;exact h o p d a x T W N T0 H Q E hB h0 ha hx t k
def AO (R0:Raw K mg C CW)(S0:XN K mg B D G):Su P w K mg base B D C 0:=by
 show xgA N R0.num T R0.tell Co R0.W.cost;have GT:xLB _ _ Jac (spT 0 B):=tK ((rQ (P:=P) (w:=w) (base:=base) T.F S0.Y S0.Zb).mono (k:=35) Z9) λ o p d a x T W N T0 H Q E hB h0 ha hx t k=>
  ⟨o,p,d,a,x,T,W,N,T0,rfl,hB,h0,ha,t.tb,t.one,t.le,hx,t.wb,t.wl,λ H'=>xeR H' rfl⟩
 exact⟨R0.W.cl,xeQ _ N.m N.b (oy N.F),xeQ _ T.m T.b GT,
  xeQ _ Co.m Co.b xSo⟩
def Bb (R0:Run K mg C CW)(S0:XN K mg B D G){fR:LV}{fdR:L0}(Ro:xbD "runs_of" iw xCZ fR fdR):Su P w K mg base B D C 1:=by
 show xgA N R0.num T R0.tell Co R0.W.cost;have GT:xLB _ _ Jac (spT 1 B):=tK ((qJ (P:=P) (w:=w) (base:=base) T.F Ro S0.Y S0.Zb).mono (k:=35) Z9) λ o p d a x T W N T0 H Q E hB h0 ha hx t k=>
  ⟨o,p,d,a,x,T,W,N,T0,rfl,hB,h0,ha,t.tb,t.one,t.le,hx,t.wb,t.wl,λ H'=>xeR H' rfl⟩
 exact⟨R0.W.cl,xeQ _ N.m N.b (oz N.F),xeQ _ T.m T.b GT,
  xeQ _ Co.m Co.b xSo⟩
def A9 (R0:Cpy K mg C CW)(S0:XN K mg B D G):Su P w K mg base B D C 2:=by
 show xgA N R0.num T R0.tell Co R0.W.cost;have GT:xLB _ _ Jac (spT 2 B):=tK ((uT (P:=P) (w:=w) (base:=base) T.F S0.Y S0.Zb).mono (k:=35) Z9) λ o p d a x T W N T0 H Q E hB h0 ha hx t k=>by
  show xcb Pp hw (g9 W T) ⟨o,p,d,a,x,T,W,Pp,N,T0,rfl,hB,h0,ha,t.tb,t.one,t.le,hx,t.wb,t.wl,hw,λ H'=>xeR H' (xee Pp hw)⟩
 exact⟨R0.W.cl,xeQ _ N.m N.b (xR N.F),xeQ _ T.m T.b GT,
  xeQ _ Co.m Co.b xSo⟩
def Cl (R0:Shr K mg C CW)(S0:XN K mg B D G):Su P w K mg base B D C 3:=by
 show xgA N R0.num T R0.tell Co R0.W.cost;have GT:xLB _ _ Jac (spT 3 B):=tK (vx (P:=P) (w:=w) (base:=base) T.F S0) λ o p d a x T W N T0 H Q E hB h0 ha hx t k=>by
  show xcb Pp hw (g9 W T) ⟨o,p,d,a,x,T,W,Pp,N,T0,rfl,hB,h0,ha,t.tb,t.one,t.le,hx,t.wb,t.wl,hw,λ L It b H' sl wi=>xeR H' ⟨Pp,L,It,b,hw,sl,wi,rfl⟩⟩
 exact⟨R0.W.cl,xeQ _ N.m N.b (wV N.F),xeQ _ T.m T.b GT,
  xeQ _ Co.m Co.b xSo⟩
noncomputable def cst (u:Nat) (W T:Fr):Nat:=open Classical in if h:∃ps,xnT then tots h.choose else 0
def gH (h:xnT):xz4 u=xdb:=by
 have e:∃ps,xnT:=⟨ps,h⟩;show xc2 cst (dif_pos e) (NK.uniq e.choose_spec h)
def gx4 {os:xFE}(hi:i<4):xaU ([xjE 0,xjE 1,xjE 2,xjE 3]:M2)=xap xzd:=by
 rcases i with _|_|_|_|i
 all_goals first|rfl|exact xdX Τ (xaG (xaG (xaG xeH))) (.n 4) hi
def ix4 {os:xFE}(e:xaU ([xjE 0,xjE 1,xjE 2,xjE 3]:M2)=xaw):i<4/\v=xjE i:=by
 have hi:i<4:=xdN e;show π (gx4 hi) e ⟨hi,xIW e⟩
noncomputable def cs (C0 C1 C2 C3:LV):xFE
 |0=>C0
 |1=>C1
 |2=>C2
 |_=>C3
structure VZ (K:Frag)(mg:Α)(B D C CW C0 C1 C2 C3:LV):Prop where
 S0:XN K mg B D C
 runsof:Wp "runs_of" iw xCZ
 raw:Raw K mg C0 CW
 run:Run K mg C1 CW
 cpy:Cpy K mg C2 CW
 shr:Shr K mg C3 CW
 ways:Wp "ways" x6 []
def VZ.ok (Z:xBp G)(hi:i<4):Su P w K mg base B D (xL4 i) i:=by
 obtain⟨_,_,Ro⟩:=Z.runsof
 match i,hi with
 |0,_=>exact AO Z.raw Z.S0
 |1,_=>exact Bb Z.run Z.S0 Ro
 |2,_=>exact A9 Z.cpy Z.S0
 |3,_=>exact Cl Z.shr Z.S0
def bD (np:xi3)(nd:xAJ):xef (xkA (xra d p) p C d):=λ c o e=>by
 rw [xkt np,xkt nd];exact e
inductive W4 (C:xFE) (vs:M2) (H:Hp) (Q:VK) (Ml:XK):Prop
 |mk (h0:vs=[]) (h1:∀(l:LV) (os ds:xFE) (H':Hp),Ι->(∀i,i<4->Χ xzd)->xaz=XL [xjE 0,xjE 1,xjE 2,xjE 3]->(∀i,i<4->H' xzd=xkG (C i) (ds i) [])->Κ->xat):W4 C vs H Q Ml
def Bp:ST [] [] x6:=Os
def tD (F:xaL "ways" "ways" x6)(Z:xBp G):xdl [] (W4 xL4):=by
 show xao Bp (λ L9 A outer st H vs Q E hr h=>?_);show xck rfl k h (xjK (aQ (xvN (ii Z.raw.W.mkb Z7 Z.raw.m) (ii Z.run.W.mkb Z7 Z.run.m) (ii Z.cpy.W.mkb Z7 Z.cpy.m) (ii Z.shr.W.mkb Z7 Z.shr.m))));intro p0 d0 n0 m0 e0 p1 d1 n1 m1 e1 p2 d2 n2 m2 e2 p3 d3 n3 m3 e3;have s0:=xkY C0 n0 m0;show xdg g0 ((xkA (xra d0 p0) p0 C0 d0) p0=_) i' (xkA (xra d0 p0) p0 C0 d0) H1;have s1:=xkY C1 n1 m1;show xdg g1 ((xkA (xt4 H1 d1 p1) p1 C1 d1) p1=_) i' (xkA (xt4 H1 d1 p1) p1 C1 d1) H2;have s2:=xkY C2 n2 m2;show xdg g2 ((xkA (xt4 H2 d2 p2) p2 C2 d2) p2=_) i' (xkA (xt4 H2 d2 p2) p2 C2 d2) H3;have s3:=xkY C3 n3 m3;show xdg g3 ((xkA (xt4 H3 d3 p3) p3 C3 d3) p3=_) i' (xkA (xt4 H3 d3 p3) p3 C3 d3) H4;have YG:xjZ:=λ c o e=>xcR xrK
 have Ui:xef H3:=λ c o e=>xcg (YG _ _ e)
 have s04:xLb:=λ c o e=>xbZ (Ui _ _ e)
 have Uh:xFf H4:=λ c o e=>xyR xcs
 have s24:xrW H4:=λ c o e=>xyR e
 refine xen (by show xe7 (xgw 4)) l nl;have s5:Mf H4 (xdw H4 [.ref p0,.ref p1,.ref p2,.ref p3]):=λ c o e=>xeb (xmX nl) e
 refine xfp (cs p0 p1 p2 p3) (cs d0 d1 d2 d3) _ (xoG s04) (P3 i hi) i' (P3 i hi) (λ c o e=>xbb (s04 _ _ e))
 ·match i,hi with
  |0,_=>exact n0
  |1,_=>exact xkU n1
  |2,_=>exact none_of YG n2
  |3,_=>exact xO4 Ui
 ·match i,hi with
  |0,_=>exact xbb (xBh g0)
  |1,_=>exact xbb (s24 _ _ g1)
  |2,_=>exact xbb (xbZ g2)
  |3,_=>exact xbb g3
def ke {x y z:Str}{a b c:LV}(h:xCg [(y,a),(z,b)]=xa7):(x=y/\c=a)\/(x=z/\c=b):=by
 show xzg List.lookup h h
 ·rename_i e
  cases h;show xa8 (xcM (by show xuX))
 ·show xzg List.lookup h h
  ·rename_i e
   cases h;show xdG (xcM (by show xuX))
  ·cases h
structure Sn (K:Frag)(x qual:Str)(st:L7)(dV:LW)(c f:LV)(fd:L0):Prop where
 ex:∃(oc:LW) (od:xiy) (kV doc pm:LW) (an:xiy) (ct:LW) (osl:xoK),
  fd=xCw x qual dV doc pm an xDn ct/\xGC fd/\xFC K xDn
 kp:xiU
def Sn.ok (F:Sn K x qual st dV c f fd)(S:ST N ps st)
  (hb:∀(A:L3) (outer:xgO) (s:LX) (H:Hp) (vs:M2) (Q:VK) (E:XK),xHK k (PyProof.Rows.envOfC qual xtl s.heap.objs.size f xDn)->xhp->
   let X:=(xII Mq P w K mg N xtl f xDn A outer s H E).nox;∃t,xiR xGR t/\xEo H' xxg Q xm7 H) (len:xOc (∀vs H Q E,xhp->xtG)):xAh (k+1) sp:=by
 obtain⟨oc,od,kV,doc,pm,an,ct,osl,rfl,lk,QG⟩:=F.ex;refine vU lk QG S len λ A outer s H vs Q E hr Rq=>?_
 show xbp t h q (hb A outer s H vs Q E hr Rq) ⟨t,h.nox,q⟩
abbrev AU:Pos:=⟨501,27,501,61⟩
abbrev QH (Tb:LV)(H:Hp):Prop:=Px Tb AU ("best_way.<locals>."++"<lambda>") H
def _root_.L2.Px.ne (h:Px Tb p q H)(e:UF=Id)(hn:∀ps,o≠ xC7):xrU a:=by
 show xl9;obtain⟨ps,e',_⟩:=h;show π e e' (hn ps (Fx e'))
def _root_.L2.Px.sq (h:Px Tb p q H)(hK:xpr)(e:xh9):xrU a:=by
 rcases e with(e|⟨o,e⟩)|⟨o,its,n,e,_⟩
 ·exact h.ne e (by intro ps z;cases z)
 ·exact h.ne e (by intro ps z;cases z)
 ·show xl9;show xpS hK
def NR.sameT (h:xjb)(t:xsD)(s:k8 Tb H H'):NR H' x W:=by
 rcases h with h|⟨a,e,h⟩
 ·show xa8 h
 ·show xdG ⟨a,e,xft (t.ne h (by intro ps z;cases z)) h⟩
inductive Xk (Tb:LV) (C:xFE) (vs:M2) (H:Hp) (Q:VK) (Ml:XK):Prop
 |mk (a:LV) (x:V) (T W:Fr) (h0:vs=[Γ,x]) (h1:UF=xcf) (h2:xjb) (h3:xi9) (h4:xsD) (h5:∀(i:Nat) (o dx:LV) (H':Hp),i<4->Χ o->H' o=xfC (C i) []->(∀j,j<4->xGl≤xz4 j/\(j<i->xGl<xz4 j))->k8 Tb H H'->xvu->xcP xgX):Xk Tb C vs H Q Ml
def AE:ST Jae Jae jH:=Os
def zI (F:Sn K "best_way" "best_way" jH dV c f fd)(Z:xBp G)(hm:xXs)(hC:xnP)(hB:xns)(hK:xpr):
  xam 39 Jae (Xk Tb xL4):=by
 show xOf Wy Z.ways AE (λ A outer st H vs Q E hr h=>?_);obtain⟨a,x,T,W,rfl,ha,hx,tw,hT,k⟩:=h;have Mw:xbg:=Ty;have hn:=xDf;refine xjK (zu (k:=36) (y:="way") (Nc:=["text","before"]) (js:=[0,1]) (cl:=[("text",xB2 1),("before",xB2 1+1)]) (P:=Tb) (c:=c) hn hr Z7 hm
  ⟨rfl,rfl,rfl,Z8,rfl,Z7,λ x c h=>?c0,λ x hx=>?c1,rfl,λ i x j h1 h2=>?c2⟩ rfl hC hB Z7 (λ pm cd ct u=>Z7)
  (λ f' c' s H=>pO (P:=P) (w:=w) (K:=K) (mg:=mg) (base:=base) (k:=36) rfl rfl rfl rfl rfl PP (hr.in1.deeper _) (xfy No Ps))
  (xcw (oF (tD Wy.F Z) Mw Z7 Wy.m Wy.F.kp Wy.b .nil bf)))
 case c0=>
  rcases ke h with⟨rfl,rfl⟩|⟨rfl,rfl⟩<;>rfl
 case c1=>
  rcases hx with hx|hx
  ·have m':(x,NameKind.cell)∈([xqO "way",("before",.free),("text",.free)]:xtO):=xvj;simp at m'
  ·have m':(x,NameKind.free)∈([xqO "way",("before",.free),("text",.free)]:xtO):=xvj;have e:x="before"\/x="text":=by simpa using m'
   rcases e with rfl|rfl<;>exact xbs
 case c2=>rcases slotsL h1 h2 with⟨rfl,rfl⟩|⟨rfl,rfl⟩<;>exact xMk (λ c h=>h)
 refine xgB (λ l os ds H1 nl no hl ho s1=>⟨l,_,λ i=>LT xGl,rfl,xKn hl,Nat.zero_lt_succ _,xH7,λ c xs h=>(xH7).sq hK h,Ε H2 sT Wm⟩);have O4:=xH7;have ho2:∀i,i<4->H2 xzd=xkG (xL4 i) (ds i) []:=λ i hi=>xqa (O4.ne (ho i hi) (by intro ps z;cases z)) (ho i hi)
 refine⟨λ i v H' hv sm=>?_,λ i v H' hv Yx sm=>?_⟩
 ·show xc4 hi (ix4 hv);have WK:=Z.ok (P:=P) (w:=w) (base:=base) hi;obtain⟨fc,fdc,mc,bc,Gc⟩:=WK.cost;refine⟨_,rfl,xzd,_,ds i,[],fc,fdc,_,_,rfl,xhK (ho2 i hi),rfl,WK.cl,mc,Gc,bc,_,rfl,_,rfl,xzd,ds i,a,x,T,W,rfl,xhK (ho2 i hi),xhK (xqa (O4.ne xlp (by intro ps z;cases z)) xlp),((xUZ).sameT O4 sT).same sm,tw,λ ps XO Vq sm2=>xSz sm2⟩;show vN xdb=vN xGl;rw [gH Vq]
 ·show xc4 hi (ix4 hv);refine k i xzd (ds i) H' hi (no i hi) (xhK (ho2 i hi)) xvZ (λ c o n e=>xhK (xqa n xcs)) (Wm.same sm);show xcb z1 z2 (Yx j hj) ⟨Ld.mp z1,λ hji=>IL.mp (z2 hji)⟩
universe K30
namespace CK
noncomputable def T (w p s:Nat):Nat:=((s*2)%2^w)^^^xfT (xO5 w 1) p 0
def ya (a b:Nat):(a^^^b)*2=(a*2)^^^(b*2):=by
 have h:= @Lj 1 a b;rw [Jk,Jk,Jk] at h;show xuY
def C5 (w p a b:Nat):xhr (a^^^b)=xhr a^^^xhr b:=by
 unfold T;rw [ya,Nat.xor_mod_two_pow,LJ];cases ha:a.testBit (w-1)<;>cases hb:b.testBit (w-1)
 ·simp
 ·simp [HB]
 ·simp;rw [HB,JX (b*2%2^w),<-HB]
 ·simp;rw [HB (a*2%2^w),JX p,HB (b*2%2^w),Nat.xor_self,Nat.xor_zero]
def Cv {w p s:Nat}(hp:p<2^w):xhr s<2^w:=by
 unfold T;refine Lb xXz ?_
 split
 ·exact hp
 ·exact xgU
def D8 {w p s:Nat}(h:s*2<2^w):xhr s=s*2:=by
 unfold T;have hb:Μ (xO5 w 1):=by
  refine Kk ?_;cases w with
  |zero=>show xbG;lia
  |succ w=>rw [Gj] at h;simp;exact Nat.lt_of_mul_lt_mul_right h
 rw [hb,Gx h];simp
noncomputable def Tn (w p:Nat):xby xbz
 |0,s=>s
 |n+1,s=>xhr (xwH s)
def CJ (w p n a b:Nat):xwH (a^^^b)=xwH a^^^xwH b:=by
 induction n with
 |zero=>rfl
 |succ n ih=>show xhr (xwH (a^^^b))=_;rw [ih,C5];rfl
def Tn_lt {w p n s:Nat}(hp:p<2^w)(hs:s<2^w):xwH s<2^w:=by
 cases n with
 |zero=>exact hs
 |succ n=>exact Cv hp
def DS {w p n s:Nat}(h:s*2^n<2^w):xwH s=s*2^n:=by
 induction n with
 |zero=>simp [Tn]
 |succ n ih=>
  have h':s*2^n*2<2^w:=by rw [Gj,<-FV] at h;exact h
  show xhr (xwH s)=_;rw [ih (Nat.lt_of_add_left_lt h'),D8 h',Gj,FV]
noncomputable def F (w p:Nat):xmK xbz
 |0,s,_=>s
 |m+1,s,V=>xhr (xma m (V/2)^^^((V%2)*2^(w-1)))
def dS (a b k:Nat)(hb:b<2^k):(a*2^k)^^^b=a*2^k+b:=by
 show xaK h (Nat.two_pow_add_eq_or_of_lt hb a) F2 h;rw [h];apply Nat.eq_of_testBit_eq;intro i;rw [LJ,Nat.testBit_or,Nat.testBit_mul_two_pow];by_cases hi:i<k
 ·have:¬k≤i:=Lw hi;simp [this]
 ·have ZP:Μ (b.testBit i):=Kk (EM hb (xiT (FS hi)));simp [ZP]
def dU (a b k:Nat):(a*2^k)^^^(b*2^k)=(a^^^b)*2^k:=by
 have h:= @Lj k a b;rw [Jk,Jk,Jk] at h;exact h.symm
theorem DQ {w p:Nat}:∀(m:Nat) (s V:Nat),m≤w->xma m V=xJq m (s^^^((V%2^m)*2^(w-m)))
 |0,s,V,_=>by simp [F,Tn,Nat.mod_one]
 |m+1,s,V,h=>by
  show xhr (xma m (V/2)^^^((V%2)*2^(w-1)))=xhr (xJq m _);rw [DQ m s (V/2) (G1 h)];have e1:(V%2)*2^(w-1)=xJq m ((V%2)*2^(w-(m+1))):=by
   have e:(V%2)*2^(w-(m+1))*2^m=(V%2)*2^(w-1):=by rw [FV,<-Hh];congr 2;exact(ED (xdF [_,_,_,_] (xbi xb1) (xgg xaS) Pi τ (xnd NE h)) (xae [_,_,_,_] (xbi xht) (xrq xb1) WF Pi τ (xnd xaH h)))
   rw [DS,e];rw [e];have h2:V%2<2:=xls;have h3:2^w=2*2^(w-1):=by rw [<-J3];congr 1;exact xcY (xaf [_,_] IO Β IO Β τ) [_,_] Β IO Β IO (xdE Β IO xaH IO h)
   show LE h3 (xIC xgU h2)
  rw [e1,<-CJ,HB];congr 3;have e2:2^(w-m)=2*2^(w-(m+1)):=by rw [<-J3];congr 1;exact xfU (xae [_,_,_,_] (xbi xcB) (xrq xhG) IO Β τ (xAl h)) [_,_,_,_] (xbi xhG) xJn Β τ (xnd NE h)
  rw [e2,<-FV,dU];congr 1;have h2:V%2<2^1:=xls;show xg7 (dS (V/2%2^m) (V%2) 1 h2) Nat.pow_one;rw [this,Gj,F2 (2^m) 2,LS];exact xcK [_,_] (xdf xQ8) (xaV xjI) [_,_] (xaV xjI) (xdf xQ8)
theorem vR (w p j:Nat):∀(m s V:Nat),xma (j+m) V=F w p m (xma j (V/2^m)) V
 |0,s,V=>by simp [F]
 |m+1,s,V=>by
  show xhr (xma (j+m) (V/2)^^^_)=xhr (F w p m (xma j (V/2^(m+1))) (V/2)^^^_);rw [vR w p j m s (V/2),Kj,<-J3]
def B (w p s b:Nat):Nat:=xJq 8 (s^^^(b*2^(w-8)))
def G (w p:Nat):xmK xbz
 |0,s,_=>s
 |n+1,s,V=>B w p (G w p n s (V/256)) (V%256)
theorem G_F {w p:Nat}(hw:8≤w):∀(n s V:Nat),G w p n s V=xma (8*n) V
 |0,s,V=>rfl
 |n+1,s,V=>by
  show B w p (G w p n s (V/256)) (V%256)=_;rw [G_F hw n s (V/256),Nat.mul_succ,vR,DQ 8 _ _ hw];rfl
def G_lt {w p n s V:Nat}(hp:p<2^w)(hs:s<2^w):G w p n s V<2^w:=by
 cases n with
 |zero=>exact hs
 |succ n=>exact Cv hp
universe CK
namespace K30.Ck
open PySem L2 QQ BP
seal PE PA PS PSs PT PW PG PI
abbrev tJ:L7:=top 34
abbrev sCInit:L7:=xql 35
abbrev BI:L7:=xqk 35
abbrev qO:L7:=xs9 35
abbrev jO:L7:=top 36
structure Txt (K:Frag)(mg:Α):Prop where
 R:xlX
 tabA:∃d,mg "ALL_ONES"=xhd/\T6 K d 255 65535
 tabL:∃d,mg "LOWER_BITS"=xhd/\T6 K d 29 45
def oC (a):∀b,a+b=(a^^^b)+2*(a&&& b):=by
 induction a using Nat.strongRecOn with
 |_ a ih=>
  intro b;by_cases h0:a=0
  ·subst h0;simp
  ·have h:=ih (a/2) (Nat.bitwise_rec_lemma h0) (b/2);have e1:(a^^^b)/2=a/2^^^b/2:=Nat.xor_div_two_pow (n:=1);have e2:(a&&& b)/2=a/2&&& b/2:=Nat.and_div_two_pow (n:=1);have m1:(a^^^b)%2=a%2^^^b%2:=Nat.xor_mod_two_pow (n:=1);have m2:(a&&& b)%2=a%2&&& b%2:=Nat.and_mod_two_pow (n:=1);have d1:=HF (a^^^b) 2;have d2:=HF (a&&& b) 2;rw [e1,m1] at d1;rw [e2,m2] at d2;clear e1 e2 m1 m2 ih h0;have k:a%2+b%2=(a%2^^^b%2)+2*(a%2&&& b%2):=by
    rcases JE a with e|e<;>rcases JE b with f|f<;>rw [e,f]<;>rfl
   have:=HF a 2;have:=HF b 2;generalize a/2^^^b/2=u,a/2&&& b/2=v,a%2^^^b%2=x,a%2&&& b%2=y,a^^^b=m,a&&& b=n,a/2=q,b/2=r,a%2=t,b%2=z at*;lia
def iy (a b:Nat):x0b a xpx=LT (a^^^b):=by
 have e:x0b a xpx=XV a+xpx-2*xTC a xpx:=by
  show xci Builtin.bitXor PyProof.Rows.bitOr_and;lia
 rw [e,Kl Z5 xd1,E2,E2];have:=oC a b;lia
def WP (w p:Nat):Prop:=(w=8/\p=29)\/(w=16/\p=45)
def WP.facts (h:WP w p):8≤w/\w≤16/\p%2=1/\p<2^w:=by
 rcases h with⟨rfl,rfl⟩|⟨rfl,rfl⟩<;>decide
def Ei (hw:0<w)(hs:s<2^w):CK.T w p s=xbc (s/2^(w-1)) 1 (s*2%2^w^^^p) (s*2%2^w):=by
 show xci CK.T IR;have h2:s/2^(w-1)<2:=KJ (by
  have:2^(w-1)*2=2^w:=by rw [<-Gj];congr 1;exact Js hw
  exact EW hs this.symm)
 show xbx (s/2^(w-1)) 1 h h
 ·have e:s/2^(w-1)=0:=Nat.lt_one_iff.mp h;show xb8 e
 ·have e:s/2^(w-1)=1:=ED (Nat.lt_succ_iff.mp h2) h;show xb8 e
def crc (w p s:Nat)(R:Fr):Nat:=R.foldl (CK.B w p) s
def p8 (w p s)(R)(b):crc w p s (R++xey)=CK.B w p (crc w p s R) b:=by
 show xci crc IT;rfl
def Ar:∀n R,xEY n->xAM->crc w p s R=CK.G w p n s xt1:=by
 intro n
 induction n with
 |zero=>
  intro R h _;have e:R=[]:=GE.mp h;subst e;rfl
 |succ n ih=>
  intro R h hb;obtain⟨A,b,rfl⟩:∃A b,R=A++xey:=by
   rcases List.eq_nil_or_concat R with e|⟨A,b,e⟩
   ·subst e;show xbG
   ·exact⟨A,b,by show xuX⟩
  have hbb:xAS:=xj4 Z6;rw [EB,II] at h;rw [p8,ih A (Nat.add_right_cancel h) λ x hx=>xpJ (xpP hx),BP.NC];show _=CK.B w p (CK.G w p n s ((xIM*256+b)/256)) ((xIM*256+b)%256);have e1:(xIM*256+b)/256=xIM:=(ED (xdv 256 [_,_,_] (xgg (xgH 256)) (xaZ 256 (xel (xzI 256))) IO Sc (xnx hbb)) (xdv 256 [_,_,_] (xaG (xel (xzI 256))) (xa4 (xgH 256) 256) Sc IO xsp));have e2:(xIM*256+b)%256=b:=xfU (xcI [_,_,_,_] (xyS 256 (xR1 IO)) (xR1 (xdf (.w xaS 256))) (xk2 256 e1.symm) (EC (HF _ _))) [_,_,_,_] (xR1 (xdf (.w xaS 256))) (xyS 256 (xR1 IO)) Sc (xk2 256 e1) (xRD (HF _ _));rw [e1,e2]
def xi {R:Fr}(hp:p<2^w)(hs:s<2^w)(hb:xi4):crc w p s R<2^w:=by
 show LE (Ar R.length R rfl hb) (CK.G_lt hp hs)
inductive T9 (vs:M2) (H:Hp) (Q:VK) (Ml:XK):Prop
 |mk (n p s b:Nat) (h0:vs=[xcV,xd6,xcG]) (h1:WP n p) (h2:s<2^n) (h3:xAS) (h4:xn2 (CK.B n p s b)):T9 vs H Q Ml
def OW:ST ["state","byte","wide","step","goes_out"] xGo tJ:=Os
def zS (F:Δ "with_byte" tJ xGo)(X:xbN):xdl xGo T9:=by
 obtain⟨dA,mA,tA⟩:=X.tabA;show xbd dL mL tL X.tabL (F.F.ok OW λ L9 A outer st H vs Q E hr h=>?_)
 intro _;obtain⟨n,p,s,b,rfl,hw,hs,hb,q⟩:=h;obtain⟨h8,VW,hodd,hp⟩:=hw.facts;refine xca (xa6 0 OW.nd (ak ou PP (xLr No xP1)) (xg0 (bF rfl X.R.X.range (xcw ad)) 3 OW.nd (xdD 4 OW.nd (xzJ PP xP1) 0 OW.nd (ak iD (xf3 cB PP) (aJ nN (xzi dA Z7 mA) Ps xkF)) (xg3 bd χ ad (xtb 0 OW.nd (ak ou PP (aJ nN (xzi dL Z7 mL) Ps xkF))) az))) PP)
 have e8:xay-8=LT (n-8):=Z5;have e1':xay-1=LT (n-1):=Z5;refine⟨_,rfl,_,rfl,_,rfl,_,_,rfl,rfl,?_⟩
 try dsimp only
 show Uf e8 ⟨_,_,rfl,rfl,⟨xd1,xj9 (xmg [_,_] xaR (xff 16) IO 1000000 VW xet),Z5⟩,_,_,rfl,rfl,?_⟩
 try dsimp only
 rw [eV,iy];have hs0:s^^^b*2^(n-8)<2^n:=by
  refine Lb hs ?_;have:b*2^(n-8)<2^8*2^(n-8):=xIC xgU hb;rw [<-Hh,show 8+(n-8)=n by exact xif (xfk (xcT 8) (xdP 8) (xl6 xiG xiG h8)) [_,_] (xcT 8) (xdP 8) τ] at this;exact this
 refine⟨8,rfl,Z9,Z9,xnN 0 8 (λ i σ H2=>∃v3 v4,σ=[UV (xQB p i (s^^^b*2^(n-8))),xhl,xhk,v3,v4]/\H2=H) (xc8 none none rfl) ?_ ?_⟩
 ·rintro i σ H2 hi ⟨v3,v4,rfl,rfl⟩;have Mb:=CK.Tn_lt (n:=i) hp hs0;have eT:xQB p (i+1) (s^^^b*2^(n-8))=CK.T n p (xQB p i (s^^^b*2^(n-8))):=rfl;rw [eT];generalize xQB p i (s^^^b*2^(n-8))=z at*;have hz16:z<2^16:=EM Mb (xiT VW);have go:=Ei (p:=p) (Lm h8) Mb;refine⟨_,rfl,_,rfl,_,_,rfl,rfl,?_⟩
  try dsimp only
  show Uf e1' (xeO _ _ rfl xu5 ?_)
  try dsimp only
  rw [gk];have em:XV z*2^xON=LT (z*2):=eV z 1;refine⟨_,rfl,_,_,rfl,rfl,⟨Z9,Z9,Z5⟩,_,rfl,dA,_,_,_,rfl,rfl,.inl tA,?_⟩;show xOq hw rfl rfl rfl
  ·refine .inl (xeO rfl _ _ rfl ?_)
   try dsimp only
   rw [em,Ω (x1s (LT (z*2))) (LT (z*2%2^8)) (eh (z*2) 8)];refine xdy xj5
   ·have NU:z/2^(8-1)=1:=by show xaE (xCd h1) (Ih ((xTY) this.symm))
    rw [E5 NU] at go;refine⟨_,rfl,_,rfl,dL,_,_,_,rfl,rfl,.inl tL,.inl (xeO rfl _ _ rfl ?_)⟩
    try dsimp only
    rw [Ω (x0c (z*2%2^8) 29) (LT (z*2%2^8^^^29)) (iy _ 29),go];exact xGG _
   ·have NU:¬z/2^(8-1)=1:=λ e=>h1 (EJ (xB9 (xSO (ED (xim Τ IO 1 IO xaH (EC e)) (xaf Τ xaH IO xaH IO xkR)))))
    rw [ES NU] at go;show LE go (xGG _)
  ·refine .inr (xeO rfl _ _ rfl ?_)
   try dsimp only
   rw [em,Ω (Builtin.bitAnd (LT (z*2)) 65535) (LT (z*2%2^16)) (eh (z*2) 16)];refine xdy xj5
   ·have NU:z/2^(16-1)=1:=by show xaE (xCd h1) (Ih ((xTY) this.symm))
    rw [E5 NU] at go;refine⟨_,rfl,_,rfl,dL,_,_,_,rfl,rfl,.inl tL,.inr (xeO rfl _ _ rfl ?_)⟩
    try dsimp only
    rw [Ω (x0c (z*2%2^16) 45) (LT (z*2%2^16^^^45)) (iy _ 45),go];exact xGG _
   ·have NU:¬z/2^(16-1)=1:=λ e=>h1 (EJ (xB9 (xSO (ED (xim Τ IO 1 IO xaH (EC e)) (xaf Τ xaH IO xaH IO xkR)))))
    rw [ES NU] at go;show LE go (xGG _)
 ·rintro σ H2 ⟨v3,v4,rfl,rfl⟩;exact xaJ q
def pE:¬(xWx="state"):=Z8
noncomputable def fC (n s:Nat):xfn:=[("wide",xcG),("state",xcV)]
def iu (n s):xe1 "state" s (xQo n [])=xz8:=by
 show(xcW "wide" "state" (xWx,xcG) [("state",xcV)])=_;show xak xzC
def xC (n s s'):xe1 "state" s' xz8=fC n s':=by
 show(xcW "wide" "state" (xWx,xcG) (xik "state" "state" [(xcx "state",vN s')] _))=_;rw [xzC,xai];rfl
def oT (n s):xds xz8 "wide"=xhk:=by
 rw [<-iu,ap,xzC,ap,xai]
def kD (n s):xds xz8 "state"=xi0:=by
 rw [<-iu,ap,xai]
def fC_no (n s){m:Str}(h1:xl8 "state")(h2:xl8 "wide"):xmt xz8 m:=by
 rw [<-iu,ap,xpg,ap,xno];rfl
def xQ (n s):xFr xz8:=by show xdi 2
structure CC (K:Frag)(mg:Α)(C:LV):Prop where
 cl:xhm
 nW:xdC "wide"
 nS:xdC "state"
 m:mg "Check"=xiZ
inductive spCInit (C:LV) (vs:M2) (H:Hp) (Q:VK) (Ml:XK):Prop
 |mk (p dx:LV) (n q:Nat) (h0:vs=[xbV,xcG]) (h1:WP n q) (h2:xbF=xzN) (h3:∀H':Hp,xwq=xoY n (2^n-1)->xdH (∀b o,xaN=Id->xhn->xeN=Id)):xOd vs H Q Ml
def scCInit:ST xHJ xHJ sCInit:=Os
def ok_cinit {f fW:LV}(F:xWP dV f fd)(W:xF6)(T:CC K mg C)(X:xbN):xsA xHJ xOd:=by
 have GW:xp7 fW QO Jab N4:=fJ W X.R.X;show xbd dA mA tA X.tabA (F.ok scCInit λ L9 A outer st H vs Q E hr h=>?_)
 intro _;obtain⟨p,dx,n,q,rfl,hw,hp,k⟩:=h;show xax (ab (xzf (xqM (xfe GW hr W No ad ad)) (aq mF No (xzi dA Z7 mA) Z7))
  (xu2 No (aJ nN (xzi dA Z7 mA) No xkF))) ⟨_,rfl,_,_,_,rfl,_,rfl,?_⟩;have e1:SL (xhH xkd xay&&xhH xay 16):=by
  obtain⟨h8,VW,_⟩:=hw.facts;rw [EJ (Int.toNat_le.mp h8),xrR];rfl
 show xs5 xiS;have hn:xay=8\/xay=16:=by rcases hw with⟨rfl,_⟩|⟨rfl,_⟩<;>simp
 show xnm ⟨_,rfl,dA,_,_,_,rfl,rfl,tA,hn,_,rfl,xiS⟩ ⟨_,rfl,_,rfl,p,C,dx,_,rfl,hp,T.cl,T.nW,(by show xdi 0),?_⟩ ⟨_,rfl,dA,_,_,_,rfl,rfl,.inl tA,?_⟩;have fin:∀z,z=LT (2^n-1)->xlj (xfm (xfm H (xQo n [])) (putF "state" (.int z) (xQo n []))):=λ z ez=>by
  rw [ez,Ω (putF "state" (V.int (LT (2^n-1))) (xQo n [])) (fC n (2^n-1)) (iu n _)];refine xeR i' λ b o e hb=>?_
  rw [xnn,xnn];exact e
 show xOq hw rfl rfl rfl
 ·show xa8 ⟨rfl,_,rfl,p,C,dx,_,rfl,i',T.cl,T.nS,(by show xdi 1),fin _ rfl⟩
 ·show xdG ⟨rfl,_,rfl,p,C,dx,_,rfl,i',T.cl,T.nS,(by show xdi 1),fin _ rfl⟩
inductive Zn (C:LV) (vs:M2) (H:Hp) (Q:VK) (Ml:XK):Prop
 |mk (p dx a:LV) (n q s:Nat) (B:Fr) (h0:vs=xnX) (h1:WP n q) (h2:s<2^n) (h3:xbF=xoY n s) (h4:UF=xfQ) (h5:xAO) (h6:∀H':Hp,xwq=xoY n (crc n q s B)->xdH (∀b o,xaN=Id->xhn->xeN=Id)):Zn C vs H Q Ml
def Zo:ST (xtU "row" "byte") Jal BI:=Os
def wj {f fN fR fW fY:LV}(F:xaL "add" "Check.add" BI)(N:xL6)(R:xbD "is_row" jQ Jag fR fdR)(W:xF6)
  (Y:xbD "with_byte" tJ xGo fY fdY) (T:CC K mg C) (X:xbN):xam 5 Jal (Zn C):=by
 have GN:xrF 4 fN TJ Jag spNeedRow:=bU N X.R;have GY:xp7 fY fdY xGo T9:=zS Y X;show xao Zo (λ L9 A outer st H vs Q E hr h=>?_);obtain⟨p,dx,a,n,q,s,B,rfl,hw,hs,hp,ha,hb,k⟩:=h;obtain⟨h8,VW,hodd,hq⟩:=hw.facts;have Mw:xbg:=Ty;show xax (ac (xnc (xd2 GN N No) 2 Zo.nd (xDc (xfe GY Mw Y Ζ Ps Ζ)))) (xc0 a B ha hb (P3 l hl));have npl:p≠l:=xrY hl;refine xGx l i' (bW (K:=K) (a:=l) (xs:=xeC) (λ i σ H2=>∃v:xdu,σ=[xfX,xaQ,v]/\H2 p=xoY n (crc n q s xqK)/\xh3=xfQ/\∀b o,xaN=Id->xhn->H2 b=Id)
  ⟨none,rfl,by show υ npl hp,i',λ b o e _=>by show xgr hl e⟩ (λ i σ H2 _ z9=>by obtain⟨_,_,_,e,_⟩:=z9;exact Mm.of e) ?_ ?_)
 ·rintro i y σ H2 hi ⟨v,rfl,ME,MD,RH⟩;show xlv b MR hi;have Pn:=xSF;have Mb:crc n q s xqK<2^n:=xi hq hs λ x hx=>xpJ (FN hx)
  show xnm ⟨_,rfl,p,C,dx,_,_,rfl,ME,T.cl,T.nS,kD _ _,_,rfl,_,rfl,p,C,dx,_,_,rfl,ME,T.cl,T.nW,oT _ _,n,q,_,b,rfl,hw,Mb,Pn,?_⟩ ⟨_,rfl,p,C,dx,_,rfl,ME,T.cl,T.nS,xQ _ _,?_⟩ ⟨xhl,rfl,?_,by show υ npl.symm MD,λ c o e hc=>by show υ hc (RH c o e hc)⟩;rw [i',xC,xFj,p8]
 ·rintro σ H2 ⟨v,rfl,ME,MD,RH⟩;rw [EA,Fs] at ME;exact k H2 ME RH
inductive UC (C:LV) (vs:M2) (H:Hp) (Q:VK) (Ml:XK):Prop
 |mk (p dx:LV) (n s:Nat) (h0:vs=xbk) (h1:xbF=xoY n s) (h2:xf0 xcV):UC C vs H Q Ml
def zn:xdW qO:=Os
def oQ (F:xaL "value" "Check.value" qO)(T:CC K mg C):xh5 (UC C):=by
 show xao zn (λ L9 A outer st H vs Q E hr h=>?_);show xiN p dx n s rfl hp k;refine xjK Ζ;exact⟨_,rfl,p,C,dx,_,_,rfl,hp,T.cl,T.nS,kD _ _,k⟩
def chk (n q:Nat)(B:Fr):Nat:=crc n q (2^n-1) B
inductive Q9 (vs:M2) (H:Hp) (Q:VK) (Ml:XK):Prop
 |mk (a:LV) (n q:Nat) (B:Fr) (h0:vs=[Γ,xcG]) (h1:WP n q) (h2:UF=xfQ) (h3:xAO) (h4:xez (Κ->xmZ (chk n q B))):Q9 vs H Q Ml
def Rj:ST ["row","wide","check"] ["row","wide"] jO:=Os
structure Chk (K:Frag)(mg:Α)(C:LV):Prop where
 X:xbN
 T:CC K mg C
 whole:xMf
 isrow:Wp "is_row" jQ Jag
 needrow:xOu ca Jag
 withb:Wp "with_byte" tJ xGo
 init:∃f fd dV,xWP dV f fd/\xlh xHJ/\xsL
 add:∃f fd,xeV C "add" "Check.add" BI Jal
 value:xic "value" "Check.value" qO
def jL {P:LY}{K:Frag}{mg:Α}{f:LV}{fd:L0}{dV:LW}(F:NB K "check_of" "check_of" jO dV f fd)(Z:Chk K mg C):xam 6 ["row","wide"] Q9:=by
 obtain⟨X,T,⟨_,_,W⟩,⟨_,_,R⟩,⟨_,_,N⟩,⟨_,_,Y⟩,⟨_,_,_,FI,bI,M⟩,⟨_,_,Ad⟩,⟨_,_,Va⟩⟩:=Z;show xao Rj (λ L9 A outer st H vs Q E hr h=>?_);obtain⟨a,n,q,B,rfl,hw,ha,hb,k⟩:=h;have Mw:xbg:=Ty;have NO:xnI:=Ty;show xax (xa6 2 Rj.nd (gp M (xU7 W T X) NO Z7 T.m bI .nil bf (xcw No)) (aC (xgS Ps T.cl Ad (wj Ad.F N R W Y T X) hr PP)) (xKw Ps Va (oQ (mg:=mg) Va.F T) Mw)) (xaJ (λ x dx nx ndx nex=>?_));have s0:xef (xdp (xra dx x) x C dx []):=λ b o e=>by
  rw [xkt nx,xkt ndx];exact e
 refine xdc x dx n q hw i' (λ H1 RO kp=>xjJ);have s1:xrZ:=λ b o e=>kp b o (s0 b o e) xum
 refine⟨_,rfl,x,dx,_,rfl,RO,xDG _,_,rfl,x,dx,a,n,q,_,B,rfl,hw,?_,RO,xlp,hb,Ε H2 YN Rm⟩
 ·show xaE (G6 (n:=n) (show 0<2 from Z9)) (HM this)
 have s2:xjZ:=λ b o e=>Rm b o (s1 b o e) xum
 refine⟨_,rfl,x,dx,_,rfl,YN,xDG _,x,dx,n,_,rfl,YN,k H2 s2⟩
abbrev BA:L7:=top 37
abbrev dN:L7:=top 38
abbrev ie:L7:=top 100
abbrev qH:L7:=xql 101
abbrev xW:L7:=xqk 101
structure FnK (K:Frag)(mg:Α)(x:Str)(st:L7)(ps:xaO)(f:LV)(fd:L0):Prop where
 F:∃dV,xA2 x f fd
 m:xwo=xeL
 b:xps
 d:∃t,xDb K [xdK 16]
theorem FnK.kp (F:FnK K mg x st ps f fd):xiU:=F.F.elim (xrN h.kp)
noncomputable def two (n:Nat):Fr:=[n/256,n%256]
def sld (R:Fr):Fr:=R++xrH
def Md (a b:Nat):Fr:=[a,b,xLZ [a,b]]
def wp8:WP 8 29:=.inl xkP
def iM:WP 16 45:=xt9
def fD (h:WP n q)(hb:xi4):chk n q R<2^n:=by
 show xtz hq h.facts (xi hq (by show xaE (G6 (n:=n) (show 0<2 from Z9)) (HM this)) hb)
def il (h:n<65536):xe3 (two n):=by
 intro b hb;simp only [two,Fa,KF,or_false] at hb;lia
def oA (hb:xi4):xe3 xDx:=λ b h=>xmk h xj4 (il xzD b)
def cX (ha:xch a)(hb:xAS):∀c∈xfW,xch c:=by
 intro c hc;have h8:xch (xLZ [a,b]):=fD wp8 (λ c hc=>by simp at hc;lia);simp only [Md,Fa,KF,or_false] at hc;lia
structure WD (K:Frag)(mg:Α)(C:LV):Prop where
 Z:Chk K mg C
 checkof:∃f fd,FnK K mg "check_of" jO ["row","wide"] f fd
 two:Wp "in_two_bytes" BA xoB
 withcheck:Wp "with_check" dN xdS
 headrow:Wp "head_row" ie xDY
inductive Zh (vs:M2) (H:Hp) (Q:VK) (Ml:XK):Prop
 |mk (n:Nat) (h0:vs=[xcG]) (h1:n<65536) (h2:∀l,Ι->xww (xgz H l (two n))):Zh vs H Q Ml
def DT:ST xoB xoB BA:=Os
def rA (F:Δ "in_two_bytes" BA xoB):xdl xoB Zh:=by
 show xau DT (λ L9 A outer st H vs Q E hr h=>?_);show xo6 n rfl hn k;show xax (xbh (xE2 (xf3 eI PP) (xf3 iD PP))) ⟨_,rfl,_,_,rfl,rfl,(by show xjz (xcU≤8)),_,rfl,_,_,rfl,rfl,(by show xdn),xgo⟩;have e1:xb4/2^Int.toNat 8=LT (n/256):=by
  show xb4/256=_;exact(xid IO IO IO IO)
 have e2:x1s xb4=LT (n%256):=by
  show xaE (eh n 8) this
 try dsimp only
 rw [e1,e2];exact xfp nl
inductive N1 (vs:M2) (H:Hp) (Q:VK) (Ml:XK):Prop
 |mk (a:LV) (R:Fr) (h0:vs=xbL) (h1:UF=xlD) (h2:xAM) (h3:xbC R.length) (h4:∀l H',Ι->Κ->xaz=xah xDx->xat):N1 vs H Q Ml
def qp:ST xdS xdS dN:=Os
def eQ (F:Δ "with_check" dN xdS)(Y:xBd C):xam 7 xdS N1:=by
 obtain⟨_,_,Co⟩:=Y.checkof;obtain⟨_,FC⟩:=Co.F;obtain⟨_,_,Tw⟩:=Y.two;show xhU t16 B16 Co.d qp (λ L9 A outer st H vs Q E hr h=>?_) _;show xiN a R rfl ha hb hl k;have Mw:xbg:=Ty;show xgY (xy8 PP (xl5 (rA Tw) Tw (ci (jL FC Y.Z) hr Z7 Co.m Co.kp B16 (xQT (a:=V.int 16) xbs) bf xoQ))) ⟨_,rfl,_,rfl,a,16,45,R,rfl,iM,ha,hb,P3 H1 s1⟩ (xpI (xmu R) xzD xnl);have s2:=xbe xrH n1;have PZ:xd8 H1 l1 xrH l1=xah xrH:=i';have Of:=xcg xlp;have NJ:=xfz;show xiV H1 l1 xrH H2 ⟨a,l1,_,_,rfl,rfl,Of,PZ,aW (by rw [EA];show xiX (R.length+2);exact(xfN IO 1000 xEd 2000 hl)),xgo⟩;exact xp8 (xoG NJ) xUe (by rw [i',<-EO];rfl)
inductive Q6 (vs:M2) (H:Hp) (Q:VK) (Ml:XK):Prop
 |mk (x y:Nat) (h0:vs=[vN x,xsx]) (h1:xch x) (h2:xch y) (h3:∀l H',Ι->Κ->xaz=xah (Md x y)->xat):Q6 vs H Q Ml
def u9:ST xDY xDY ie:=Os
def gJ (F:Δ "head_row" ie xDY)(Y:xBd C):xam 7 xDY Q6:=by
 obtain⟨_,_,Co⟩:=Y.checkof;obtain⟨_,FC⟩:=Co.F;show xau u9 (λ L9 A outer st H vs Q E hr h=>?_);show xgW x y rfl hx hy k;show xax (xbh (aQ (xin PP No (xwk (jL FC Y.Z) Co.m Co.kp Co.b bf (xmU (xE2 PP No)))))) ⟨_,rfl,_,rfl,_,rfl,_,rfl,(by show xdn),xnl⟩;have s1:=xv0 [vN x,xsx];have PZ:(xpa [vN x,xsx]) l1=XL [vN x,xsx]:=i';show xbU (xpa [vN x,xsx]) H1 ⟨l1,8,29,[x,y],rfl,wp8,PZ,λ c hc=>by simp at hc;omega,λ H2 s2=>xen (by show xe7 3) l nl⟩;exact xp8 (xoG xfz) (xMN xtT) i'
universe K30.Ck
namespace L2
open PySem PySem.Spec PySem.Calls PyProof.Rows QQ PySem.W
def uX {K:Frag}(hP:X.prog=P)(hw:X.w=w)(hK:X.K=K)(hmg:X.mg=mg)(Vu:X.base=base)(he:xAR)(hr:xp1)
    (ht:xal (xGA o m []=(do
      let ov<-xsb
      xBN
      let xEw f<-xBZ [ov] ov m pl
      xDM f xJW xFX))):
    xGB o m [] (wF P w K mg base k m ta kU):=by
  subst hP hw hK hmg Vu
  intro L8 s σ H Q I h
  refine xRc pl (xvL _ I h u) ht
  obtain⟨x,H1,I1,rx,a,C,dx,fs,f,fd,ps,sp,ex,ea,l,c,hm,F,hb,q⟩:=z9
  subst ex
  obtain rfl:u=xfB:=rx
  refine eF I1 ea c hm l ?_
  exact Jg (first:=xbL) I1.kIn hm.kp (xKu xbL (vs:=xbL) F hr hb .nil bf I1 (xmA rfl) q)
universe L2
namespace K30.Ck
open PySem L2 QQ W17 W16 BP
seal PE PA PS PSs PT PW PG PI
abbrev iU:L7:=top 104
def BT:¬(xIO="count"):=Z8
def Dq:¬(xIO="inside"):=Z8
def DA:¬(xcx "count"="inside"):=Z8
noncomputable def fH (a b c:Nat):xfn:=[("way",xAD),("count",xd6),("inside",xi1)]
def oU (a b c):xe1 "inside" c (xe1 "count" b (xe1 "way" a []))=xwP:=by
 show(xe1 "inside" c (xcW "way" "count" (xIO,xAD) [("count",xd6)]))=_;rw [ES BT];show(xcW "way" "inside" (xIO,xAD) (xcW "count" "inside" (xcx "count",xd6) [("inside",xi1)]))=_;rw [ES Dq,ES DA];rfl
def Dz (a b c):xds xwP "way"=UV a:=by rw [<-oU,ap,ES Dq,ap,ES BT,ap,xai]
def DU (a b c):xds xwP "count"=xhl:=by rw [<-oU,ap,ES DA,ap,xai]
def Da (a b c):xds xwP "inside"=UV c:=by rw [<-oU,ap,xai]
def DN (a b c){m:Str}(h1:xl8 "inside")(h2:xl8 "count")(h3:xl8 "way"):xmt xwP m:=by
 rw [<-oU,ap,xpg,ap,xno,ap,ES h3];rfl
structure CH (K:Frag)(mg:Α)(C:LV):Prop where
 cl:xhm
 nW:xdC "way"
 nC:xdC "count"
 nI:xdC "inside"
 m:mg "Head"=xiZ
 init:∃f fd,x1G qH/\xlh ["self","way","count","inside"]/\xsL
 row:xic "row" "Head.row" xW
inductive U0 (C:LV) (vs:M2) (H:Hp) (Q:VK) (Ml:XK):Prop
 |mk (p dx a b c:Nat) (h0:vs=[xbV,xAD,xd6,xi1]) (h1:xbF=xzN) (h2:xez (xwq=xdx xwP->xdH (∀b o,xaN=Id->xhn->xeN=Id))):U0 C vs H Q Ml
def yu:ST ["self","way","count","inside"] ["self","way","count","inside"] qH:=Os
def o3 (F:x1G qH)(T:CH K mg C):xdl ["self","way","count","inside"] (U0 C):=by
 show xao yu (λ L9 A outer st H vs Q E hr h=>?_);obtain⟨p,dx,a,b,c,rfl,hp,k⟩:=h;show xax (xeo No (xu2 Ps TD)) ⟨_,rfl,_,rfl,p,C,dx,[],rfl,hp,T.cl,T.nW,(by show xdi 0),?_⟩;show ρ ⟨_,rfl,_,rfl,p,C,dx,_,rfl,i',T.cl,T.nC,(by show xdi 1),?_⟩ ⟨_,rfl,_,rfl,p,C,dx,_,rfl,i',T.cl,T.nI,(by show xqb (show xaI (xe1 "count" b (xe1 "way" a [])) 2 by show xaI (xcW "way" "count" (xIO,xAD) [("count",xd6)]) 2;show xak (ES BT))),?_⟩;exact xeR (LU i' (xyw l (xIZ C l) (oU a b c))) λ d o e hd=>by rw [ai hd,ai hd,ai hd];exact e
inductive Xg (C:LV) (vs:M2) (H:Hp) (Q:VK) (Ml:XK):Prop
 |mk (p dx a b c:Nat) (h0:vs=xbk) (h1:xbF=xdx xwP) (h2:a<4) (h3:xcJ) (h4:xfY b) (h5:xch c) (h6:∀l H',Ι->Κ->xaz=xah (Md (64*a+b-1) c)->xat):Xg C vs H Q Ml
def B5:xdW xW:=Os
def yD (F:xaL "row" "Head.row" xW)(T:CH K mg C)(Y:xBd CC'):xgJ 8 (Xg C):=by
 show xOf Hr Y.headrow B5 (λ L9 A outer st H vs Q E hr h=>?_);obtain⟨p,dx,a,b,c,rfl,hp,ha,MR,Pn,hc,k⟩:=h;refine xjK (xcQ (gJ Hr Y) hr Hr (xlu (xRC Ζ Ζ)) Ζ);have e1:XV 64*LT a+xd4-1=LT (64*a+b-1):=xmy (Jv MR);refine⟨_,rfl,p,C,dx,_,_,rfl,hp,T.cl,T.nW,Dz _ _ _,_,_,rfl,rfl,xuj,_,rfl,p,C,dx,_,_,rfl,hp,T.cl,T.nC,DU _ _ _,_,_,rfl,rfl,_,_,rfl,rfl,_,rfl,p,C,dx,_,_,rfl,hp,T.cl,T.nI,Da _ _ _,?_⟩
 try dsimp only
 show LE e1 ⟨_,_,rfl,xbl [_,_,_] (xgZ Β xuf) (xkZ 64 4 xXO) NE 256 (xFI ha) (Ez Pn (xdE xaH Sc xaH xXE MR)),hc,k⟩
def PB (W T R:Fr):Prop:=∃i ps Rb,i<4/\(∀j,j<4->xGl≤xz4 j/\(j<i->xGl<xz4 j))/\NK i W T ps/\xL1 Rb/\R=sld (xkM (xob-1)++Rb)
def PB.facts {W T R:Fr}(h:PB W T R)(t:xi9):xAM/\xyi 69:=by
 obtain⟨i,ps,Rb,hi,hm,hp,hr,rfl⟩:=h;have hlen:=hr.len;have h0:xz4 0=xRf 8:=by rw [gH (u:=0) (ps:=xnA) rfl,cy]
 have h1:=(hm 0 Z9).1;rw [h0,gH hp] at h1;have hl:=t.le;have NU:=t.one;refine xde (oA (xbo (xmk hb (cX (xmg [_,_,_] (xgZ Β xuf) (xkZ 64 4 xXO) NE 256 (xFI hi) (Ez hl (xdE xaH Sc xaH xXE NU))) (xdv 8 [_,_,_,_] (xjR (xbi (xgm xaA))) (xlF (xgm (xir xPY (xeW 3 7)))) NE xIE (xbJ xJ0 h1 (xnx (xpY hl)))) b) (hr.byt b))));show xc2 sld EB EB;show xQl 3+2≤69;exact(xdv 8 [_,_,_,_] (xjR (xbi (xgm xaA))) (xlF (xgm (xir xPY (xeW 3 7)))) (xa4 (xdP 3) 2) (.n 69) (xbJ xJ0 h1 (xnx (xpY hl))))
def jF (t:xvu)(s:k8 Tb H H')(n:xac xaz):Ι:=by
 cases e:xjm with
 |none=>rfl
 |some o=>
  by_cases z:l=Tb
  ·subst z;obtain⟨ps,h,_⟩:=t;show W1 h n n
  ·show W1 (xft z e) n n
structure Bks (K:Frag)(mg:Α)(B D G CW C0 C1 C2 C3 c CK Mz:LV):Prop where
 Z:xBp G
 Y:xBd CK
 T:CH K mg Mz
 min:xXs
 best:∃f fd dV,Sn K "best_way" "best_way" jH dV c f fd/\mg "best_way"=xeL/\xlh Jae/\xBx K Jae xJv
inductive Qk (Tb:LV) (vs:M2) (H:Hp) (Q:VK) (Ml:XK):Prop
 |mk (a:LV) (x:V) (T W:Fr) (h0:vs=[Γ,x]) (h1:UF=xcf) (h2:xjb) (h3:xi9) (h4:xsD) (h5:xie l LV R Fr (Ι->PB W T R->xaz=xlD->k8 Tb H H'->xvu->xat)):Qk Tb vs H Q Ml
def Ng:ST ["text","before","way","bits","body","head"] Jae iU:=Os
def o1 (F:NB K "put_block" "put_block" iU dV f fd)(Z:Bks K mg B D G CW C0 C1 C2 C3 c CK Mz)(hC:xnP)(VT:xns)(hK:xpr):xam 40 Jae (Qk Tb):=by
 obtain⟨fB,fdB,dB,FB,mB,bB,_⟩:=Z.best;have ZB:=Z.Z.S0.Zb;have X:=ZB.R.X;show xsR ZB.init;show xQ1 Ro ZB.row TB ZB.T;obtain⟨_,_,FH,bH,MH⟩:=Z.T.init;show xtL GH (o3 (P:=P) (w:=w) (base:=base) FH Z.T) Hw Z.T.row;show xtL GR (yD (P:=P) (w:=w) (base:=base) Hw.F Z.T Z.Y) Wc Z.Y.withcheck;show xao Ng (λ L9 A outer st H vs Q E hr h=>?_);obtain⟨a,x,T,W,rfl,ha,hx,tw,hT,k⟩:=h;have Mw:xbg:=Ty;have N3:xnH:=Ty;have V6:xbr 7:=Ty;have hr8:xbr 8:=Ty;have hr35:xbr 35:=Ty;show xgt (xaF 2 Ng.nd (xwk (zI FB Z.Z Z.min hC VT hK) mB FB.kp bB bf (xfy PP No)) (xcl 3 Ng.nd (xsr (oW (mg:=mg) FI TB) N3 ZB.m bI bf) (aC (pO (P:=P) (w:=w) (K:=K) (mg:=mg) (base:=base) (k:=35) rfl rfl rfl rfl rfl Ps hr35 (xin TD PP No))) (xdD 4 Ng.nd (xRl TD Ro (uw Ro.F TB X) Mw) 5 Ng.nd (gp MH GH N3 Z7 Z.T.m bH .nil bf (xin (uX (P:=P) (w:=w) (K:=K) (mg:=mg) (base:=base) (k:=1) rfl rfl rfl rfl rfl Ps Mw) xug xDq)) (xbh (xcO (eQ Wc Z.Y) V6 Wc (xfb (bG xa9 Z.T.cl Hw GR hr8) χ)))))) ⟨_,rfl,_,rfl,a,x,T,W,rfl,ha,hx,tw,hT,λ i o dx H1 hi no ho Yx sT O4=>xaa⟩;have WK:=Z.Z.ok (P:=P) (w:=w) (base:=base) hi;obtain⟨fT,fdT,mT,bT,GT⟩:=WK.tell;obtain⟨fN,TJ,mN,bN,GN⟩:=WK.num;have Wj:=xqa (hT.ne ha (by intro ps z;cases z)) ha;have RO:=hx.sameT hT sT;refine xbT
 intro p dp np Vn YI;have VO:(xkA (xt4 H1 dp p) p B dp) p=xkG B dp []:=i';have s0:=xkY B np Vn;show xcC (xbI p dp VO (λ d H2 nd Og Rm=>xLc));have nd0:xhF d:=xkU nd;have NJ:xFf H2:=λ c o e=>xsM xrK xul
 clear s0 VO Rm nd;show xjh ⟨_,rfl,o,_,dx,[],fT,fdT,_,_,rfl,xsN ho,rfl,WK.cl,mT,GT,bT,_,rfl,_,rfl,_,rfl,o,p,d,a,x,T,W,0,0,rfl,Og,Z9,xsN Wj,RO.same NJ,tw,λ ps H3 Vq QN ML=>xaa⟩;have VJ:xFf H3:=λ c o e=>xct (xsN e) xul (xmX nd0)
 rw [Ge] at QN;have YU:=(Vq.good tw).2;clear Og ML NJ;refine xbT
 obtain⟨O5,r3,k3,M4⟩:=QN.ob;show xcC ⟨_,rfl,p,O5,_,rfl,M4,xja,p,d,_,_,rfl,QN,xdj YU,λ lr Rb H4 N9 V9 row s34=>xaa⟩;have Uh:=VJ.trans s34;have hlen:=row.len;have hcst:=(Yx 0 Z9).1;rw [gH (u:=0) (ps:=xnA) rfl,cy,gH Vq] at hcst;have QD:=tw.le;clear M4 QN s34 VJ N9;refine xdd ⟨_,rfl,o,_,dx,[],fN,TJ,_,_,rfl,xBh ho,rfl,WK.cl,mN,GN,bN,o,rfl,_,rfl,a,_,rfl,xab (xBh Wj),_,rfl,lr,_,rfl,xab V9,?_⟩
 intro h dh nh ndh neh;have s0:=xkY Mz nh ndh;show xcC ⟨h,dh,i,(xkJ).length,(xmw).length,rfl,i',λ H5 hh QK=>xLc⟩;have s45:Mf H4 H5:=λ c o e=>xl0 xrK (xmX nh)
 rw [EA,EA] at hh;have hlr5:=s45 _ _ V9;have s15:=Uh.trans s45;clear s0 QK V9 s45 Uh;show ρ ⟨_,rfl,h,dh,_,rfl,hh,DN _ _ _,h,dh,i,T.length,Rb.length,rfl,hh,hi,tw.one,tw.le,(xdv 8 [_,_,_] (xaV (xjR xbK)) (xQD (xgm (xlN 7))) NE xIE (xbJ YU xJ0 xiF)),λ l6 H6 nl6 Zt X4=>?_⟩ ⟨_,rfl,l6,lr,_,_,rfl,rfl,X4,Zt _ _ hlr5,aW (by rw [EA,EA];show xiX (xQl 3);exact(xqf [_,_,_] (xag xbK) (xQD (xa2 (xlN 7))) (xdP 3) YU (xnx (EC hlen)))),P3 l7 n7⟩;have s67:=xa1 (Ρ (xkM (xob-1))++xmw) n7;have h77:(xbP H6 l7 (Ρ (xkM (xob-1))++xmw)) l7=xkx (xkM (xob-1)) Rb:=by rw [i',EO]
 show xpd s17 ((s15.trans Zt).trans s67) (xbP H6 l7 (Ρ (xkM (xob-1))++xmw)) H7;show xmc hone tw.one ⟨l7,_,rfl,h77,xbo (xmk hb (cX (xmg [_,_,_] (xgZ Β xuf) (xkZ 64 4 xXO) NE 256 (xFI hi) (Ez QD (xdE xaH Sc xaH xXE hone))) (xdv 8 [_,_,_] (xaV (xjR xbK)) (xQD (xgm (xlN 7))) NE xIE (xbJ YU xJ0 xiF)) b) (row.byt b)),by rw [EB];show xbC (xQl 3);exact(xdv 2 [_,_,_] (xaV (xiB xbK)) (xQD (xFA (xlN 7))) (xdP 3) (.n 1000) (xbJ YU (xk2 2 hlen) xiF)),λ l H8 nl s78 hl=>?_⟩ (xp8 H8 (jF (O4.same s17) (λ c o n e=>s17 _ _ (xqa n e)) nl) ⟨i,ps,Rb,hi,Yx,Vq,row,rfl⟩ hl (λ c o n e=>s78 _ _ (s17 _ _ (xqa n e))) (O4.same (s17.trans s78)))
universe K30.Ck
namespace K30
open PySem L2 QQ W17 W16 BP
seal PE PA PS PSs PT PW PG PI
abbrev gu:L7:=top 28
abbrev rB:L7:=xql 30
abbrev k6:L7:=xqk 30
abbrev k7:L7:=xs9 30
abbrev rj:L7:=xjo 30 5
def bt (R:Fr)(t s:Nat):Nat:=xzB/2^(Ο-(t+s))%2^s
def NH:ST ["row","place","size","end","bytes_to_end","number","byte"] Jaj gu:=Os
def lU (F:Δ "bits_at" gu Jaj)(O:xL7)(T:xbN):xsA Jaj OH:=by
 have GO:xp7 fO Y4 Jai spOnes:=mY O;show xau NH (λ L9 A outer st H vs Q E hr h=>?_);obtain⟨a,B,p,s,rfl,hB,hb,Vq,hs,k⟩:=h;show xgY (xdD 3 NH.nd (xEp Ps) 4 NH.nd (xoO (xcD TD)) (xa6 5 NH.nd ad (xnc (xqo PP (xoO No) χ) 6 NH.nd (xhx 5 NH.nd (ak xj (xf3 cB xa9) xco))) (ak iD (xzJ xa9 (xdz (xuC χ) TD)) (xd2 GO O Ps)))) ⟨_,rfl,_,rfl,_,_,rfl,rfl,?_⟩ ⟨_,rfl,_,_,rfl,rfl,_,_,rfl,rfl,⟨by decide,by decide⟩,?_⟩;have e1:(xAC+XV s+7)/8=LT ((p+s+7)/8):=by exact(xid IO IO IO IO)
 have e2:xAC/8=LT (p/8):=by exact(xid IO IO IO IO)
 have e3:xAC+XV s=xjg s:=by exact(xjy [_,_] Pi Pi [_,_] Pi Pi)
 have h1:p/8≤(p+s+7)/8:=by exact(xdv 8 [_,_,_,_] (xjR (xml xc7 7)) xXH IO Sc xR3)
 have h2:xgL ((p+s+7)/8):=by exact(xdv 8 [_,_,_,_] (.a xc7 xem) (xlF (xa4 xc7 7)) IO Sc (xnx Vq))
 try dsimp only
 rw [e1,e3];refine⟨_,rfl,_,rfl,_,_,rfl,rfl,⟨by decide,by decide⟩,_,rfl,_,rfl,_,rfl,a,_,rfl,xC6,P3 l hl⟩
 try dsimp only
 rw [e2,y9 h1 h2];have hc:xe3 (xBA ((p+s+7)/8) (p/8)):=λ b MX=>xj4 (FN (FU MX))
 have Wg:xcy (xBA ((p+s+7)/8) (p/8)) 4:=by rw [EN,ER];lia
 show xpd key (BP.Xw hb Vq) (xBA ((p+s+7)/8) (p/8)) C;have sm:xef (xlS xCN):=λ b o e=>by show xgr hl e
 refine xGx l i' (xn4 K l xCN (λ i σ H2=>∃v,σ=[xaQ,xnE,xi0,UV (p+s),UV ((p+s+7)/8),UV xLj,v]/\H2=xlS xCN) xC2 (λ i σ H2 _ z9=>by show xCr e;exact by show xfs xyl) ?_ ?_)
 ·rintro i y σ H2 hi ⟨v,rfl,rfl⟩;show xlv b MR hi;have Pn:xAS:=hc b (FO MR);have Ny:xJG i:=xdN MR;have hv:xLj<xMh (C.take i):=BP.Oi λ b MX=>hc b (FN MX)
  have hv2:xLj<256^4:=EM hv (F4 (by decide) (by show xs3 (xbl [_,_] xaR (xff 4) IO 4 Wg xfR)));refine⟨_,rfl,_,_,rfl,rfl,Ψ (by decide) (by decide),_,rfl,_,_,rfl,rfl,?_⟩
  ·have:xgw 256^4<2^64:=by decide
   lia
  ·have e:=qL xLj b 8 Pn;have e':xLj*2^8+b=BP.val (C.take (i+1)):=by rw [xFj,BP.NC]
   try dsimp only
   show π e' e (xee xhl (xBG z [xqN a,xnE,xi0,UV (p+s),UV ((p+s+7)/8),xU8 z,xhl] e))
 ·show xwp σ H2 v rfl
  try dsimp only
  rw [EA,Fs];have e4:xkd*LT ((p+s+7)/8)-xjg s=LT (8*((p+s+7)/8)-(p+s)):=by lia
  refine⟨_,rfl,_,rfl,_,_,rfl,rfl,.inl ⟨by decide,by decide⟩,_,rfl,_,_,rfl,rfl,?_⟩
  try dsimp only
  show Uf e4 ⟨_,_,rfl,rfl,by exact xu5,_,rfl,s,rfl,by exact(xlO 24 1000 hs),_,_,rfl,rfl,?_⟩
  try dsimp only
  rw [gk,eh,key];exact xeR sm
structure Ms (C:LV)(H:Hp)(p d:LV)(R:Fr)(t:Nat):Prop where
 ob:∃dx,xbF=xdx xpv
 ls:H d=xlD
 by':xi4
 le:t≤Ο
structure Yh (K:Frag)(mg:Α)(C:LV):Prop where
 cl:xhm
 nH:xdC "held"
 nT:xdC "taken"
inductive UG (C:LV) (vs:M2) (H:Hp) (Q:VK) (Ml:XK):Prop
 |mk (p dx a:LV) (R:Fr) (h0:vs=xnX) (h1:xbF=xzN) (h2:UF=xlD) (h3:xAM) (h4:∀(d:LV) (H':Hp),xAJ->xn3 H' 0->xdH (∀b o,xaN=Id->xhn->xeN=Id)):UG C vs H Q Ml
def yY:ST Jal Jal rB:=Os
def wp (F:xZS rB)(N:xL6)(Y:xlX)(T:xBe C):xam 5 Jal (UG C):=by
 have GN:xrF 4 fN TJ Jag spNeedRow:=bU N Y;show xao yY (λ L9 A outer st H vs Q E hr h=>?_);obtain⟨p,dx,a,R',rfl,hp,ha,hb,k⟩:=h;show xax (xu2 (xd2 GN N No) ad) (xc0 a R' ha hb (P3 d hd));have Pj:xGE:=xrY hd;show ρ ⟨_,rfl,p,C,dx,[],rfl,(by show υ Pj hp),T.cl,T.nH,(by show xdi 0),_,rfl,p,C,dx,_,rfl,i',T.cl,T.nT,(by show xdi 1),?_⟩ (k d _ hd ⟨xgc (LU i' (xyw l (xIZ C l) (tT d 0))),by rw [xoz,xoz,i'],hb,xan⟩ λ b o e hb=>?_)
 rw [xnn,xnn,xkt hd];exact e
inductive spLeft (C:LV) (vs:M2) (H:Hp) (Q:VK) (Ml:XK):Prop
 |mk (p d:LV) (R:Fr) (t:Nat) (h0:vs=xbk) (h1:xn3 H t) (h2:xn2 (Ο-t)):xOk vs H Q Ml
def AV:xdW k7:=Os
def nJ (F:xaL "left" "BitReader.left" k7)(T:xBe C)(X:xbN):xh5 xOk:=by
 show xao AV (λ L9 A outer st H vs Q E hr h=>?_);obtain⟨p,d,R,t,rfl,⟨⟨dx,hp⟩,hd,hb,ht⟩,q⟩:=h;show xgY (xbh (xdz (xuC xPx) Ζ)) ⟨_,rfl,p,C,dx,_,_,rfl,hp,T.cl,T.nH,kO _ _,d,_,rfl,xab hd,_,_,rfl,rfl,.inl ⟨by decide,by decide⟩,?_⟩ ⟨_,rfl,p,C,dx,_,_,rfl,hp,T.cl,T.nT,gc _ _,_,_,rfl,rfl,?_⟩;have e:xkd*xmm xgC-XV t=LT (Ο-t):=by show xpO
 try dsimp only
 show xfs q
inductive RD (C:LV) (vs:M2) (H:Hp) (Q:VK) (Ml:XK):Prop
 |mk (p d:LV) (R:Fr) (t s:Nat) (h0:vs=[xbV,xcV]) (h1:xn3 H t) (h2:s≤24) (h3:t+s≤Ο) (h4:xez (xn3 H' (t+s)->(∀c o,ω=Id->xaD->xaY=Id)->xmZ (xEC s))):RD C vs H Q Ml
def Xl:ST (xtU "size" "number") xtN k6:=Os
def sW (F:xaL "take" "BitReader.take" k6)(S:x05 cN Jai fS fdS)(W:xOn fW' QO)
  (B:xbD "bits_at" gu Jaj fB fdB) (O:xL7) (L:Me K C "left" "BitReader.left" k7 Jaa fL fdL) (T:xBe C) (X:xbN):
  xpl xtN (RD C):=by
 have GS:xrF 2 fS fdS Jai spNeedSize:=i8 S W X;have GB:xrF 2 fB fdB Jaj OH:=lU B O X;have GL:xp7 fL fdL Jaa xOk:=nJ L.F T X;show xao Xl (λ L9 A outer st H vs Q E hr h=>?_);obtain⟨p,d,R,t,s,rfl,S0,hs,Rp,q⟩:=h;obtain⟨⟨dx,hp⟩,hd,hb,ht⟩:=id S0;have Pj:xGE:=xKY hd (by show Υ);have Mw:xbg:=hr.mono (by decide);have N3:xnH:=hr.mono (by decide);show xgY (xej (xcO GS N3 S No) (ab (xkC cF No (xKw PP L GL Mw) aM)
  (xa6 2 Xl.nd (xfe GB N3 B Ζ Ζ No) (xtg PP (xbv Ζ No)) Ps))) (xkr s hs ?_) ⟨_,rfl,_,rfl,p,dx,_,rfl,hp,xOB (by decide+kernel) (by decide+kernel),p,d,R,t,rfl,S0,_,_,rfl,rfl,_,rfl,xqy h0 xfA⟩
 ·show xaE (EL h0) (xdX [_,_,_,_] (xll xaR 3 xbK) (xgm (xag xDr)) (xbJ Rp xq1 τ))
 refine⟨_,rfl,p,C,dx,_,_,rfl,hp,T.cl,T.nH,kO _ _,_,rfl,p,C,dx,_,_,rfl,hp,T.cl,T.nT,gc _ _,_,rfl,d,R,t,s,rfl,hd,hb,Rp,hs,P3 H1 sm⟩;have MW:=xRq;refine⟨_,rfl,p,C,dx,_,_,rfl,MW,T.cl,T.nT,gc _ _,_,rfl,_,_,rfl,rfl,_,rfl,p,C,dx,_,rfl,MW,T.cl,T.nT,B1 _ _,?_⟩;have e1:XV t+XV s=LT (t+s):=by exact(xjy [_,_] Pi Pi [_,_] Pi Pi)
 try dsimp only
 rw [e1,BC];show xax rfl (q _ ⟨xLf,by show υ Pj.symm (xhK hd),hb,Rp⟩ λ c o e n1=>?_)
 show υ n1 (sm c o e)
inductive U4 (C:LV) (vs:M2) (H:Hp) (Q:VK) (Ml:XK):Prop
 |mk (p d:LV) (R:Fr) (t:Nat) (h0:vs=xbk) (h1:xn3 H t) (h2:Ο-t<8) (h3:xt1%2^(Ο-t)=0) (h4:xez (Κ->xcP xCR)):U4 C vs H Q Ml
def Vc:xtp (xkO "left") rj:=Os
def wB (F:xaL "at_end" "BitReader.at_end" rj)
  (B:xbD "bits_at" gu Jaj fB fdB) (O:xL7) (L:Me K C "left" "BitReader.left" k7 Jaa fL fdL) (T:xBe C) (X:xbN):
  xgJ 3 (U4 C):=by
 have GB:xrF 2 fB fdB Jaj OH:=lU B O X;have GL:xp7 fL fdL Jaa xOk:=nJ L.F T X;show xao Vc (λ L9 A outer st H vs Q E hr h=>?_);obtain⟨p,d,R,t,rfl,S0,h8,hv,q⟩:=h;obtain⟨⟨dx,hp⟩,hd,hb,ht⟩:=id S0;have Mw:xbg:=hr.mono (by decide);show xgY (xaF 1 Vc.nd (xKw PP L GL Mw) (xbh (xKM (dm cH No ad xrz) (dm bd (xfe GB hr B Ζ Ζ No) ad xrz)))) ⟨_,rfl,p,dx,_,rfl,hp,xOB (by decide+kernel) (by decide+kernel),p,d,R,t,rfl,S0,?_⟩ ⟨_,rfl,_,_,rfl,rfl,_,rfl,?_⟩;have e0:SL (xfK (LT (Ο-t)) 8):=EJ (by exact(xof (xfN NE 8 NE 8 h8)))
 try dsimp only
 show xhO e0 xjY ⟨_,rfl,p,C,dx,_,_,rfl,hp,T.cl,T.nH,kO _ _,_,rfl,p,C,dx,_,_,rfl,hp,T.cl,T.nT,gc _ _,_,rfl,d,R,t,Ο-t,rfl,hd,hb,by exact xbn [_,_,_] xaR xbK Pi xbK (xdE IO xaA IO xaA ht),by exact(xfN NE 8 IO 24 h8),P3 H1 sm⟩;have e1:Ο-(t+(Ο-t))=0:=by exact(xnY (xmg [_,_,_,_] (xln (xag xcc)) (xLK xrA) IO 0 τ (xeX [_,_,_] Pi xbK xaR xbK (xdE IO xaA IO xaA ht))))
 try dsimp only
 rw [e1,LM,Nat.div_one];show xgk xjJ hv (q H1 sm)
universe K30
namespace K30.Ck
open PySem L2 QQ W17 W16 BP
seal PE PA PS PSs PT PW PG PI
abbrev me:L7:=top 39
abbrev iq:L7:=top 102
abbrev dI:L7:=top 103
abbrev iY:L7:=top 105
structure Zd (K:Frag)(mg:Α)(C Mz:LV):Prop where
 Y:xBd C
 T:CH K mg Mz
 N:xlX
 need:xOu ca Jag
 headrow:Wp "head_row" ie xDY
 three:∃t,mg "HEAD_BYTES"=xcz 3
 twoB:∃t,mg "CHECK_BYTES"=xcz 2
 most:∃t,mg "MOST_INSIDE"=xcz 64
inductive S3 (Mz:LV) (vs:M2) (H:Hp) (Q:VK) (Ml:XK):Prop
 |mk (x:LV) (a b:Nat) (h0:vs=[xcn]) (h1:xgx=xah xfW) (h2:xch a) (h3:xfY b) (h4:b=0->a=0) (h5:b=0->xz0) (h6:xcJ->∀p dx H',xi3->Κ->xwq=xfC Mz (fH (a/64) (a%64+1) b)->xcP xbV):S3 Mz vs H Q Ml
def OK:ST ["row","told","first","inside"] xdS iq:=Os
def lf (F:Δ "head_of" iq xdS)(Z:Zd K mg C Mz):xpk xdS (S3 Mz):=by
 obtain⟨_,_,N⟩:=Z.need;show xtL GN (bU (P:=P) (w:=w) (base:=base) N Z.N) Hr Z.headrow;show xsR Z.T.init;have T:=Z.N.X;show xbH t3 h3 Z.three t64 MG Z.most;show xau OK (λ L9 A outer st H vs Q E hr h=>?_);obtain⟨x,a,b,rfl,hx,ha,hb,Uq,k0,k1⟩:=h;have hu:=hr.units;have V6:xbr 7:=Ty;show xji N3 xnH (xcl 1 OK.nd (xcO GN Ty N PP) (xkC kJ (xBF No) (xbw 3 h3 t3) aM) (xaF 2 OK.nd (xMJ No) (xcl 3 OK.nd (xMJ No) (xkC xyA No (xcQ (gJ Hr Z.Y) V6 Hr Ps TD) aM) (ab (xE1 (xuS (xv7 Ps) (xv7 TD)) bP az)
  (xjM (xzf (xv7 TD) (xa5 cF TD (xbw 64 MG t64))) (gp MI (o3 (mg:=mg) FI Z.T) N3 Z7 Z.T.m bI .nil bf (xin (xoO Ps) (xcD (xk4 Ps)) TD)))))))
 have hby:=cX ha (xo1 hb);show xd9 (xc0 _ xfW hx hby (λ l hn=>xaB));have s1:=xbe xfW hn;have VQ:xd8 H l xfW l=xah xfW:=i';show xiV H l xfW H1 ⟨_,rfl,l,_,rfl,xab VQ,rfl,_,rfl,xiS⟩;show xnm ⟨_,rfl,l,_,_,_,rfl,rfl,Mm.of VQ,xev,?_⟩ ⟨_,rfl,l,_,_,_,rfl,rfl,Mm.of VQ,xdk,?_⟩ ⟨_,rfl,_,rfl,_,rfl,a,b,rfl,ha,xo1 hb,λ l2 H2 n2 s2 Sd=>?_⟩;have NJ:=xfz;have MD:=xcg VQ;show xcr ⟨l,l2,xhJ xfW b xd4,xhJ xfW b xd4,rfl,rfl,Mm.of MD,Mm.of Sd,_,rfl,?_⟩ xdT xiS;have v0:∀{n},(V.int xb4=xek)<->n=0:=λ {n}=>⟨On (xxu x0A),On (by show xak z)⟩
 show xd9 xaB;rcases IN b with Vu|MR
 ·exact xdy (aT (λ _=>xdy (aT (λ _=>k0 Vu _ NJ) (xnk (EJ (v0.2 Vu)) h))) (xnk (EJ (v0.2 (Uq Vu))) h))
 show ρ (xoh R g) ((λ(J:R [some (.ref x),some (.ref l),some (vN a),some (vN b)] H2)=>?_) xaB)
 ·exact xdy (aT (λ _=>xdy (aT (xnk (v0.1 xb5) (Ja MR)) λ _=>J)) λ _=>aS J)
 clear g;show xnm (xv5 (xnk (v0.1 xb5) (Ja MR))) ⟨_,rfl,_,_,rfl,rfl,_,rfl,xE4 (xxf xb5) (xBK hb) xfA⟩ ⟨_,rfl,_,_,rfl,rfl,xeG,_,rfl,_,_,rfl,rfl,(by show xeq 64),_,_,rfl,rfl,_,rfl,?_⟩;intro h dh nh ndh neh;have s0:=xkY Mz nh ndh;exact⟨h,dh,a/64,a%64+1,b,rfl,i',λ H5 hh QK=>xgB (k1 MR h dh H5 (none_of NJ nh) (λ c o e=>xl0 (xm8 (xsN e)) (ae (xsN e) nh)) hh)⟩
inductive U2 (Mz:LV) (vs:M2) (H:Hp) (Q:VK) (Ml:XK):Prop
 |mk (p dx:LV) (a b c:Nat) (h0:vs=xbk) (h1:xbF=xfC Mz xwP) (h2:xn2 (c+5)):U2 Mz vs H Q Ml
def zx:ST xyr xyr dI:=Os
def qo (F:Δ "block_size" dI xyr)(Z:Zd K mg C Mz):xdl xyr (U2 Mz):=by
 show xbH t3 h3 Z.three t2 h2 Z.twoB;show xau zx (λ L9 A outer st H vs Q E hr h=>?_);obtain⟨p,dx,a,b,c,rfl,hp,k⟩:=h;show xax (xbh (xbv (xbv (xbw 3 h3 t3) Ζ) (xbw 2 h2 t2))) ⟨_,rfl,p,Mz,dx,_,_,rfl,hp,Z.T.cl,Z.T.nI,Da _ _ _,_,_,rfl,rfl,_,_,rfl,rfl,?_⟩;have e:XV 3+XV c+2=LT (c+5):=by lia
 try dsimp only
 show xfs k
inductive Qq (Mz:LV) (vs:M2) (H:Hp) (Q:VK) (Ml:XK):Prop
 |mk (x:LV) (a b:Nat) (r:Fr) (h0:vs=[xcn]) (h1:xgx=xkx xfW r) (h2:xch a) (h3:xfY b) (h4:xcJ) (h5:r.length=b+2) (h6:∀p dx H',xi3->Κ->xwq=xfC Mz (fH (a/64) (a%64+1) b)->xcP xbV):Qq Mz vs H Q Ml
def Qx:ST ["block","head"] xOG iY:=Os
def qa (F:Δ "need_head" iY xOG)(O:xbD "head_of" iq xdS fO Y4)(Bs:xbD "block_size" dI xyr fB fdB)(Z:Zd K mg C Mz):
  xvo xOG (Qq Mz):=by
 have T:=Z.N.X;show xhU t3 h3 Z.three Qx (λ L9 A outer st H vs Q E hr h=>?_) _;obtain⟨x,a,b,r,rfl,hB,ha,hb,MR,hl,k⟩:=h;show xji Mw xbg (ab (xkC cH xmP (xbw 3 h3 t3) aM)
  (xcl 1 Qx.nd (xd2 (lf O Z) O (xkW a6 PP bM (xbw 3 h3 t3))) (xkC dW No bP aM) (xjM (xkC kJ xmP (xl5 (qo Bs Z) Bs No) aM) No)))
 have el:xaI (Ρ (xfW++r)) (b+5):=by rw [EA,EB,hl];show 3+_=_;lia
 refine⟨_,rfl,x,_,rfl,xab hB,_,_,rfl,rfl,_,rfl,xqy h xfA⟩
 ·show xaK h xb5 el h;lia
 refine⟨_,rfl,_,rfl,x,_,rfl,xC6,P3 l hn⟩;have ec:xzk (Ρ (xfW++r)) 3=Ρ xfW:=dJ _ 3;rw [ec];have s1:=xbe xfW hn;refine⟨l,a,b,rfl,i',ha,hb,On (by lia),On (by lia),λ _ p dx H2 np s2 hp=>?_⟩;show xmc NJ xfz (xv5 (xmj z (EL z) (by show Υ))) ⟨_,rfl,x,_,rfl,xab (xsN hB),_,rfl,p,dx,_,_,_,rfl,hp,rfl,_,rfl,?_⟩;rw [el,xdT];exact xSe (k p dx H2 (xjB np) NJ hp)
def wN (n d):xXd d (some (-2))=n-2:=by
 unfold HT.sIx;simp;lia
def A7 (B:Fr):xzk xeC (-2)=Ρ (B.take (xuc 2)):=by
 unfold cutV;rw [wN,HT.Qh,Hy,IK,EA,GV]
def yT (B:Fr)(h:xgL 5):xBM xeC (some 3) (-2)=Ρ (xBA (xuc 2) 3):=by
 unfold cutV;rw [wN,xce (XV 3) (LT 3),HT.M6,EA,FR (EF (by decide) h),G9,GV,List.drop_take]
def gU (R:Fr):xgC=xU0 (λ b=>xd4) V.int:=by show xak GQ
def eE (R):xaI xDx (R.length+2):=EB
def tQ (R):xj6 xDx (xDx).length 2=R:=by show LE eE Jq
inductive S4 (vs:M2) (H:Hp) (Q:VK) (Ml:XK):Prop
 |mk (a:LV) (R:Fr) (h0:vs=xbL) (h1:UF=xah xDx) (h2:xAM) (h3:xbC R.length) (h4:xez (Κ->xcP xCR)):S4 vs H Q Ml
def wY:ST xdS xdS me:=Os
def uQ {f fW:LV}(F:Δ "ends_in_check" me xdS)(Wc:xbD "with_check" dN xdS fW QO)(Y:xBd C):xam 8 xdS S4:=by
 show xau wY (λ L9 A outer st H vs Q E hr h=>?_);show xiN a R rfl hB hb hl k;have hu:=hr.units;show xax (xbh (dm xPu (xd2 (eQ Wc Y) Wc (xkW a6 PP bM (xN qZ ad))) PP xrz)) ⟨_,rfl,_,rfl,_,rfl,a,_,rfl,xC6,P3 l hn⟩;have ec:xzk (xyy R) (-2)=xgC:=by rw [A7,tQ]
 rw [ec];have s1:=xa1 xgC hn;refine⟨l,R,rfl,i',hb,hl,λ l2 H2 n2 s2 h2=>?_⟩;have hB:=xRu hB;rw [gU] at hB h2;show xgk ⟨_,rfl,l2,a,_,_,rfl,rfl,Mm.of h2,xC6,?_⟩ xdT (xeR xfz)
def ip (r a):xjn r [xAD]=Ρ (xB6 r):=by
 induction r with
 |zero=>rfl
 |succ r ih=>rw [Gm,Gu,ih];rfl
def bt8 (hb:xi4)(hi:xJ5 i):xtm (8*i) 8=R[i]:=by
 have h:=um hb (Ib i) hi;have e:(R.take (i+1)).drop i=[R[i]]:=by rw [bO (EI hi),List.drop_left' (by show xcj ER)]
 rw [e,fX,tU,show i.succ-i=1 by exact xcY (xaf [_,_] Pi Β IO xaH (NL.J' xRE)) [_,_] Β Pi xaH IO τ,OY,OY] at h;show xbG;rw [h];show xci bt (show Ο-(8*i+8)=8*(R.length-(i+1)) by exact xfU (xae [_,_,_,_] (xln (xag xPU)) (xir xhG xrA) IO xaA (xpY τ) (xdE xP5 xaA (xiD xem) xaA (xpY hi))) [_,_,_,_] (xln (xlM xhG)) (xJV xPU xrA) xaA τ (xpY (xnd NE hi)))
structure Ww (K:Frag)(mg:Α)(C:LV):Prop where
 Y:xlX
 T:xBe C
 m:mg "BitReader"=xiZ
 init:∃f fd,xZS rB/\xlh Jal/\xsL
 take:∃f fd,xN6 K C "take" k6 xtN
 left:xic "left" "BitReader.left" k7
 atend:xic "at_end" "BitReader.at_end" rj
 need:xOu ca Jag
 size:xWA cN Jai
 ones:Wp "ones" gz Jai
 bits:Wp "bits_at" gu Jaj
def Ww.tk (Z:xBn):∃f fd,xN6 K C "take" k6 xtN/\∀P w base,xpl xtN (RD C):=by
 obtain⟨f,fd,Tk⟩:=Z.take;show xbO L Z.left W Z.Y.whole;show xgA S Z.size O Z.ones Ba Z.bits;exact⟨f,fd,Tk,λ _ _ _=>sW Tk.F S W Ba O L Z.T Z.Y.X⟩
def _root_.K30.Ms.keep (h:xn3 H t)(k:∀c o,ω=Id->(c=p\/c=d)->xaY=Id):xn3 H' t:=by
 obtain⟨⟨dx,hp⟩,hd,r1,r2⟩:=h;exact⟨xgc (xo0 hp xec),xo0 hd xx7,r1,r2⟩
inductive QZ (C:LV) (vs:M2) (H:Hp) (Q:VK) (Ml:XK):Prop
 |mk (o r d:LV) (x:V) (R:Fr) (n:Nat) (h0:vs=[xgX,xjO,xcG,x]) (h1:xkv H 0) (h2:xfY n) (h3:n≤R.length) (h4:∀l H',Ι->xaz=xah (R.take n)->xkv H' (8*n)->(∀c o,ω=Id->xkh->xaY=Id)->xat):QZ C vs H Q Ml
def uY:ST Jad Jad jG:=Os
def Eo:xAx ["step","reader"]:=Z8
def Cn (C:LV):TE:=pc C "take" (RD C) [] E0 (Oy 1) (lz (tC xQS) kU)
def rZ (F:xSw "RawWay.read" jG)(Z:xBn):xpk Jad (QZ C):=by
 have X:=Z.Y.X;show xIl Yg Z.tk;have GT:=Yg P w base;have TR:=Z.T;show xao uY (λ L9 A outer st H vs Q E hr h=>?_);obtain⟨o,r,d,x,R,n,rfl,hR,MG,hnR,k⟩:=h;refine xjK (ic (js:=[none,some 1]) rfl
  ⟨rfl,Z8,Z8,Z7,λ x c h=>(by show xBs (gN h);rfl),λ x hx=>?c1,rfl,λ i x j h1 h2=>?c2⟩
  (xsk Ps) (λ fp s H=>xA1 Eo)
  (λ fp s H=>xvR No Tk GT hr ad))
 case c1=>
  rcases hx with hx|hx
  ·have m':(x,NameKind.cell)∈([xDK,xqO "step",xDh "reader"]:xtO):=xvj;have e:x="reader":=by simpa using m'
   show xc3 xbs
  ·have m':(x,NameKind.free)∈([xDK,xqO "step",xDh "reader"]:xtO):=xvj;simp at m'
 case c2=>
  show xpU (rP h1 h2) (xMk (λ c h=>h))
 refine xoF _ xay rfl (by lia) (by lia) xgo;obtain⟨⟨dx0,TC⟩,VR,hb,_⟩:=id hR;have N9:xex r:=xLq;have PX:xlZ:=xLp;refine iP (g:=xhV) (te:=Cn C) (lo:=0) (l:=l) (k:=(xb4).toNat)
  (λ i ys σ H2=>∃v0,σ=[v0,xsw]/\i≤R.length/\ys=Ρ xxt/\xh3=xeM/\xkv H2 (8*i)/\∀c o,ω=Id->xkh->xh2=Id)
  (xoF none xan rfl i' (hR.keep λ c o e _=>xBo) (λ c o e _=>xBo)) ?_ ?_ ?_ ?_
 ·rintro i ys σ H2 hi ⟨v0,rfl,hiR,rfl,Ot,Nu,kp⟩;have YT:i<n:=by simpa using hi
  obtain⟨⟨dx,N3⟩,_,_,_⟩:=id Nu;refine⟨_,rfl,r,dx,_,rfl,N3,xr9,r,d,R,_,8,rfl,Nu,Z9,by exact(xae [_,_,_] (xgm xP5) (xlF xbK) (xiD xem) xaA (xpY hnR) (xpY YT)),Ε H3 Nq ML⟩
  ·have Ny:xJ5 i:=by exact(xhq [_,_,_] xuf Φ hnR YT)
   rw [bt8 hb Ny];have hRi:xaM R R[i]:=xva;refine⟨xFH,bz (by rw [EA,ER];exact(xqf [_,_,_] xPO (xo7 Φ) IO MG (Ez YT xfV))),_,rfl,Ny,by rw [bO hRi,EO];rfl,i',?_,λ c o e n=>?_⟩
   ·refine Nq.keep λ c o e hc=>?_
    show υ (by show xj3 hc;exact N9.symm;exact PX.symm) e
   ·show xqg (xct (xaX e n) n)
 rotate_left
 ·exact λ x σ H A B h z=>xh7
 ·rintro σ H A B h ⟨v,e1,a',dx,fs,e2,e3,e4,p',d',R',t',s',e5,e6,e7,z',z⟩;exact⟨v,e1,a',dx,fs,e2,e3,e4,p',d',R',t',s',e5,e6,e7,z',λ H' z1 z2=>xlo (z H' z1 z2)⟩
 ·rintro ys σ H2 ⟨v0,rfl,hn,rfl,Ot,Nu,kp⟩;rw [E2] at Ot Nu hn;exact xLC nl Ot Nu kp
def yP {v:α}(h1:xcJ)(h2:xxl b)(h:xs[xhB b]?=xaw):xKU (-xd4)=xaw:=by
 have e:Tm (xHq (-xpx)) (xhB b):=by
  show xc2 ixN (ES (by lia)) (E5 (by lia));congr 1;lia
 show xm9 Wv e h
noncomputable def cpy (B:Fr) (b:Nat):xby Fr
 |0=>B
 |n+1=>xET++[(xET).getD (xxW B n-b) 0]
def bV (B)(b):∀n,xaI xET (xud n):=λ n=>by
 induction n with
 |zero=>rfl
 |succ n ih=>rw [cpy,EB,ih];rfl
inductive Y7 (R:Fr) (e:Nat):xby (Fr->xux Fr)
 |done {t:Nat} {S:Fr}:xyL e->xwt e t S t S
 |run {t t':Nat} {S S':Fr}:xki->t+14≤Ο->xor (xE9+1)≤e->xwt e (t+14) (S++xou xE9 1 (xmb 6 8)) t' S'->xwt e t S t' S'
inductive V3 (R:Fr) (e:Nat):xby (Fr->xux Fr)
 |done {t:Nat} {S:Fr}:xyL e->xnD e t S t S
 |sg {t t':Nat} {S S':Fr}:xki->t+9≤Ο->xEC 1=0->xnD e (t+9) (S++[xmb 1 8]) t' S'->xnD e t S t' S'
 |cp {t t':Nat} {S S':Fr}:xki->t+13≤Ο->xEC 1=1->xor (xmb 9 4+3)≤e->Ν (xmb 1 8)->xdO (xmb 1 8)->xnD e (t+13) (cpy S (xmb 1 8) (xmb 9 4+3)) t' S'->xnD e t S t' S'
def V3.le (h:xnD e t S t' S'):xIA e:=by
 cases h with
 |done h=>exact EC h
 |sg h=>exact E4 h
 |cp h=>exact E4 h
structure Rds (K:Frag)(mg:Α):Prop where
 X:xcH
 room:Wp "need_room" iG xI3
 lay:Wp "lay_copy" kP xIJ
 add:Wp "add_copy" kc xQs
 ahead:Wp "signs_ahead" kx xkT
inductive Qn (vs:M2) (H:Hp) (Q:VK) (Ml:XK):Prop
 |mk (a:LV) (xs:M2) (s e:Nat) (h0:vs=[Γ,xcV,vN e]) (h1:UF=xdZ) (h2:xs.length+s≤e) (h3:xlj H):Qn vs H Q Ml
def rq:ST xI3 xI3 iG:=Os
def i9 (F:Δ "need_room" iG xI3)(Z:xF9):xpl xI3 Qn:=by
 show xau rq (λ L9 A outer st H vs Q E hr h=>?_);obtain⟨a,xs,s,e,rfl,ha,he,k⟩:=h;show xax (xg3 cF (xbv (aG Z.X.len PP) No) Ps aM az) ⟨_,rfl,a,_,rfl,xab ha,_,rfl,_,_,rfl,rfl,_,rfl,_,_,rfl,rfl,_,rfl,xEb h k⟩;show xaE xb5 (xdX [_,_,_] xP7 xPv (Ez he xq1))
inductive Rc (vs:M2) (H:Hp) (Q:VK) (Ml:XK):Prop
 |mk (l:LV) (B:Fr) (b z:Nat) (h0:vs=[xa0,xd6,vN z]) (h1:xjm=xfQ) (h2:xcJ) (h3:xgL b) (h4:xbC (xud z)) (h5:xlj (xgz H l (xJT z))):Rc vs H Q Ml
def Rk:ST (xYH "step") xQs kc:=Os
def qN (F:Δ "add_copy" kc xQs)(T:xcH):xdl xQs Rc:=by
 show xau Rk (λ L9 A outer st H vs Q E hr h=>?_);obtain⟨l,B,b,z,rfl,hB,MR,Pn,hz,k⟩:=h;show xax (ac (xg0 (bF Z7 T.range (xcw Ps)) 3 Rk.nd (xLV PP (xjX (xN qZ No))))) (xoF _ (XV z) rfl (by lia) (by lia) ?_)
 try dsimp only
 show Uf E2 (bE (D:=xxX) (λ j σ H2=>∃v3,σ=[xeu,xhl,UV z,v3]/\H2=xgz H l (xJT j)) (Ψ none rfl) ?_ ?_)
 ·funext c;by_cases e:c=l
  ·subst e;show LE i' hB
  ·rw [ai e]
 ·rintro j σ H2 hj ⟨v3,rfl,rfl⟩;have hlen:=bV B b j;have hg:xxW B j-b<xxW B j:=by exact(xhq [_,_,_] (xaZ 1 xcB) xcc MR (NL.J' (xae [_,_,_,_] xui xdQ Sc IO Pn xTT)))
  refine⟨_,rfl,xhj i',_,rfl,_,rfl,_,rfl,l,_,_,vN ((xJT j).getD (xxW B j-b) 0),rfl,rfl,xyl,yP MR (by show xaT (xcI [_,_,_,_] (xag xc7) xcc Pn xTT)) ?_,?_⟩
  ·rw [EA,FA,E9,EI hg];rfl
  ·show ρ (xdc l _ _ rfl i' (bz (by show xaT (xlR [_,_,_,_] (xll Φ 3 IO) (xtx (xa2 xrh)) IO hz (xgV hj hlen)))) ?_) (Ψ (xU8 (xcU+xE7)) rfl);rw [dP,cpy,EO];rfl
 ·show xwp σ H2 v3 rfl;exact k
inductive Ra (vs:M2) (H:Hp) (Q:VK) (Ml:XK):Prop
 |mk (x:LV) (W:Fr) (h0:vs=[xcn]) (h1:xgx=xlE) (h2:∀l,Ι->xww xQO):Ra vs H Q Ml
def uu:ST xkT xkT kx:=Os
def jN (F:Δ "signs_ahead" kx xkT)(T:xcH):xdl xkT Ra:=by
 show xau uu (λ L9 A outer st H vs Q E hr h=>?_);show xeE x W hx k h;refine xjK (dC (xa5 dW PP bP) xe8 (bu bp Z7 T.list Gh xoQ));exact xD3 (xrQ x hx (λ l nl=>xfp nl))
inductive Zl (vs:M2) (H:Hp) (Q:VK) (Ml:XK):Prop
 |mk (l:LV) (S:Fr) (b z e:Nat) (h0:vs=[xa0,xd6,vN z,vN e]) (h1:xjm=xgl) (h2:xbC e) (h3:xcJ) (h4:xdO b) (h5:xor z≤e) (h6:xlj (xgz H l (xwB z))):Zl vs H Q Ml
def CU:ST xIJ xIJ kP:=Os
def xk (F:Δ "lay_copy" kP xIJ)(Z:xF9):xpk xIJ Zl:=by
 show xbO Nr Z.room Ac Z.add;have GN:=i9 (P:=P) (w:=w) (base:=base) Nr Z;have GA:=qN (P:=P) (w:=w) (base:=base) Ac Z.X;show xau CU (λ L9 A outer st H vs Q E hr h=>?_);obtain⟨l,S,b,z,e,rfl,hl,he,MR,Pn,hz,k⟩:=h;have Mw:xbg:=Ty;show xgY (xej (xfe GN hr Nr PP Ps TD) (ab (xzf (xv7 No) (xa5 cF No (aG Z.X.len PP)))
  (xqP (xfe GA Mw Ac PP No Ps)))) ⟨_,rfl,_,rfl,_,rfl,l,_,z,e,rfl,hl,by show xaT hz,?_⟩ (xv5 (λ h=>xjY))
 ·have h0:b=0:=KP (V.int.inj xb5);exact Ja MR h0
 refine⟨_,rfl,_,rfl,l,_,rfl,xab hl,_,_,rfl,rfl,_,rfl,xqy h xfA⟩
 ·show xgb xb5 EA (xdX [_,_] xb1 xaR (Ez Pn xq1))
 exact⟨_,rfl,_,rfl,_,rfl,l,S,b,z,rfl,hl,MR,Pn,by exact xbl [_,_,_] xPv (xtx WF) Pi 1000 he hz,k⟩
inductive QW (C:LV) (vs:M2) (H:Hp) (Q:VK) (Ml:XK):Prop
 |mk (o r d:LV) (x:V) (R T:Fr) (n t':Nat) (h0:vs=[xgX,xjO,xcG,x]) (h1:xkv H 0) (h2:xwt n 0 [] t' T) (h3:xfY n) (h4:∀l H',Ι->xaz=xcf->xkv H' t'->(∀c o,ω=Id->xkh->xaY=Id)->xat):QW C vs H Q Ml
def N6:ST ["self","reader","count","before","signs","size","sign"] Jad kC:=Os
def rE (F:xSw "RunWay.read" kC)(Y:xF9)(Z:xBn):xpk Jad (QW C):=by
 have X:=Z.Y.X;show xIl Yg Z.tk;have GT:=Yg P w base;show xtL TR Z.T Nm Y.room;have GM:=i9 (P:=P) (w:=w) (base:=base) Nm Y;show xao N6 (λ L9 A outer st H vs Q E hr h=>?_);obtain⟨o,r,d,x,R,T,n,t',rfl,hR,hk,MG,k⟩:=h;refine xca (xa6 4 N6.nd xe8 (xve cH xDq Ps (xaF 5 N6.nd (xcD (xvR No Tk GT hr ad)) (xcl 6 N6.nd (xvR No Tk GT hr ad) (aC (xfe GM hr Nm χ xa9 Ps)) (xqP (xD1 HJ Im d6 χ (xwa xco xa9)))))) χ)
 obtain⟨⟨dx0,TC⟩,VR,hb,_⟩:=id hR;have no:∀t,xac xQp:=λ t=>xr9
 show xlx xbT (xju (xdB l nl)) g1;have N9:xex r:=xLq;have PX:xlZ:=xLp;show ρ xbT (Ψ (λ m σ H2=>∃v5 v6 S t,m=n-S.length/\xwt n t S t' T/\σ=[xAB,xsw,xhk,xas,xeu,v5,v6]/\xh3=xgl/\xkv H2 t/\∀c o,ω=Id->xkh->xh2=Id) ⟨n,none,none,[],0,rfl,hk,rfl,i',hR.keep λ c o e _=>xBo,λ c o e _=>xBo⟩)
 rintro m σ H2 ⟨v5,v6,S,t,rfl,hk,rfl,Ot,Nu,kp⟩;refine⟨_,rfl,l,_,rfl,xK9,_,rfl,_,_,rfl,rfl,_,rfl,xc9 h h⟩
 ·clear g1;show xaK h' xb5 EA h';cases hk with
  |done e=>exact xdX [_,_] (xnr IO) Pi (Ez (xxf h') xkR)
  |run q1 q2 q3 q4=>
  clear h h';refine xuF;show xck TK N3 Nu.ob xo9
  show xlx ⟨_,rfl,r,TK,_,rfl,N3,xkc,r,d,R,t,6,rfl,Nu,Z9,by exact xbn [_,_] xPG xaA (xcT 6) xaA q2,Ε H3 Nq ML⟩ (xnV rfl xcX) g2;have e1:XV xE9+1=xiH xE9:=by exact(xid NE NE NE NE)
  try dsimp only
  rw [e1];generalize hz:xE9+1=z at*;show xck O5 NO Nq.ob xo9
  show xko ⟨_,rfl,r,O5,_,rfl,NO,xkc,r,d,R,t+6,8,rfl,Nq,Z9,by exact xbn [_,_] xPG xaA (xiD (xcT 6)) xaA q2,λ H4 M8 Pm=>xcX⟩;generalize xmb 6 8=s at*;have VV:=xkl xFH N9;show xlx xo9 ⟨_,rfl,_,rfl,_,rfl,l,_,z,n,rfl,VV,by show xaT (xbn [_,_,_] Pi WF Pi WF q3),xcX⟩ g2;refine xuR (xhj VV) (by show xkB) (P3 l4 n4);have s4:=xa1 xwA n4;have Sa:(xbP H4 l4 xwA) l4=XL xwA:=i';have h4l':=xfj VV;have nl4:xex l4:=ae VV n4;have YZ:xkv (xbP H4 l4 xwA) (t+14):=M8.keep λ c o e _=>xfj e
  have QK:∀c o,ω=Id->xkh->(xbP H4 l4 xwA) c=Id:=λ c o e z=>xfj (xkl (xct xJX z) z)
  show xbU (xbP H4 l4 xwA) H5 ⟨_,rfl,l4,_,_,rfl,rfl,Sa,by lia,by lia,aW (by show xiX (1*_);lia),P3 l6 n6⟩;rw [E2,ip];have s6:=xbe (xTK s) n6;have h66:xd8 H5 l6 (xTK s) l6=xah (xTK s):=i';have h6l:=xcE h4l';refine⟨l,l6,_,_,rfl,rfl,h6l,h66,aW (by simp;exact xlR [_,_,_] xPv (xo7 WF) Pi MG q3),_,?_,_,_,_,_,rfl,q4,rfl,by rw [i',EO],YZ.keep λ c o e hc=>?_,λ c o e z=>?_⟩
  ·rw [EB,Fd,<-hz];exact Gv q1 (HE xes)
  ·show υ (by show xj3 hc;exact N9.symm;exact PX.symm) (xcE e)
  ·show xqg (xcE (xl0 e z))
 ·cases hk with
  |run q1=>show xjQ (by show xaT (xKa q1)) h
  |done e=>exact xEn (xLC nl Ot Nu kp)
inductive Qr (C:LV) (vs:M2) (H:Hp) (Q:VK) (Ml:XK):Prop
 |mk (o r d x:LV) (R W S:Fr) (n t':Nat) (h0:vs=[xgX,xjO,xcG,xcn]) (h1:xkv H 0) (h2:xgx=xlE) (h5:xnD xrS 0 W t' S) (h6:xfY n) (h7:xo4) (h8:∀l H',Ι->xaz=xah xMT->xkv H' t'->(∀c o,ω=Id->xkh->xaY=Id)->xat):Qr C vs H Q Ml
abbrev BX:xaO:=["self","reader","count","before","signs","begin","end","back","size"]
def N5:ST BX Jad iz:=Os
def pI (F:xSw "CopyWay.read" iz)(Y:xF9)(Z:xBn):xvo Jad (Qr C):=by
 have X:=Z.Y.X;show xIl Yg Z.tk;have GT:=Yg P w base;show xhe TR Z.T La Y.lay Ao Y.ahead;have GA:=jN (P:=P) (w:=w) (base:=base) Ao X;have GL:=xk (P:=P) (w:=w) (base:=base) La Y;show xck tl hle X.least (F.ok N5 λ L9 A outer st H vs Q E hr h=>?_)
 intro _;obtain⟨o,r,d,x,R,W,S',n,t',rfl,hR,hx,hk,MG,hW,k⟩:=h;have P2:xbr 31:=Ty;show xji Mw xbg (xdD 4 N5.nd (xl5 GA Ao TD) 5 N5.nd xDq (xa6 6 N5.nd (xbv xa9 Ps) (xve cH xDq xco (xg3 bd (xvR No Tk GT P2 ad) ad (aC (xw2 χ (xvR No Tk GT P2 ad))) (xdD 7 N5.nd (xvR No Tk GT P2 ad) 8 N5.nd (xbv (xvR No Tk GT P2 ad) xGe) (xqP (ay GL hr La (xvN χ xgi xjN xco)))))) (xzO a6 χ xa9 bM)))
 obtain⟨⟨dx0,TC⟩,VR,_,_⟩:=id hR;have no:∀t,xac xQp:=λ t=>xr9
 show xlx xbT (xoF _ x W rfl hx (xdB l nl)) g1;have N9:xex r:=xLq;have PX:xlZ:=xLp;show xlx xbT (xrQ l i' xaa) g1
 try dsimp only
 show Uf EA xbT
 have e0:xVh+xay=LT (W.length+n):=by exact(xjy [_,_] Pi Pi [_,_] Pi Pi)
 show xcC ⟨_,rfl,_,rfl,_,_,rfl,rfl,xaa⟩
 try dsimp only
 show xhO e0 xbT (Ψ (λ m σ H2=>∃v7 v8 S t,m=xrS-S.length/\xnD xrS t S t' S'/\σ=[xAB,xsw,xhk,xap x,xeu,UV W.length,UV xrS,v7,v8]/\xh3=xgl/\xkv H2 t/\∀c o,ω=Id->xkh->xh2=Id) ⟨n,none,none,W,0,by exact xcY (xaf [_,_,_] xdQ Φ IO Sc τ) [_,_,_] Φ xdQ Sc IO (NL.J' (xfx [_,_] Sc xaR)),hk,rfl,i',hR.keep λ c o e _=>xBo,λ c o e _=>xBo⟩)
 rintro m σ H2 ⟨v7,v8,S,t,rfl,hk,rfl,Ot,Nu,kp⟩;have hle2:=hk.le;refine⟨_,rfl,l,_,rfl,xK9,_,rfl,_,_,rfl,rfl,_,rfl,xc9 h h⟩
 ·clear g1;show xaK h' xb5 EA h';have Mb:xBH xrS:=by exact xbn [_,_,_] NE Φ NE Φ (xxf h')
  obtain⟨TK,N3⟩:=Nu.ob;clear h h';have t1:t+1≤Ο:=by cases hk<;>lia
  show xax xCo ⟨_,rfl,r,TK,_,rfl,N3,xkc,r,d,R,t,1,rfl,Nu,Z9,t1,Ε H3 Nq ML⟩;obtain⟨O5,NO⟩:=Nq.ob;have TH:=xFH;cases hk with
  |done e=>exact xdX [_,_,_] (xgg xaR) (xel xaR) (Ez Mb xkR)
  |sg q1 q2 q3 q4=>
   show xhO q3 (xc8 rfl _ (xzh xdT h)) ⟨_,rfl,xSE,_,rfl,r,O5,_,rfl,NO,xkc,r,d,R,_,8,rfl,Nq,Z9,by exact xbn [_,_] (xcT 9) xaA xmR xaA q2,Ε H4 M8 Pm⟩;have VV:=xkl TH N9;refine⟨l,_,_,rfl,rfl,VV,bz (by show xaT (xqf [_,_,_] xdQ (xo7 (xaZ 192 xcc)) IO MG (Ez hW hle2))),_,?_,_,_,_,_,rfl,q4,rfl,by rw [i',EO];rfl,?_,λ c o' e z=>?_⟩
   ·show xhY (xzE xna)
   ·refine M8.keep λ c o e hc=>?_
    show υ (by show xj3 hc;exact N9.symm;exact PX.symm) e
   ·show xqg (xkl (xct xJX z) z)
  |cp q1 q2 q3 q4 q5 q6 q7=>
   show xhO q3 (xc8 rfl _ (xE4 xb5 (by show Υ) xfA)) (xoh R2 q2')
   show xfD ⟨_,rfl,r,O5,_,rfl,NO,xkc,r,d,R,_,8,rfl,Nq,Z9,by exact xbn [_,_] xPF xaA xmR xaA q2,λ H4 M8 Pm=>q2' _ _ ?_⟩ q2';show xck dx4 Ru M8.ob (xoh R2 q2')
   refine⟨_,rfl,r,dx4,_,rfl,Ru,xkc,r,d,R,_,4,rfl,M8,Z9,by exact xbn [_,_] xPF xaA (xa4 xmR 4) xaA q2,Ε H5 YZ QK⟩;have ez:LT (xtm (t+1+8) 4)+3=LT (xmb 9 4+3):=by show LE (show t+1+8=t+9 by exact xcK Τ xmR (xcT 9) Τ (xcT 9) xmR) (xid xfc xfc xfc xfc)
   show xfD (xnV rfl (q2' _ _ ?_)) q2'
   try dsimp only
   rw [ez];have h5l:=xl0 (xkl TH N9) N9;refine⟨_,rfl,_,rfl,_,rfl,_,rfl,l,S,xmb 1 8,xmb 9 4+3,xrS,rfl,h5l,by exact xbl [_,_] xaR (xm4 64 192) Pi 1000 MG hW,q5,q6,q4,_,?_,_,_,_,_,rfl,q7,rfl,i',?_,λ c o' e z=>?_⟩
   ·show LE bV (xzE (Ha xrl))
   ·refine(show t+1+8+4=t+13 by exact xcK Τ (xa4 xmR 4) xPF Τ xPF (xa4 xmR 4))▸YZ.keep λ c o e hc=>?_
    show υ (by show xj3 hc;exact N9.symm;exact PX.symm) e
   ·show xqg (xl0 (xkl (xct xJX z) z) z)
 ·cases hk with
  |sg q1=>show xjQ (by show xaT (xof (xaf [_,_,_] NE Φ NE Φ q1))) h
  |cp q1=>show xjQ (by show xaT (xof (xaf [_,_,_] NE Φ NE Φ q1))) h
  |done e=>
   show xcC xaa;have ec:xmN (S'.map vN) W.length none=Ρ xZc:=by rw [eu,<-G9]
   refine⟨_,rfl,_,rfl,_,rfl,l,_,rfl,Mm.of Ot,P3 l9 n9⟩
   try dsimp only
   rw [ec];have s9:=xbe xZc n9;refine k l9 _ ?_ i' (Nu.keep λ c o e _=>s9 _ _ e) λ c o e n=>s9 _ _ (xaX e n)
   cases e:H l9 with
   |none=>rfl
   |some o'=>
    by_cases z:l9=r
    ·subst z;obtain⟨⟨dx9,ZE⟩,_⟩:=Nu;show W1 ZE n9 n9
    ·show W1 xJX n9 n9
universe K30.Ck
namespace K30
open PySem L2 QQ W17 W16 BP
seal PE PA PS PSs PT PW PG PI
abbrev oB:L7:=xjo 30 3
inductive UH (C:LV) (vs:M2) (H:Hp) (Q:VK) (Ml:XK):Prop
 |mk (p:_) (d:_) (R:_) (t:_) (h0:vs=xbk) (h1:xn3 H t) (h2:xn2 t):UH C vs H Q Ml
def zM:xdW oB:=Os
def pX (F:xaL "place" "BitReader.place" oB)(T:xBe C):xh5 (UH C):=by
 show xao zM (λ L9 A outer st H vs Q E hr h=>?_);obtain⟨p,d,R,t,rfl,⟨⟨dx,hp⟩,hd,hb,ht⟩,q⟩:=h;refine xjK Ζ;exact⟨_,rfl,p,C,dx,_,_,rfl,hp,T.cl,T.nT,gc _ _,q⟩
def Ms.same (h:xn3 H t)(s:Κ):xn3 H' t:=by
 obtain⟨⟨dx,h1⟩,h2,h3,h4⟩:=h;exact⟨xgc (xft h1),xft h2,h3,h4⟩
universe K30
namespace K30.C
open PySem L2 QQ C9 C10
seal PE PA PS PSs PT PW PG PI
structure Mk2 (K:Frag)(mg:Α)(C:LV):Prop where
 X:xbN
 Y:Za K mg
 need:Wp "need_lengths" fU Jaf
 cof:Wp "codes_of" ik Jaf
 keep:∃f fd,xeV C "keep_beginnings" "CodeReader.keep_beginnings" wu xW2
 R:CRc K mg C
def ok_cinit (F:xZR sCInit)(M:Mk2 K mg C):xam 34 xT0 xOd:=by
 obtain⟨X,Y,⟨_,_,N⟩,⟨_,_,O⟩,⟨_,_,Ke⟩,T⟩:=M;have GO:=Qz (P:=P) (w:=w) (base:=base) O N Y;have GK:=yB (P:=P) (w:=w) (base:=base) Ke.F T X;show xao scCInit (λ L9 A outer st H vs Q E hr h=>?_);obtain⟨p,dx,a,L,rfl,hp,ha,G,q⟩:=h;have Mw:xbg:=Ty;show xax (xeo qi (xeo qi (ac (a9 EY rfl (mQ Z7 Y.X.enum (xcw (xd2 GO O No))) (xRR (xuK 2 scCInit.nd (xuK 3 scCInit.nd jv))) (ac (aF (og (y0 TD))
    (ab (mE xI9 Ζ TD Ps rfl)
    (xqP (bh PP T.cl Ke GK Mw (xfy xyE xyE)))) az)))))) xbT
 intro d nd;have Pj:xGE:=xrY nd;show xcC ⟨_,rfl,p,C,dx,[],rfl,(by show υ Pj hp),T.cl,T.nT,(by show xdi 0),xaa⟩;refine xbT
 intro e ne;have npe:p≠e:=by
  show xl9;show W1 i' ne ne
 have nde:d≠e:=by
  show xl9;rw [xoz,i'] at ne;cases ne
 show xcC ⟨_,rfl,p,C,dx,_,rfl,(by rw [ai npe,i']),T.cl,T.nB,(by show xdi 1),xaa⟩;have neH:Χ e:=by
  rw [ai npe.symm,ai nde.symm] at ne;exact ne
 try dsimp only
 rw [iu];have kp:∀b o,xaN=Id->xhn->xfm (xKq (xe4 d xiz) (xCJ d []) e xiz) xsF b=Id:=λ b o ez hn=>by
  rw [ai hn,xqx ez neH,ai hn,xqx ez nd];exact ez
 have VO:xfm (xKq (xe4 d xiz) (xCJ d []) e xiz) xsF p=xoY d e:=i';have VR:Tm (xfm (xKq (xe4 d xiz) (xCJ d []) e xiz) xsF d) xiz:=by
  rw [xoz,ai nde,xoz,i']
 show xdg he0 (Tm (xfm (xKq (xe4 d xiz) (xCJ d []) e xiz) xsF e) xiz) (by
  rw [ai npe.symm,i']) (xfm (xKq (xe4 d xiz) (xCJ d []) e xiz) xsF) H0;have ZA:xcF a:=xsm ha (by show Υ);refine xc0 _ L (xpI a (xaX ha ZA) G.most) G (λ l xs H1 nl s1 Oq Yc=>?_);have Oa:xsC:=On (by show xbm VO nl nl)
 have PX:xlZ:=On (by show xbm VR nl nl)
 have nle:xex e:=On (by show xbm he0 nl nl)
 refine xbI l _ (Mm.of Oq) (xf (λ i σ H2=>∃v2 v3 k1 k2,σ=[xfX,xaQ,v2,v3]/\H2 p=xoY d e/\Tm (H2 d) (.dT k1)/\Tm (H2 e) (.dT k2)/\xwr i k1/\xws i k2/\xh3=xdZ/\xse H2 xt6/\
   ∀b o,xaN=Id->xhn->H2 b=Id) ⟨none,none,[],[],rfl,xcR VO,xcR VR,xcR he0,zj L,zr L,Oq,Yc,λ b o ez hn=>xcR (kp b o ez hn)⟩ (λ i σ H' _ z9=>by obtain⟨_,_,_,_,_,_,_,_,_,_,z,_⟩:=z9;exact Mm.of z) ?_ ?_)
 ·rintro i x t σ H2 hx nt ⟨v2,v3,k1,k2,rfl,ME,hd2,Wf,hT,hB,MD,hC,RH⟩;have Ny:i<(xt6).length:=by show xba hC.1 (xdN hx)
  have hiL:xmn i:=by
   unfold codes at Ny
   rwa [bv] at Ny
  have hLle:=G.le;have st:=xjF [xsn,x] nt;refine⟨t,_,rfl,xIk,rfl,_,_,rfl,_,_,rfl,rfl,?_⟩;have ot:=hC.2 i x _ hx xva;have hpT:=xhc ME;have hdT:=xhc hd2;have heT:=xhc Wf;have V':=xRy;have hCT:xse _ xt6:=hC.keep λ t2 ys ez=>xhc ez
  show xdg othT (∀b o,xaN=Id->xhn->xj7 t [xsn,x] b=Id) (λ b o ez hn=>xhc (RH b o ez hn)) (xj7 t [xsn,x]) H3;cases eo:(xt6)[i] with
  |none=>
   rw [eo] at ot;have ex:xn9 x:=ot;subst ex;have h0:∀s,xaM L s->¬xpW:=λ s hs h1=>by
    have:=OL G hs h1;rw [xva,eo] at this;cases this
   refine xbY _ rfl _ xiS;exact⟨_,_,k1,k2,rfl,hpT,hdT,heT,zO hT h0,zW hB h0,V',hCT,othT⟩
  |some c=>
   rw [eo] at ot;have TX:=rM G (by rw [xva,eo]);obtain⟨u,ex,hu⟩:=hC.keep (H':=H3) (λ t2 ys ez=>by exact(st _ _ ez))|>.2 i x _ hx (by rw [EI Ny,eo]);subst ex;show ρ (xbY _ rfl _ xjY) xo9
   show xko ⟨_,rfl,_,rfl,p,C,dx,_,_,rfl,hpT,T.cl,T.nT,B8 _ _,_,rfl,d,_,rfl,RC.t (b:=u) (k:=kk xg6 xi5) hdT hu (xo1 (show _≤300 by show xaE hT.1 (xbl [_,_,_] (xnr xdQ) (xa2 (xff 300)) IO 300 hiL (xuA hLle)))),xcX⟩;have nud:u≠d:=aH hu hdT (by show Υ);have hu4:upd H3 d (.dT (putK k1 (kk xg6 xi5) xsn)) u=xeY [vN xg6,vN xi5]:=by show υ nud hu
   show ρ ⟨_,rfl,p,dx,_,rfl,(by show υ Pj hpT),xDG _ Z8 Z8,?_⟩ ⟨_,rfl,u,_,_,_,rfl,rfl,MT.of hu4,xev,_,rfl,u,_,_,_,rfl,rfl,MT.of hu4,xdk,?_⟩;have hc12:xfq xi5:=rL G TX.1;show ρ ⟨p,d,e,dx,xg6,xi5,k2,rfl,(by show υ Pj hpT),(by show υ nde.symm heT),(by show xaE hB.1 (xbl [_,_,_] (xf1 12 Β (xfM 12 IO)) (xfM 12 (xkZ 12 300 (xmh 12))) IO 5000 (EH 12 hiL) (xuA (EH 12 hLle)))),hc12,λ H5 k2' he5 XB hv5 WG=>?_⟩ ⟨_,_,_,k2',rfl,WG _ _ (by show υ Pj hpT) npe,WG _ _ i' nde,he5,?_,?_,WG _ _ (by show υ PX V') nle,?_,λ b o ez hn=>?_⟩
   ·have:=Cj hT TX.1 (Ξ TX);rw [<-xbM TX] at this;exact this
   ·refine CM hB TX.1 hc12 XB (P3 a b)
    show xba (xbM TX) (hv5 a b)
   ·show ρ (hCT.keep (Ε t2 ys ez)) (WG _ _ ?_ (aH ez heT (by show Υ)));show υ (aH ez hdT (by show Υ)) ez
   ·have h3:=othT b o ez hn;refine WG _ _ ?_ (ae ez neH);show xjv ez nd h3
 ·rintro σ H2 ⟨v2,v3,k1,k2,rfl,ME,hd2,Wf,hT,hB,MD,hC,RH⟩;have e1:xI1 L.length:=by rw [hC.1];show xci codes bv
  rw [e1] at hT hB;exact q d e H2 nd neH ⟨xgc ME,⟨k1,hd2,hT⟩,⟨k2,Wf,hB⟩⟩ RH
def DZ (h:xqm H)(h':Ms B H r g R t):p≠r/\d≠r/\e≠r/\p≠g/\d≠g/\e≠g:=by
 obtain⟨⟨dx,h1⟩,⟨k1,h2,_⟩,⟨k2,h3,_⟩⟩:=h;obtain⟨⟨dy,r1⟩,r2,_,_⟩:=h';refine⟨aH h1 r1 ?_,aH h2 r1 (by show Υ),aH h3 r1 (by show Υ),aH h1 r2 (by show Υ),aH h2 r2 (by show Υ),aH h3 r2 (by show Υ)⟩;intro z;injection z with _ _ z
 unfold fC fR at z;show xAs z z
 show xAs z z
 exact Eu z
def NM.but (h:xqm H)(h':Ms B H r g R t)(s:∀c o,ω=Id->xkh->xaY=Id):xqm H':=by
 obtain⟨n1,n2,n3,_⟩:=DZ h h';exact h.keep λ c o ez hc=>s c o ez (by rcases hc with rfl|rfl|rfl<;>assumption)
structure Rds (K:Frag)(mg:Α)(B:LV):Prop where
 X:xbN
 whole:xMf
 size:xWA cN Jai
 ones:Wp "ones" gz Jai
 bits:Wp "bits_at" gu Jaj
 take:∃f fd,xN6 K B "take" k6 xtN
 left:xsc B "left" "BitReader.left" k7
 place:xsc B "place" "BitReader.place" oB
 R:xBe B
inductive spThing (C B:LV) (vs:M2) (H:Hp) (Q:VK) (Ml:XK):Prop
 |mk (p d e r g:LV) (L R:Fr) (t q s:Nat) (h0:vs=[xbV,xjO]) (h1:xqm H) (h2:xiK) (h3:Ms B H r g R t) (h4:xkS L xJY q s) (h5:xez (Ms B H' r g R (t+s)->(∀c o,ω=Id->xkh->xaY=Id)->xmZ q)):spThing C B vs H Q Ml
def ok_thing (F:xaL "thing" "CodeReader.thing" fV)(T:CRc K mg C)(D:xF9 B):xpk xUb (spThing C B):=by
 obtain⟨X,⟨_,_,W⟩,⟨_,_,S⟩,⟨_,_,O⟩,⟨_,_,Bi⟩,⟨_,_,Ta⟩,⟨_,_,Le⟩,⟨_,_,Pl⟩,TB⟩:=D;have GT:=sW (P:=P) (w:=w) (base:=base) Ta.F S W Bi O Le TB X;have GL:=nJ (P:=P) (w:=w) (base:=base) Le.F TB X;have GP:=pX (P:=P) (w:=w) (base:=base) Pl.F TB;show xao scThing (λ L9 A outer st H vs Q E hr h=>?_);obtain⟨p,d,e,r,g,L,R,t,q',s',rfl,hC,G,hR,hD,k⟩:=h;show xji Mw xbg (xdD 2 scThing.nd (xRl No Pl GP Mw) 3 scThing.nd ad (xcl 4 scThing.nd ad (xoP (og (BE xI9 (xo2 TD χ) Ζ)) (ab (xqq (xRl No Le GL Mw) ad iT)
   (xaF 3 scThing.nd (ak xj (xf3 cB TD) (xgS No TB.cl Ta GT hr ad)) (xhx 4 scThing.nd xPJ)))) (xjM (aF (og (lO xI9 (xo2 TD χ) Ζ))
    iT az) (yi xI9 Ζ (xo2 TD χ) xkF))))
 have ht:=hR.le;have RQ:xaI xJY (Ο-t):=by rw [EN,Mu]
 refine xbT
 show xck dx TC hR.ob ⟨_,rfl,r,dx,_,rfl,TC,xr9,r,g,R,t,rfl,hR,xaa⟩;clear g1;show xnW;show xnW;show ρ xbT (Ψ (λ m σ H2=>∃s,m=(Ο-t)-s/\t+s≤Ο/\(∀j<s,Yj L (xOX j))/\σ=[xfX,xsw,UV t,UV (xrk t s),xi0]/\Ms B H2 r g R (t+s)/\xqm H2/\∀c o,ω=Id->xkh->xh2=Id) ⟨_,0,rfl,by exact xbn [_,_] IO xaA (xcT 0) xaA ht,xe9 j hj hj (by exact(xQK)),rfl,hR,hC,λ c o z _=>z⟩)
 rintro m σ H2 ⟨s,rfl,hs,hbg,rfl,Nu,Up,RH⟩;have TU:xaI xvF s:=by rw [ER,RQ];lia
 obtain⟨k2,RT,Og⟩:=Up.bg;show xck dy ME Up.ob (xkr _ (by show xdn) (P3 u nu));have su:=xjF [xqi,xcV] nu;have hu:xj7 u [xqi,xcV] u=xJr (kk (xrk t s) s) kV:=i';have Nq:=Nu.same su;have VS:=Up.same su;have Yn:∀c o,ω=Id->xkh->xj7 u [xqi,xcV] c=Id:=λ c o z hn=>xBg (RH c o z hn)
 have ZL:=xBg RT;have M4:=xBg ME;show xbU (xj7 u [xqi,xcV]) H3 ⟨_,rfl,p,C,dy,_,_,rfl,M4,T.cl,T.nB,D4 _ _,e,_,rfl,Oh.t ZL hu,_,rfl,?_⟩;show xaK hw (zB Og xvF) TU hw;by_cases c1:Yj L xvF
 ·show xhO (hw.mpr c1) xjY xuF;have hbg':∀j<s+1,Yj L (xOX j):=λ j hj=>by
   show xbx j s z z
   ·exact hbg j z
   ·show xb9 j s (by exact xif (xaf [_,_] NE Β IO Sc hj) [_,_] IO IO z) c1
  refine xo9
  show xck O5 Ys Nq.ob ⟨_,rfl,r,O5,_,rfl,Ys,xr9,r,g,R,t+s,rfl,Nq,rfl,_,rfl,xj5⟩
  ·have h0:Ο-(t+s)=0:=xXv;have hn:Due L xJY .none:=λ j hj=>hbg' j (by show π RQ hj (xae [_,_,_,_,_,_] (xsv (xag (xln (xdh WF)))) (xaZ 0 (xdh (.a (xsv xcc) xrA))) NE Β (EC h0) (xbJ hj τ (xdE IO xaA IO xaA ht))))
   exact nomatch xVP
  ·have h0:t+s<Ο:=by
    show xbx (t+s) Ο z z
    ·exact z
    ·show xjQ (MU.mpr (show Ο-(t+s)=0 by exact(xnY (xmg [_,_,_,_] (xgm (xag xrh)) (.a xrh xbK) IO 0 z (xeX [_,_,_] xcB xaA xcB xaA hs))))) h1
   show xko xcX;show xbd b MR Pn (AL h0) xo9
   have hs12:xfq s:=by
    obtain⟨q1,s1,z1,z2,_⟩:=c1;show xaE (rL G z1) (xbl [_,_,_] (xag xPI) (xaV (xeW 2 12)) IO 12 (EC TU.symm) (xuA z2))
   have es:xrk t s<2^s:=by have:=BP.Nd xvF;rwa [TU] at this
   have es2:2^s≤2^12:=xiT hs12;show ρ (xc0 _ _ rfl ⟨by exact xj9 (xfx [] xed xaH),by exact xj9 (xfx [] xaH (.n 1000000)),by lia⟩ ?_) ⟨_,rfl,r,O5,_,rfl,Ys,xr9,r,g,R,t+s,1,rfl,Nq,by exact(xfx [] xaH (.n 24)),h0,Ε H4 M8 Ym⟩;show xko (xnV rfl xcX);have hb3:b.toNat<2^1:=by cases b<;>decide
   have e1:Builtin.bitOr (LT (xrk t s)*2^xON) (LT (K30.bt R (t+s) 1))=LT (xrk t (s+1)):=by
    show Builtin.bitOr _ (LT (xt1/2^(Ο-(t+s+1))%2^1))=_;rw [Pn];have:=qL (xrk t s) b.toNat 1 hb3;rw [MR,BP.Tq];rw [xce (xcv) (LT 1),this];lia
   try dsimp only
   show xs5 xwc;have e2:XV s+1=xiH s:=by exact(xid NE NE NE NE)
   try dsimp only
   show LE e2 ⟨_,Gv (Nat.lt_sub_of_add_lt (Ix t s▸h0)) (Gs s),s+1,rfl,h0,hbg',rfl,M8,VS.but Nq Ym,λ c o z hn=>Ym c o (Yn c o z hn) hn⟩
 ·rw [Bool.eq_false_iff.mpr (On (c1 (hw.mp z)))];show xcC (aS xaa);obtain⟨k1,XC,O4⟩:=VS.th;show xbH O5 Ys Nq.ob tw1 tw2 (zc O4 xvF);rw [TU] at tw1 tw2;show ρ xo9 (xkr _ (by show xdn) (P3 v nv));have sv:=xjF [xqi,xcV] nv;have hv:xdJ H3 v [xqi,xcV] v=xJr (kk (xrk t s) s) kV:=i';have M8:=Nq.same sv;have hC4:=VS.same sv;have Ym:∀c o,ω=Id->xkh->xdJ H3 v [xqi,xcV] c=Id:=λ c o z hn=>sv _ _ (Yn c o z hn)
  have hk4:=sv _ _ XC;have Um:=sv _ _ M4;have Ru:=sv _ _ Ys;show xbU (xdJ H3 v [xqi,xcV]) H4 ⟨_,rfl,p,C,dy,_,_,rfl,Um,T.cl,T.nT,B8 _ _,d,_,rfl,Oh.t hk4 hv,_,rfl,?_⟩;by_cases c2:∃q,xBP xvF q
  ·obtain⟨q,hq⟩:=c2;rw [tw1 q hq];show xko (aS xcX);have hn:xkS L xJY q s:=⟨by show LE RQ (xcI [_,_,_,_] (.a xdQ xrA) (xln Φ) hs τ),hq,hbg⟩;injection xVP with e1 e2
   rw [e1,e2] at k;refine⟨_,rfl,p,C,dy,_,_,rfl,Um,T.cl,T.nT,B8 _ _,_,rfl,_,rfl,(by show xdn),P3 x nx⟩;have sx:=xjF [xqi,xcV] nx;refine xbI d _ ?_ (xeR (M8.same sx) λ c o z hn=>sx _ _ (Ym c o z hn));show xhM (Oh.t (sx _ _ hk4) (Ω (xdJ H4 x [xqi,xcV] x) (xJr (kk (xrk t s) s) kV) i')) (tw1 q hq)
  ·have c3:∀q,¬xBP xvF q:=λ q hq=>c2 ⟨q,hq⟩
   show Uf (tw2 c3) xjY;have hn:Due L xJY .bad:=⟨s,by show LE RQ (xcI [_,_,_,_] (.a xdQ xrA) (xln Φ) hs τ),hbg,c1,c3⟩;exact nomatch xVP
universe K30.C
namespace K30.M
open BP C9 C10 W17
def yE (u)(h:t+s≤u.length):num ((xN4).take s)=xFm/2^(xDF (t+s))%2^s:=by
 have h1:=cR (u.take t) xN4;rw [Ft,EN] at h1;show xaK h2 (Nd xN4) EN h2;have h3:num xN4=xFm%2^(xDF t):=by rw [h1,F2,LI,Gx h2]
 rw [Tp _ (by show LE EN (xcI [_,_,_,_] (xrq xdQ) xPz h τ)),h3,EN,Nat.sub_sub,show xDF t=(xDF (t+s))+s by exact xfU (xae [_,_,_,_,_] (xdh xfH) (xnh xJf) IO Φ τ (xeX [_,_,_] xaR WF Sc WF h)) [_,_,_,_,_] (xdh xJf) (xnh xfH) Φ τ (xeX [_,_,_] xaR WF xaR WF h),Hh,K5]
def iB (h:n<2^s)(r):num ((xvt s++r).take s)=n:=by
 rw [List.take_left' (Mp n s),dg,Gx h]
def dZ (n s)(r):xuV (xvt s) r s=r:=List.drop_left' (Mp n s)
inductive P1:Fr->xby (Θ->xea Fr Θ)
 |done {L:Fr} {ah:Nat} {b:Θ}:xmL 272->xsf L b L b
 |one {L L':Fr} {ah:Nat} {b b':Θ}:xXh->xXU 3->xpz≠7->P1 (L++[xpz]) xpz (b.drop 3) L' b'->xsf L b L' b'
 |rep {L L':Fr} {ah:Nat} {b b':Θ}:xXh->xXU 9->xpz=7->xsf (L++xou (xyO 3 6) 3 ah) (b.drop 9) L' b'->xsf L b L' b'
universe K30.M
namespace K30.Ck
open PySem L2 QQ W17 W16 BP K30.M
seal PE PA PS PSs PT PW PG PI
abbrev NQ (r:LV)(H H':Hp):Prop:=∀c o,ω=Id->xkh->xaY=Id
def RB (C:LV)(H:Hp)(r d:LV)(b:Θ):Prop:=∃R t,xkv H t/\b=xGh
theorem RB.keep (h:xnR)(k:∀c o,ω=Id->(c=r\/c=d)->xaY=Id):xDP H':=by
 show xbq R t h e h ⟨R,t,h.keep k,e⟩
def RB.same (h:xnR)(k:Κ):xDP H':=h.keep λ c o e _=>k c o e
def RB.ob (h:xnR):∃dx t,H r=xdx xpv:=by
 obtain⟨R,t,⟨⟨dx,h⟩,_⟩,_⟩:=h;exact⟨dx,t,h⟩
def RB.ls (h:xnR):∃o,H d=Id:=by
 obtain⟨R,t,⟨_,h,_⟩,_⟩:=h;exact xbR h
theorem RB.upd (h:xnR)(h1:xex r)(h2:xlZ):xDP (xe4 l o):=h.keep λ c o e hc=>by
 show υ (by show xj3 hc;exact h1.symm;exact h2.symm) e
inductive UE (C:LV) (vs:M2) (H:Hp) (Q:VK) (Ml:XK):Prop
 |mk (r d:LV) (b:Θ) (s:Nat) (h0:vs=[xjO,xcV]) (h1:xnR) (h2:s≤24) (h3:xXU s) (h4:xez (xF0 xH8->xkj->xmZ (num (b.take s)))):UE C vs H Q Ml
def dX (hb:xi4)(h:t+s≤Ο):xEC s=num (xBw xil t s):=by
 show xaK hv (Oi hb) OY hv;rw [yE _ (by show xQY h),K30.C.Mu];show xc2 K30.C.bt dg (Gx hv);rfl
def _root_.K30.Ck.Ww.tkB (Z:xBn):∃f fd,xN6 K C "take" k6 xtN/\∀P w base,xpl xtN (UE C):=by
 obtain⟨f,fd,Tk,G⟩:=Z.tk;refine⟨f,fd,Tk,λ P w base=>(G P w base).imp λ vs H Q E h=>?_⟩;obtain⟨r,d,b,s,rfl,⟨R,t,hR,rfl⟩,hs,YR,k⟩:=h;have hl:xaI xGh (Ο-t):=by rw [EN,K30.C.Mu]
 rw [hl] at YR;have ht:=hR.le;have h:t+s≤Ο:=by exact(xae [_,_,_,_] (xaV xtS) (xbi xbK) Pi xbK YR (xdE IO xaA IO xaA ht))
 show xgk ⟨r,d,R,t,s,rfl,hR,hs,h,Ε H' RV kp⟩ (dX hR.by' h) (k H' ⟨R,t+s,RV,by rw [Gg]⟩ kp)
def NQ.tr (a:xkj)(b:NQ r H' XO):xAT XO:=λ c o e n=>b c o (a c o e n) n
def NQ.s (a:xkj)(b:Mf H' XO):xAT XO:=λ c o e n=>b c o (a c o e n)
def NQ.of (a:Κ):xkj:=λ c o e _=>a c o e
def NQ.up (a:xkj)(n:Ι):xAT (upd H' l o):=λ c o e z=>by show xgr n (a c o e z)
inductive S2 (C:LV) (vs:M2) (H:Hp) (Q:VK) (Ml:XK):Prop
 |mk (r d:LV) (b:Θ) (L:Fr) (b':Θ) (h0:vs=[xjO]) (h1:xnR) (h2:xwI b L b') (h3:∀l H',Ι->xaz=xpo->xF0 b'->xkj->xat):S2 C vs H Q Ml
def OF:ST ["reader","lengths","ahead","told"] xjA rN:=Os
def vj (F:Δ "lengths_in_items" rN xjA)(Z:xBn):xpk xjA (S2 C):=by
 have X:=Z.Y.X;show xIl Yg Z.tkB;have GT:=Yg P w base;have T:=Z.T;show xbH tm hm X.many ta hag X.again;show xhU tl hle X.leastA OF (λ L9 A outer st H vs Q E hr h=>?_) _;obtain⟨r,d,b,L',b',rfl,hR,hI,kQ⟩:=h;show xgM (xca (xaF 1 OF.nd xe8 (xa6 2 OF.nd ad (xve cH xuh xJw (xaF 3 OF.nd (xgS PP T.cl Tk GT hr ad) (xg3 bd TD (xbw 7 hag ta) (aC (xD1 HJ Im d6 No (xwa Ps (xbv (xgS PP T.cl Tk GT hr ad) xGe)))) (xaF 2 OF.nd TD (xLV No Ps))))) No))) dx0 t0 TC hR.ob;obtain⟨_,VR⟩:=hR.ls;have no:∀t,xac xQp:=λ t=>xr9
 show xlx xbT (xju (xdB l nl)) g1;have N9:xex r:=xLq;have PX:xlZ:=xLp;have s0:=xLD;show xnW;show ρ xbT (Ψ (λ m σ H2=>∃ah L v3 b,m=272-L.length/\xmq 400/\xsf L b L' b'/\σ=[xsw,xeu,xvk,v3]/\xh3=xpo/\xDP H2/\xAT H2) ⟨_,0,[],none,b,rfl,Z9,hI,rfl,i',hR.same s0,.of s0⟩)
 rintro m σ H2 ⟨ah,L,v3,b,rfl,hL4,hI,rfl,Ot,Nu,kp⟩;refine⟨_,rfl,l,_,rfl,xK9,_,_,rfl,rfl,_,rfl,xc9 hc hc⟩
 rotate_left
 ·have Np:xmL 272:=by
   show xbx L.length 272 q q
   ·show xjQ (by show xaT (xof (xfN NE 272 NE 272 q))) hc
   ·exact q
  refine xEM;cases hI with
  |done _=>exact kQ l H2 nl Ot Nu kp
  |one|rep=>lia
 clear g1;have Mb:xXh:=by show xgb xK0 EA (xfN NE 272 NE 272 xq1)
 clear hc;refine xuF;show xbd TK t2 N3 Nu.ob xo9
 show xko ⟨_,rfl,r,TK,_,rfl,N3,xkc,r,d,b,3,rfl,Nu,Z9,by cases hI<;>lia,λ H3 Nq ML=>xcX⟩;have TH:=xFH;have ML:=xVQ;refine xdy (xc9 h7 h7)
 ·have h7:xpz=7:=xWF h7;refine xuR xSE (by show xkB) (P3 l4 n4);have s4:=xa1 [xEZ] n4;have Sa:(xsT l4 [xEZ]) l4=XL [xEZ]:=i';have M8:=Nq.same s4;have VV:=xfj TH;show xpd Pm (ML.s s4) (xsT l4 [xEZ]) H4;show xeP dx4 t4 Ru M8.ob n4r (l4≠r) (aH Sa Ru (by show Υ));obtain⟨h6,hI2⟩:6≤b.length-3/\xsf (L++xou (xyO 3 6) 3 ah) (b.drop 9) L' b':=by
   cases hI with
   |rep _ h _ q=>show xaj (by exact(xae [_,_] (xff 9) (xaV xfc) (.n 6) IO h τ)) q
   |done=>lia
   |one _ _ q=>show xaq h7 q
  refine⟨_,rfl,r,dx4,_,rfl,Ru,xkc,r,d,_,6,rfl,M8,Z9,by show LE EN h6,Ε H5 YZ QK⟩;rw [Gg] at YZ;have hb6:xyO 3 6<64:=by
   have:=Nd ((b.drop 3).take 6)
   rwa [ER,EN,FR h6] at this
  show xbU (xyO 3 6) z6 ⟨_,_,rfl,rfl,l4,_,_,rfl,rfl,xl0 Sa n4r,by lia,by lia,aW (by show xiX (1*_);lia),P3 l6 n6⟩;have e1:xhP (XV z6) 3=z6+3:=rfl
  try dsimp only
  rw [e1,K30.C.Vd];have s6:=xa1 (xou z6 3 xEZ) n6;refine⟨l,l6,_,_,rfl,rfl,xcE (xl0 VV N9),i',aW (by rw [EA,Fd];exact xlR [_,_] xb1 (xm4 400 64) (xag (xlN 3)) hL4 hb6),_,?_,ah,_,_,_,rfl,?_,hI2,rfl,by rw [i',EO,List.map_replicate],(YZ.same s6).upd N9 PX,((Pm.tr QK).s s6).up nl⟩
  ·rw [EB,Fd];exact xzE (Ha xrl)
  ·rw [EB,Fd];exact xbl [_,_] xrj (xm4 272 64) (xag (xlN 3)) 400 Mb hb6
 ·have h7:xpz≠7:=On (h7 (xTq z))
  have hI2:P1 (L++[xpz]) xpz (b.drop 3) L' b':=by
   cases hI with
   |one _ _ _ q=>exact q
   |done=>lia
   |rep _ _ q=>show xaq q h7
  show xbU xpz y ⟨_,rfl,_,rfl,xSE,_,rfl,l,_,_,rfl,rfl,TH,bz (by show xaT (xlO 400 2000 hL4)),_,?_,y,_,_,_,rfl,?_,hI2,rfl,by rw [i',EO];rfl,Nq.upd N9 PX,ML.up nl⟩
  ·show xhY (xzE xna)
  ·rw [EB];show _+1≤_;exact(xfN NE 272 NE 400 Mb)
structure Tbs (K:Frag)(mg:Α)(C G:LV):Prop where
 Z:xBn
 Y:xF9
 items:Wp "lengths_in_items" rN xjA
 table:Wp "take_table" gP xjA
 place:xic "place" "BitReader.place" oB
 M:xU9 mg G
 mG:mg "CodeReader"=xap G
 init:∃f fd,xZR K30.sCInit/\xlh xT0/\xJJ G
 thing:∃f fd,xeV G "thing" "CodeReader.thing" fV xUb
 codesin:Wp "codes_in" jM xjA
 thingin:Wp "thing_in" kM xJ7
def qV {A B:Fr}(h:A.map vN=xeC):A=B:=by
 have:=xYi (λ v=>match v with|V.int i=>i.toNat|_=>0) h;simpa [GQ,Function.comp_def] using this
def N2:ST ["reader","begin","lengths"] xjA gP:=Os
inductive W6 (C:LV) (vs:M2) (H:Hp) (Q:VK) (Ml:XK):Prop
 |mk (r d:LV) (b:Θ) (L:Fr) (b':Θ) (h0:vs=[xjO]) (h1:xnR) (h2:xwI b L b') (h3:xiM) (h4:∀l H',Ι->xaz=xpo->xF0 b'->xkj->xat):W6 C vs H Q Ml
def zk (F:Δ "take_table" gP xjA)(D:xL0 C G):xvo xjA (W6 C):=by
 show xbO It D.items Pl D.place;have X:=D.Z.Y.X;have T:=D.Z.T;have GP:=pX (P:=P) (w:=w) (base:=base) Pl.F T;show xhU tm hm X.many N2 (λ L9 A outer st H vs Q E hr h=>?_) _;obtain⟨r,d,b,L,b',rfl,hR,hI,hL,k⟩:=h;show xji Mw xbg (xcl 1 N2.nd (xKw PP Pl GP Mw) (jk (xmd N2.nd (xd2 (vj It D.Z) It PP))) (xjM (xuN cF xJd xJw iT) Ps))
 show xmY R t hRa rfl hR;show xks dx hp hRa.ob no (∀{m:Str} t,¬m="taken"->¬m="held"->xmt xpv m) (λ t h1 h2=>xOB h1 h2)
 show xnm ⟨_,rfl,r,dx,_,rfl,hp,xkc Z8 Z8,r,d,R,_,rfl,hRa,?_⟩ ⟨_,rfl,r,d,_,_,_,rfl,hR,hI,λ l H2 nl Ot Nu kp=>?_⟩ ⟨_,rfl,l,_,rfl,xK9,_,_,rfl,rfl,_,rfl,xEb h (xaJ (xLC nl Ot Nu kp))⟩;show xhS xb5 EA hL;show xaq this (by decide)
inductive Q8 (C G:LV) (vs:M2) (H:Hp) (Q:VK) (Ml:XK):Prop
 |mk (r:LV) (d:LV) (b:Θ) (L:Fr) (b':Θ) (h0:vs=[xjO]) (h1:xnR) (h2:xwI b L b') (h3:xiM) (h4:xye) (h5:∀p dp ep H',xi3->Χ dp->Χ ep->xF0 b'->xH9 H' p dp ep L->xkj->xcP xbV):Q8 C G vs H Q Ml
def o9 (k:xkj)(n:xac xAw)(hr:∃o,H' r=Id):Χ a:=by
 cases e:UF with
 |none=>rfl
 |some o=>
  by_cases z:a=r
  ·obtain⟨o',h⟩:=hr;show xbm h n n
  ·show W1 (xo0 e z) n n
def rD (F:Δ "codes_in" jM xjA)(D:xL0 C G):xam 36 xjA (Q8 C G):=by
 obtain⟨_,_,Ta⟩:=D.table;show xsR D.init;have GT:=zk (P:=P) (w:=w) (base:=base) Ta D;show xau uJ (λ L9 A outer st H vs Q E hr h=>?_);obtain⟨r,d,b,L,b',rfl,hR,hI,hl,hG,k⟩:=h;have T3:xbr 33:=Ty;show xax (ac (jk (xbh (gp MI (K30.C.ok_cinit FI D.M) hr Z7 D.mG bI .nil bf (xcw (xcO GT T3 Ta PP)))))) ⟨_,rfl,r,d,b,L,b',rfl,hR,hI,hl,λ l H1 nl h1l hR1 kp x dx nx ndx _=>?_⟩;have s1:=xkY G nx ndx;show xbd Ou t1 Mw hR1.ob ⟨x,dx,l,L,rfl,i',xcR h1l,hG,λ dp ep H2 Vn YI hC Rm=>xjJ⟩;have kk:xAT H2:=λ c o e' n=>xsM (xcR (xaX e' n)) (ae (xaX e' n) nx)
 have nn:∀{a},xhF a->Χ a:=λ n=>o9 kp n (xbR Mw)
 exact k x dp ep H2 (nn nx) (nn (xjB Vn)) (nn (xjB YI)) ((hR1.same s1).keep λ c o e hc=>xsM e (by
  show xl9;show xfw hc
  ·show xbm Mw nx nx
  ·obtain⟨_,hd1⟩:=hR1.ls;show xbm hd1 nx nx)) hC kk
inductive QV (C G:LV) (vs:M2) (H:Hp) (Q:VK) (Ml:XK):Prop
 |mk (p dp ep r d:LV) (b:Θ) (L:Fr) (q s:Nat) (h0:vs=[xjO,xbV]) (h1:xH9 H p dp ep L) (h2:xye) (h3:xnR) (h4:C10.Due L b (.thing q s)) (h5:xez (xF0 xH8->xkj->xmZ q)):QV C G vs H Q Ml
def q0 (F:Δ "thing_in" kM xJ7)(D:xL0 C G):xvo xJ7 (QV C G):=by
 show xQ1 Th D.thing Z D.Z;have GT:=K30.C.ok_thing (P:=P) (w:=w) (base:=base) Th.F D.M.R ⟨Z.Y.X,Z.Y.whole,Z.size,Z.ones,Z.bits,Z.take,Z.left,D.place,Z.T⟩;show xau vJ (λ L9 A outer st H vs Q E hr h=>?_);obtain⟨p,dp,ep,r,d,b,L,q,s,rfl,hC,hG,⟨R,t,hR,rfl⟩,hD,k⟩:=h;show xck dx hp hC.ob (xca (ac (jk (xbh (xgS No D.M.R.cl Th GT hr PP)))));exact⟨_,rfl,p,dx,_,rfl,hp,K30.C.fC_no _ _ Z8 Z8,_,rfl,p,dp,ep,r,d,L,R,t,_,_,rfl,hC,hG,hR,hD,λ H' RV kp=>k H' ⟨R,t+s,RV,by rw [Gg]⟩ kp⟩
universe K30.Ck
namespace K30.M
open BP C9 C10 W17
inductive V0 (L:Fr) (e:Nat):Fr->Θ->xea Fr Θ
 |done {S:Fr} {b:Θ}:xyL e->xA8 S b S b
 |sg {S T:Fr} {q s:Nat} {b b':Θ}:xki->xkS L b q s->xch q->xA8 (S++[q]) xH8 T b'->xA8 S b T b'
 |cp {S T:Fr} {q s:Nat} {b b':Θ}:xki->xkS L b q s->256≤q->xro 8 xH8->Ν (xyO s 8)->xdO (xyO s 8)->xor (q-256+3)≤e->xA8 (K30.Ck.cpy S (xyO s 8) (q-256+3)) ((xH8).drop 8) T b'->xA8 S b T b'
def V0.le (h:xA8 S b T b'):xIA e:=by
 cases h with
 |done h=>exact EC h
 |sg h=>exact E4 h
 |cp h=>exact E4 h
universe K30.M
namespace K30.Ck
open PySem L2 QQ W17 W16 BP K30.M
seal PE PA PS PSs PT PW PG PI
inductive SF (C:LV) (vs:M2) (H:Hp) (Q:VK) (Ml:XK):Prop
 |mk (o r d x:LV) (W:Fr) (b b':Θ) (n:Nat) (L T:Fr) (b1:Θ) (h0:vs=[xgX,xjO,xcG,xcn]) (h1:xnR) (h2:xgx=xlE) (h3:xfY n) (h4:xo4) (h5:xwI b L b1) (h6:xiM) (h7:xye) (h8:V0 L xrS W b1 T b') (h9:∀l H',Ι->xaz=xah xTx->xF0 b'->xkj->xat):SF C vs H Q Ml
def _root_.K30.C.NM.but2 (h:xH9 H p d e L)(h':RB C H r g b)(s:xkj):xH9 H' p d e L:=by
 obtain⟨R,t,h',_⟩:=h';exact h.but h' s
def vf (F:xSw "ShareWay.read" mh)(D:xL0 C G):xam 37 Jad (SF C):=by
 have Z:=D.Z;have Y:=D.Y;have X:=Z.Y.X;show xIl Yg Z.tkB;have GT:=Yg P w base;show xhe TR Z.T La Y.lay Ao Y.ahead;show xbO Ci D.codesin Ti D.thingin;have GA:=jN (P:=P) (w:=w) (base:=base) Ao X;have GL:=xk (P:=P) (w:=w) (base:=base) La Y;have GC:=rD (P:=P) (w:=w) (base:=base) Ci D;have GI:=q0 (P:=P) (w:=w) (base:=base) Ti D;show xbH tl hle X.least tf hfi X.first;show xao Nf (λ L9 A outer st H vs Q E hr h=>?_);obtain⟨o,r,d,x,W,b,b',n,L,T,b1,rfl,hR,hx,MG,hW,hI,hl,hG,hk,k⟩:=h;have T3:xbr 33:=Ty;have Yr:xbr 32:=Ty;have P2:xbr 31:=Ty;have Mw:xbg:=Ty;show xgM (xca (xdD 4 Nf.nd (xl5 GA Ao TD) 5 Nf.nd xDq (xaF 6 Nf.nd (xbv xa9 Ps) (xa6 7 Nf.nd (xd2 GC Ci No) (xve cH xDq xco (xaF 8 Nf.nd (xcQ GI T3 Ti No xgi) (xg3 cH xjN (xbw 256 hfi tf) (aC (xw2 χ xjN)) (xaF 9 Nf.nd (xvR No Tk GT P2 ad) (xqP (ay GL Yr La (xvN χ (pv 9) (xbv (xdz xjN (xbw 256 hfi tf)) xGe) xco))))))) (xzO a6 χ xa9 bM))))) dx0 t0 TC hR.ob;obtain⟨_,VR⟩:=hR.ls;have no:∀t,xac xQp:=λ t=>xr9
 show xlx xbT (xoF _ x W rfl hx (xdB l nl)) g1;have N9:xex r:=xLq;have PX:xlZ:=xLp;have s0:=xa1 xti nl;have h0l:(xQO) l=xlE:=i';have hR0:=hR.same s0;have kp0:xAT xQO:=.of s0;show xbU xQO H0 xbT
 show xcC (xrQ l h0l xaa)
 try dsimp only
 show xhO EA xbT ⟨_,rfl,_,rfl,_,_,rfl,rfl,xaa⟩;clear g1;have e0:xVh+xay=LT (W.length+n):=rfl
 try dsimp only
 rw [e0];generalize he:xrS=e at*;show xlx xbT ⟨_,rfl,r,d,b,L,b1,rfl,hR0,hI,hl,hG,λ p dp ep H1 np Vn YI hR1 Yc Oo=>xaa⟩ g1;have h1l:=xwQ h0l N9;have Oa:xsC:=ae h0l np;have nldp:xex dp:=ae h0l Vn;have nlep:xex ep:=ae h0l YI;have Oo:=kp0.tr Oo;clear kp0 hR0 h0l s0 hI;show ρ xbT (Ψ (λ m σ H2=>∃v8 v9 S b,m=e-S.length/\xA8 S b T b'/\σ=[xAB,xsw,xhk,xap x,xeu,UV W.length,UV e,xfX,v8,v9]/\xh3=xgl/\xDP H2/\xH9 H2 p dp ep L/\xAT H2) ⟨_,none,none,W,b1,rfl,hk,rfl,h1l,hR1,Yc,Oo⟩)
 rintro m σ H2 ⟨v8,v9,S,b,rfl,hk,rfl,Ot,Nu,Up,kp⟩;have hle2:=hk.le;refine⟨_,rfl,l,_,rfl,xK9,_,rfl,_,_,rfl,rfl,_,rfl,xc9 h h⟩
 ·clear g1;show xaK h' xb5 EA h';have Mb:xki:=xxf h';clear h h';show xax xCo xo9
  cases hk with
  |done h=>show xaq Mb (xBK xUF)
  | @sg _ _ q s _ _ _ hD hq hk=>
   show xko ⟨_,rfl,_,rfl,p,dp,ep,r,d,b,L,q,s,rfl,Up,hG,Nu,hD,λ H3 Nq ML=>xcX⟩;show xmc TH xFH ⟨_,rfl,_,_,rfl,rfl,_,rfl,xzh (EJ (by exact(xof (xfN NE 256 NE 256 hq)))) h⟩ ⟨_,rfl,xSE,_,rfl,l,_,_,rfl,rfl,TH,bz (by show xaT (xqf [_,_,_,_] xJi (xo7 (xaZ 192 (xrq xcc))) IO MG (xnb hW he.symm hle2))),_,?_,_,_,_,_,rfl,hk,rfl,by rw [i',EO];rfl,Nq.upd N9 PX,?_,(xVQ).up nl⟩
   ·show xhY (xzE xna)
   ·refine(Up.but2 Nu ML).keep λ c o' e' hc=>?_
    show υ (by show xsX hc;exact Oa.symm;exact nldp.symm;exact nlep.symm) e'
  | @cp _ _ q s _ _ _ hD hq h8 MR Pn hb3 hk=>
   show xko ⟨_,rfl,_,rfl,p,dp,ep,r,d,b,L,q,s,rfl,Up,hG,Nu,hD,λ H3 Nq ML=>xcX⟩;show xjP O5 t3 NO Nq.ob TH xFH;show ρ ⟨_,rfl,_,_,rfl,rfl,_,rfl,xE4 xb5 (by lia) xfA⟩ xo9
   show xko ⟨_,rfl,r,O5,_,rfl,NO,xkc,r,d,_,8,rfl,Nq,Z9,h8,λ H4 M8 Pm=>xcX⟩;have e1:XV q-256+3=LT (q-256+3):=by omega
   have VV:=xkl TH N9;refine⟨_,rfl,_,rfl,_,rfl,_,_,rfl,rfl,_,_,rfl,rfl,_,rfl,?_⟩
   try dsimp only
   show xs5 ⟨l,S,_,_,e,rfl,VV,by exact(xgQ [_,_,_] xdQ (xo7 (xaZ 192 xcc)) IO 1000 MG (xgV hW he.symm)),MR,Pn,hb3,_,?_,_,_,_,_,rfl,hk,rfl,i',M8.upd N9 PX,?_,((xVQ).tr Pm).up nl⟩
   ·show LE bV (xzE (Ha xrl))
   ·refine((Up.but2 Nu ML).but2 Nq Pm).keep λ c o' e' hc=>?_
    show υ (by show xsX hc;exact Oa.symm;exact nldp.symm;exact nlep.symm) e'
 ·cases hk with
  |sg q1=>show xjQ (by show xaT (xKa q1)) h
  |cp q1=>show xjQ (by show xaT (xKa q1)) h
  |done Wf=>
   show xcC xaa;have ec:xmN xkJ W.length none=Ρ xTx:=by rw [eu,<-G9]
   refine⟨_,rfl,_,rfl,_,rfl,l,_,rfl,Mm.of Ot,P3 l9 n9⟩
   try dsimp only
   rw [ec];have s9:=xbe xTx n9;show xbp dx9 t9 ZE Nu.ob (k l9 _ (o9 kp n9 (xbR ZE)) i' (Nu.same s9) (kp.s s9))
universe K30.Ck
namespace L2
open PySem
def ul (hK:X.K=K)(he:xar e ta)(hb:xTR f X.env xEP=xEP):xar (xH0 e pos) (CZ K ta f):=by show xcL hK (aA he hb)
def Bu (hK:X.K=K)(ha:xlW)(hb:xwK)(hs:tR b):xar (xxH a b) (V4 (rIxL K) ta tb):=by show xcL hK (aJ aI ha hb hs)
universe L2
namespace K30.Ck
open PySem L2 QQ W17 W16 BP K30.M
seal PE PA PS PSs PT PW PG PI
abbrev mP:L7:=top 106
abbrev gM:L7:=top 107
inductive Yf (R W:Fr):xmK (Fr->xdq Nat)
 |raw:xBi 0 R.length R Ο
 |run {v t:Nat} {T:Fr}:xwt v 0 [] t T->xBi 1 v T t
 |cpy {v t:Nat} {S:Fr}:xnD (xBU v) 0 W t S->xBi 2 v xMT t
 |shr {v t:Nat} {L S:Fr} {b1:Θ}:xwI xil L b1->xiM->xye->V0 L (xBU v) W b1 S xGh->t≤Ο->xBi 3 v xMT t
inductive Zi (C:LV) (u:Nat) (vs:M2) (H:Hp) (Q:VK) (Ml:XK):Prop
 |mk (o r d x:LV) (R W T:Fr) (n t:Nat) (h0:vs=[xgX,xjO,xcG,xcn]) (h1:xkv H 0) (h2:xgx=xlE) (h5:xfY n) (h6:xo4) (h7:xBi u n T t) (h8:∀l H',Ι->xaz=xcf->xkv H' t->xkj->xat):Zi C u vs H Q Ml
structure RdG (P:LY)(w:LZ)(K:Frag)(mg:Α)(base:L4)(C Cu:LV)(u:Nat):Prop where
 cl:xxF Cu
 read:∃f fd,Meth K Cu "read" f/\xlh Jad/\xam 37 Jad (Zi C u)
structure VG (K:Frag)(mg:Α)(C G C0 C1 C2 C3:LV):Prop where
 D:xL0 C G
 r0:∃f fd,xeV C0 "read" "RawWay.read" jG Jad
 r1:∃f fd,xeV C1 "read" "RunWay.read" kC Jad
 r2:∃f fd,xeV C2 "read" "CopyWay.read" iz Jad
 r3:∃f fd,xeV C3 "read" "ShareWay.read" mh Jad
def VG.ok (Z:VG K mg C G C0 C1 C2 C3)(c0:xxF C0)(c1:xxF C1)(c2:xxF C2)(c3:xxF C3)(hu:u<4):RdG P w K mg base C (xL4 u) u:=by
 have D:=Z.D;show xH3 u
 ·show xHP M Z.r0 ⟨c0,_,_,M.m,M.b,xWX (rZ M.F D.Z) Z9 (λ vs H Q E h=>?_)⟩;obtain⟨o,r,d,x,R,W,T,n,t,rfl,hR,hx,MG,hW,hk,k⟩:=h;cases hk;exact⟨o,r,d,_,R,_,rfl,hR,MG,Tl,λ l H' nl hl RV kp=>xfp H' nl (by show π Fs hl hl) RV kp⟩
 ·show xHP M Z.r1 ⟨c1,_,_,M.m,M.b,xWX (rE M.F D.Y D.Z) Z9 (λ vs H Q E h=>?_)⟩;obtain⟨o,r,d,x,R,W,T,n,t,rfl,hR,hx,MG,hW,hk,k⟩:=h;cases hk with
  |run q=>exact⟨o,r,d,_,R,T,n,t,rfl,hR,q,MG,k⟩
 ·show xHP M Z.r2 ⟨c2,_,_,M.m,M.b,xWX (pI M.F D.Y D.Z) Z9 (λ vs H Q E h=>?_)⟩;obtain⟨o,r,d,x,R,W,T,n,t,rfl,hR,hx,MG,hW,hk,k⟩:=h;cases hk with
  |cpy q=>exact⟨o,r,d,x,R,W,_,n,_,rfl,hR,hx,q,MG,hW,k⟩
 ·show xHP M Z.r3 ⟨c3,_,_,M.m,M.b,(vf M.F D).imp λ vs H Q E h=>?_⟩;obtain⟨o,r,d,x,R,W,T,n,t,rfl,hR,hx,MG,hW,hk,k⟩:=h;cases hk with
  | @shr _ _ L S b1 q1 q2 q3 q4 q5=>
   refine⟨o,r,d,x,W,_,_,n,L,S,b1,rfl,⟨R,0,hR,rfl⟩,hx,MG,hW,q1,q2,q3,q4,λ l H' nl hl RV kp=>xfp H' nl hl ?_ kp⟩;obtain⟨R',t',RV,e⟩:=RV;show xks dx hp hR.ob nrd (d≠r) (xsm hR.ls (by show Υ));have eR:R'=R:=qV (HO.lst.inj (Fx (RV.ls.symm.trans (xaX hR.ls nrd))));subst eR;have e':=xkK e;rw [EN,EN,K30.C.Mu] at e';have ht:=RV.le;obtain rfl:t=t':=by exact xfU (xcI [_,_,_,_,_] (xdh (xgm xtS)) (xbi (.a (xdh Sc) xbK)) (EC e'.symm) (xFv (xdE IO xaA IO xaA q5))) [_,_,_,_,_] (xbi (xgm (xdh Sc))) (xdh (.a xtS xbK)) Sc (EC e') (xFv (xdE IO xaA IO xaA ht))
   exact RV
 ·exact xdX Τ (xaG (xaG (xaG xeH))) (.n 4) hu
inductive SA (Mz:LV) (vs:M2) (H:Hp) (Q:VK) (Ml:XK):Prop
 |mk (a h x dx:LV) (R W T:Fr) (u v y t:Nat) (h0:vs=[Γ,xKi,xcn]) (h1:UF=xlD) (h2:xi4) (h3:H h=xfC Mz (fH u v y)) (h4:xgx=xlE) (h5:xo4) (h6:xfY v) (h7:u<4) (h8:xBi u v T t) (h9:Ο-t<8) (Ye:xzB%2^(Ο-t)=0) (PZ:∀l H',Ι->Κ->xaz=xcf->xat):SA Mz vs H Q Ml
def Qf:ST ["body","head","window","reader","text"] xRQ mP:=Os
def uS (F:Δ "text_in" mP xRQ)(Z:VG K mg C G C0 C1 C2 C3)(W:xBp G')(T:CH K mg Mz):
  xam 38 xRQ (SA Mz):=by
 have D:=Z.D.Z;have Y:=Z.D.Y;show xsR D.init;show xbO N D.need Wy W.ways;show xbO Ae D.atend L D.left;show xbO O D.ones Ba D.bits;show xau Qf (λ L9 A outer st H vs Q E hr h=>?_);obtain⟨a,h,x,dx,R,Wn,T',u,v,y,t,rfl,ha,hb,hh,hx,hW,hv,hu,hk,h1,h2,k⟩:=h;have X1:xbr 6:=Ty;have NO:xnI:=Ty;have Mw:xbg:=Ty;have GI:=wp (P:=P) (w:=w) (base:=base) FI N D.Y D.T;have GW:=tD (P:=P) (w:=w) (base:=base) Wy.F W;have GA:=wB (P:=P) (w:=w) (base:=base) Ae.F Ba O L D.T D.Y.X;obtain⟨cl,_,_,mR,bR,GR⟩:=Z.ok (P:=P) (w:=w) (base:=base) W.raw.W.cl W.run.W.cl W.cpy.W.cl W.shr.W.cl hu;show xax (xcl 3 Qf.nd (gp MI GI X1 Z7 D.m bI .nil bf xoQ) (jk (xhx 4 Qf.nd (mJ (Bu (K:=K) rfl (oF GW Mw Z7 Wy.m Wy.F.kp Wy.b .nil bf) (ul (K:=K) rfl No rfl) xkF) cl mR GR hr bR .nil bf (xin TD (ul (K:=K) rfl No rfl) Ps)))) (xjM (xCP (bG TD D.T.cl Ae GA NO)) χ)) (ao λ R1 g1=>xaJ (λ p dp np Vn YI=>?_))
 have s0:=xkY C np Vn;show xcC ⟨p,dp,a,R,rfl,i',xSC,hb,λ d H2 nd hR kp=>xLc⟩;have s2:xjZ:=λ c o e=>xaX xrK xul
 refine ao λ R2 g2=>xgB (λ l os ds H3 nl no hl ho s3=>?_)
 have hh3:=xyR hh;have Nq:xn3 H3 0:=hR.keep λ c o e _=>xbZ e
 show xlx ⟨_,rfl,h,Mz,dx,_,_,rfl,hh3,T.cl,T.nW,Dz _ _ _,l,_,_,_,rfl,rfl,xIF,xGI u (gx4 hu),?_⟩ ⟨os u,ds u,[],rfl,ho u hu,rfl,_,rfl,_,rfl,h,Mz,dx,_,_,rfl,hh3,T.cl,T.nC,DU _ _ _,_,rfl,os u,p,d,x,R,Wn,T',v,t,rfl,Nq,xyR hx,hv,hW,hk,λ l' H4 nl' h4 M8 Pm=>xcX⟩ g2;have s4:xLb:=λ c o e=>xkl (xyR e) xul
 show xck dp4 Um M8.ob (ao λ R1 g1=>⟨_,rfl,p,dp4,_,rfl,Um,xr9,p,d,R,t,rfl,M8,h1,h2,P3 H5 s5⟩)
 refine xxJ;exact aS (xEn (k l' H5 (none_of xUo nl') xNw (xbb h4)))
def qh (g:xQv)(h:xL1 R):∃e,e<8/\Ο=xdb+e/\xil=xt0++xpj e/\xzB%2^e=0:=by
 have hl:=h.len;have hle:xdb≤Ο:=by exact(xae [_,_,_] (xgm (xaG (xcT 7))) (xlF xPU) IO xaA (xpY xmp) xsp)
 refine⟨Ο-xdb,by exact xbl [_,_,_,_] (xlF (xgm xfH)) (xgm (.a (xeW 3 7) xaA)) NE 8 (xk2 8 hl) (Ez xiF (xdE Sc xem Sc xem hle)),by exact xcY (xaf [_,_,_] xem xcc xem Φ τ) [_,_,_] xcc xem Φ xem (xdE Sc xem Sc xem hle),?_,?_⟩
 ·have hn:xzB=num (xt0++xpj (Ο-xdb)):=by
   rw [cR,Mp,dg,vC g,h.num,Nat.zero_mod,Ig]
  have hlen:xcm xt0 (xpj (Ο-xdb))=Ο:=by
   rw [EB,cI,Mp];exact xcY (xaf [_,_,_] xaR xbK Pi xbK (xdE IO xaA IO xaA hle)) [_,_,_] xbK xaR xbK Pi τ
  refine C10.PV (by rw [K30.C.Mu,hlen]) ?_;unfold K30.C.bt;show xaK Mb (Nd (xt0++xpj (Ο-xdb))) hlen Mb;rw [dg,hn];exact Gx Mb
 ·rw [h.num,Nat.mul_mod_left]
def eJ (hb:xi4)(hn:n<2^s)(e:xGh=xvt s++r)(ht:t≤Ο):t+s≤Ο/\xEC s=n/\xHd (t+s)=r:=by
 have hl:=xkK e;rw [EN,K30.C.Mu,EB,Mp] at hl;have h1:t+s≤Ο:=by exact(xae [_,_,_,_,_] (.a (xaV xdL) xtS) (xbi xbK) Pi xbK xmp (xdE IO xaA IO xaA ht))
 refine Ψ h1 ?_
 ·rw [xrX h1,e,iB hn]
 ·rw [<-Gg,e,dZ]
theorem oS (hb:xi4):∀{rs} {t} {S},(∀q∈rs,xFF/\xfY xb7/\xch xbt)->t≤Ο->xGh=xsj (pR rs) z->xwt (xor (xQh).length) t S (t+xmH rs) (S++xQh)
 | [],t,S,_,_,_=>by
  rw [xce (exp []) [],Fv];exact xWn
 |q::rs,t,S,hq,ht,e=>by
  obtain⟨h1,h2,h3⟩:=hq q E7;rw [jm,bQ,bQ,EE,EE] at e;obtain⟨a1,a2,a3⟩:=xzF (show xb7-1<2^6 by show _<64;exact(xgQ [_,_] NE (xff 64) NE 64 h2 (xl6 xaH xaH h1))) e ht;show xeP b1 b2 b3 (xzF (show xbt<2^8 from h3) a3 a1) ee (exp (q::rs)=xMV xbt++xQh) rfl;have e6:xE9+1=xb7:=by show LE a2 (xif (xEj (xl6 xaH xaH h1)) [_,_] NE NE τ)
  have ih:=oS hb (S:=S++xMV xbt) (λ x hx=>hq x xJl) b1 b3;rw [EB,Fd,EE] at ih;rw [ee,jm,cg,cg,EB,Fd];refine .run (by exact xbn [_,_,_] xaH Sc NE xfJ h1) b1 (by show LE e6 (xfx [_,_,_] Pi xfJ)) ?_;rw [e6,b2,show t+(6+(8+xmH rs))=t+14+xmH rs by exact xcK [_,_] (xag (xaZ 6 (xff 8))) (xdf xPG) [_,_] (xdf xPG) (xag (xaZ 6 (xff 8))),<-FK];exact ih
theorem rh (B)(b):∀n,K30.Ck.cpy B b n=K30.cpy B b n
 |0=>rfl
 |n+1=>by rw [K30.Ck.cpy,K30.cpy,rh B b n]
theorem iQ (hb:xi4):∀{Pp} {t} {S},GR S Pp->t≤Ο->xGh=xsj (pP Pp) z->xnD (xy2 S).length t S (t+xzP) (xy2 S)
 | [],t,S,_,_,_=>xWn
 |x::Pp,t,S,g,ht,e=>by
  obtain⟨gx,gr⟩:=g;show xaK hl gr.len gK hl;have er:runP S (x::Pp)=xy2 (app S x):=rfl;cases x with
  |sg s=>
   rw [eO,xce (pcP xq4) [(0,1),(s,8)],Ir,Ir,F6,bQ,bQ,EE,EE] at e;obtain⟨a1,a2,a3⟩:=xzF (show 0<2^1 by decide) e ht;show xjP b1 b2 b3 (xzF (show s<2^8 from gx) a3 a1) ih (iQ hb gr b1 b3);rw [er,eO,aV];refine .sg (by show xBH _;have:(Pc.sg s).size=1:=rfl;exact(xhq [_,_,_,_] (xaG xJn) Φ hl xgE)) b1 a2 ?_;rw [b2,show t+(xSB+xzP)=t+1+8+xzP by show LE (xce xSB 9) (xcK [_,_] (xR2 9) (xdf xmR) [_,_] (xdf xmR) (xR2 9))];exact ih
  |cp b y=>
   obtain⟨g1,g2,g3,g4,g5⟩:=gx;rw [eO,xce (pcP (xzA y)) [(1,1),(b,8),(y-3,4)],Ir,Ir,Ir,F6,bQ,bQ,bQ,EE,EE,EE] at e;obtain⟨a1,a2,a3⟩:=xzF (show 1<2^1 by decide) e ht;obtain⟨b1,b2,b3⟩:=xzF (show b<2^8 by show xch _;exact(xfN IO 255 NE 256 g2)) a3 a1;show xjP c1 c2 c3 (xzF (show y-3<2^4 by show _<16;exact(xgQ [_,_] xfc (xff 18) NE 16 g5 (xl6 xdU xdU g4))) b3 b1) ih (iQ hb gr c1 c3);have ey:y-3+3=y:=by exact xif (xfk xfc xfc (xl6 xdU xdU g4)) [_,_] xfc xfc τ
   have e9:xmb 9 4=y-3:=c2;have hsz:xVM b y=y:=rfl;rw [er,eO,aV];refine .cp (by exact(xhq [_,_,_,_,_] (.a xJn (xaZ 3 xdL)) (xaV (xdh WF)) hl (xgV g4 hsz.symm))) (by show t+1+8+4≤_;exact c1) a2 (by rw [e9,ey];exact(xdF [_,_,_,_,_] (xdf (xnh xfH)) xc7 Pi hl xUd)) (by show LE b2 g1) (by show LE b2 g3) ?_;rw [b2,e9,ey,rh,show t+(xxz (xzA y)+xzP)=t+1+8+4+xzP by show LE (xce (xxz (xzA y)) 13) (xcK [_,_] (xR2 13) (xdf (xa4 xmR 4)) [_,_] (xdf (xa4 xmR 4)) (xR2 13))];exact ih
theorem gR:∀{It:xtF} {L:Fr} {a:Nat},(xOV It x)->L.length+xHR a≤272->P1 (L++xtD a) (W13.nxtS a It) r L' b'->P1 L a (xsj xkL r) L' b'
 | [],L,a,_,_,h=>by rwa [xce (xPn []) [],Fv] at h
 |x::It,L,a,hk,hl,h=>by
  have hx:=hk x E7;have ep:W13.puts (x::It)=x.puts++xkL:=by simp [W13.puts]
  rw [ep,eG,EE];cases x with
  |one l=>
   have h6:l≤6:=hx;have h8:l<2^3:=by show _<8;exact(xfN IO 6 NE 8 h6)
   rw [xce (xPn (.one l::It)) (l::xtD l)] at h hl;rw [EV] at hl;show Uf (Ω (xZw (.one l)) (dig l 3) (by simp [W13.Itm.puts,bitsP])) (.one (by exact(xim [_,_] xb1 272 NE (.n 272) hl)) (by rw [EB,Mp];exact(xmv xdU (xdP 3))) (by show xcj (iB h8)) ?_);rw [iB h8,dZ];show xgk (gR (λ y hy=>hk y xyF) (by rw [EB];show _+1+_≤_;exact(xim [_,_] xb1 272 xmQ (.n 272) hl)) ?_) EE h
  |rep n=>
   obtain⟨h3,h66⟩:xc1 3/\n≤66:=hx;rw [xce (xPn (.rep n::It)) (xBy a++xtD a)] at h hl;rw [EB,Fd] at hl;rw [Ω (xZw (.rep n)) (dig 7 3++dig (n-3) 6) (by simp [W13.Itm.puts,bitsP]),EE];have e1:num ((dig 7 3++(dig (n-3) 6++(xsj xkL r))).take 3)=7:=iB (by decide) _;have e2:num (xBw (dig 7 3++(dig (n-3) 6++(xsj xkL r))) 3 6)=n-3:=by rw [dZ,iB (show n-3<2^6 by show _<64;exact(xgQ [_,_] xfc (xff 66) NE 64 h66 (xl6 xdU xdU h3)))]
   refine .rep (by exact xbl [_,_,_] (xa4 xfJ 3) (xff 272) NE 272 hl h3) (by rw [EB,EB,Mp,Mp];exact(xmv (.n 9) (xaZ 3 (xdP 6)))) e1 ?_;rw [e2,xce (xgw 9) (3+6),<-Gg,dZ,dZ,show n-3+3=n by exact xif (xfk xfc xfc (xl6 xdU xdU h3)) [_,_] xfc xfc τ];show xgk (gR (λ y hy=>hk y xyF) (by rw [EB,Fd];exact(xim [_,_,_] xfJ 272 xx5 (.n 272) hl)) ?_) EE h
def xO (g:xye)(hq:xnQ)(hs:xpW)(c):C10.Due L (xDU q s s++c) (.thing q s):=by
 have hl:xaI (xDU q s s) s:=Mp _ _;have hn:num (xDU q s s)=xtu q s:=C10.WX g hq hs;refine xsZ (by rw [EB,hl];exact(xfx [_,_] IO Pi)) xvZ
 ·show LE (List.take_left' hl) ⟨by show LE hl hq,by show LE hl hs,by rw [hl,hn]⟩
 ·rw [Gf (by show LE hl (E4 hj))];have elj:xaI (xqU (xtu q s) s j) j:=by rw [ER,hl];lia
  refine⟨q,s,hq,by show LE elj hj,?_⟩;rw [elj,C10.Tp _ (by show LE hl (E4 hj)),hl,hn]
theorem jX:∀{Pp} {S},xF8->GR S Pp->V0 L (xy2 S).length S (xsj xuH z) (xy2 S) z
 | [],S,_,_=>xWn
 |x::Pp,S,k,g=>by
  obtain⟨gx,gr⟩:=g;show xaK hl gr.len gK hl;have er:runP S (x::Pp)=xy2 (app S x):=rfl;obtain⟨k1,k2,_⟩:=k.at E7 gx;have ih:=jX (z:=z) (⟨k.good,k.len,k.six,λ y hy=>k.has y xyF⟩:xF8) gr;rw [er,sU,eG,EE];cases x with
  |sg s=>
   show Uf (Ω (bitsP (cP L xq4)) (xDU s xzj xzj) (by simp [cP,bitsP])) (.sg (by have:(Pc.sg s).size=1:=rfl;exact(xhq [_,_,_,_] (xaG xJn) Φ hl xgE)) (xO k.good k1 k2 _) gx ?_);rw [xce (th xq4) s,dZ];exact ih
  |cp b y=>
   obtain⟨g1,g2,g3,g4,g5⟩:=gx;rw [Ω (bitsP (cP L (xzA y))) (xDU (253+y) xGf xGf++dig b 8) (by simp [cP,bitsP]),EE];have hsz:xVM b y=y:=rfl;have e1:num (xBw (xDU (253+y) xGf xGf++(dig b 8++(xsj xuH z))) xGf 8)=b:=by rw [dZ,iB (show b<2^8 by show xch _;exact(xfN IO 255 NE 256 g2))]
   have e2:253+y-256+3=y:=by exact xcY (xaf [_,_] (xcT 256) (xff 253) xfc Sc (xeX Τ xdU IO xIE (xdP 253) g4)) [_,_] (xff 253) (xcT 256) Sc xfc τ
   refine .cp (q:=253+y) (s:=xGf) (by exact(xhq [_,_,_,_,_] (.a xJn (xaZ 3 xdL)) (xaV (xdh WF)) hl (xgV g4 hsz.symm))) (xO k.good k1 k2 _) (by exact xbn Τ xdU IO xIE (xdP 253) g4) (by rw [dZ,EB,Mp];exact(xmv xiG (xdP 8))) (by show LE e1 g1) (by show LE e1 g3) (by show LE e2 (xdF [_,_,_,_,_] (xdf (xnh xfH)) xc7 Pi hl xUd)) ?_;rw [e1,e2,rh,dZ,dZ];exact ih
theorem kA:∀T N,cL (xQg s (s,8)) N=N*256^T.length+val T
 | [],N=>by show N=_;rw [tU,J6,LM];exact xcK Τ IO (xqj (.w IO 1)) Τ (xqj (.w IO 1)) IO
 |s::T,N=>by
  show cL (xQg s (s,8)) (N*2^8+s)=_;rw [kA T,fX,EV];show(N*256+s)*256^T.length+val T=_;rw [Io,FV,F2 256,FK,<-Gj]
def tZ (h:xnT)(t:xi9)(r:xL1 R):xBi u T.length T xdb/\Ο-xdb<8/\xzB%2^(Ο-xdb)=0:=by
 obtain⟨gd,_⟩:=h.good t;obtain⟨e,he,hl,hbt,hv⟩:=qh gd r;have ee:Ο-xdb=e:=by exact xfU (xcI [_,_,_,_] (xln xcB) (.a xcc xrA) xJp (xeX [_,_,_] xaR xbK Sc xbK xmp)) [_,_,_,_] (.a xcc xrA) (xln xcB) Sc xmp τ
 refine⟨?_,by show LE ee he,by show LE ee hv⟩;have h0:0≤Ο:=xan;show xH3 u
 ·obtain rfl:ps=xnA:=h;have ht:=cy T;have hlen:xEY T.length:=by show xaE r.len (ED (xdv 8 [_,_,_,_] (xgg (xjR xaS)) (xAQ (.a xoE xaA)) IO Sc (xnb he hl (EC ht))) (xdv 8 [_,_,_,_] (.a xoE xaA) (xjR xaS) Sc IO (xgV xmp ht.symm)))
  have hv':xzB=val T:=by
   rw [r.num,show Ο-tots xnA=0 by exact(xnY (xmg [_,_,_,_,_] (.a xDr (xag (xFw xbK))) (xgm (xaV (xbi (xlM xdL)))) IO 0 xmp (xnb (EC ee) ht.symm xJ0))),LM,Nat.mul_one];show cL (xQg s (s,8)) 0=_;rw [kA,Ju,Ge]
  obtain rfl:R=T:=sC r.byt t.tb hlen hv';show LE ht .raw
 ·obtain rfl:ps=pf true T:=h;have q:=oS r.byt (S:=[]) (wR t.le t.tb) h0 hbt;rw [my,F6,Ge,J6,Ge] at q;exact .run q
 ·show xeB Pp w h;obtain⟨g,er,_⟩:=xQQ w;have q:=iQ r.byt g h0 hbt;rw [er,Ge,EB] at q;have:=Yf.cpy q
  rwa [Iy] at this
 ·obtain⟨Pp,L,It,b,w,sl,wi,rfl⟩:=h;obtain⟨g,er,_⟩:=xQQ w;have h1:xNG:=by
   cases Pp with
   |nil=>
    show xg7 (xkK (Ω W (W++T) er)) EB;have:=t.one;lia
   |cons=>exact HS xan
  have k:=sl.tok g h1;have hd:=W13.Qb wi;rw [Hx,F6,<-k.len,Fs] at hd;have q:=jX (z:=xpj e) k g;rw [er,EB] at q;have hI:xwI xil L (xsj xuH (xpj e)):=by
   rw [hbt,eG,EE];refine gR (W13.PF k.six wi) (by rw [<-hd,k.len];exact EC rfl) ?_;rw [F6,<-hd];exact .done (EC k.len.symm)
  have ez:xHd (tots (xkL++xuH))=xpj e:=by rw [hbt,<-cI,Iy]
  have:=Yf.shr (W:=W) (v:=T.length) hI k.len k.good (by show LE ez q) (by exact xbn [_,_,_] xcB xaA IO xaA xmp)
  rwa [Iy] at this
 ·exact h.elim
def PQ (W T R:Fr):Prop:=∃i ps Rb,i<4/\NK i W T ps/\xL1 Rb/\R=sld (xkM (xob-1)++Rb)/\Ν Rb.length/\xt3 Rb.length
inductive O9 (vs:M2) (H:Hp) (Q:VK) (Ml:XK):Prop
 |mk (x z:LV) (W T R:Fr) (h0:vs=[xcn,.ref z]) (h1:xgx=xlD) (h2:H z=xlE) (h3:PQ W T R) (h4:xi9) (h5:∀l H',Ι->Κ->xaz=xcf->xat):O9 vs H Q Ml
def Nk:ST ["row","before","block","window","head"] xWW gM:=Os
structure Tbk (K:Frag)(mg:Α)(CK Mz C G C0 C1 C2 C3:LV):Prop where
 H:Zd K mg CK Mz
 Z:VG K mg C G C0 C1 C2 C3
 ahead:Wp "need_ahead" dF xkT
 win:Wp "need_window" d7 xxB
 nhead:Wp "need_head" iY xOG
 headof:Wp "head_of" iq xdS
 bsize:Wp "block_size" dI xyr
 ends:Wp "ends_in_check" me xdS
 wcheck:Wp "with_check" dN xdS
 textin:Wp "text_in" mP xRQ
theorem rS:∀(It:xtF) (a:Nat),(xOV It x)->9*xHR a≤66*xrn
 | [],_,_=>xan
 |x::It,a,hk=>by
  have hx:=hk x E7;have ep:W13.puts (x::It)=x.puts++xkL:=by simp [W13.puts]
  rw [ep,aV];cases x with
  |one l=>
   have ih:=rS It l λ y hy=>hk y xyF
   show 9*(xHR l+1)≤66*(3+_);lia
  |rep n=>
   obtain⟨_,h66⟩:xc1 3/\n≤66:=hx;have ih:=rS It a λ y hy=>hk y xyF
   rw [xce (xPn (.rep n::It)) (xBy a++xtD a),EB,Fd];show _≤66*(9+_);lia
def NK.low (h:xnT)(t:xi9):8≤xdb/\(xt3 2->9≤xdb):=by
 have h1:=t.one;show xH3 u
 ·obtain rfl:ps=xnA:=h;show LE cy ⟨by lia,λ _=>by lia⟩
 ·obtain rfl:ps=pR xlc:=h
  suffices 14≤xmH xlc from⟨by lia,λ _=>by lia⟩
  have e:=my T;cases z:xlc with
  |nil=>rw [z] at e;rw [<-Ω [] T e] at h1;cases h1
  |cons q rs=>rw [jm,cg,cg];lia
 ·show xeB Pp w h;have Y0:=m5 w (by show xhY (Ha h1))
  suffices 9≤xzP from⟨by lia,λ _=>this⟩
  cases Pp with
  |nil=>cases Y0
  |cons x Pp=>
   rw [eO,aV];cases x with
   |sg s=>exact Fg 9 _
   |cp b y=>show 9≤13+_;lia
 ·obtain⟨Pp,L,It,b,w,sl,wi,rfl⟩:=h;obtain⟨_,_,_,_,tok,hk,hd⟩:=pC t w sl wi;have hl:=rS It 0 hk;rw [hd,tok.len] at hl;show LE aV ⟨by lia,λ _=>by lia⟩
 ·exact h.elim
def PB.pq (h:PB W T R)(t:xi9):PQ W T R:=by
 obtain⟨i,ps,Rb,hi,hm,hp,hr,rfl⟩:=h;have h1:=hr.len;have h2:=(NK.low hp t).1;have h3:=(hm 0 Z9).1;rw [gH hp,gH (u:=0) (ps:=xnA) rfl,cy] at h3;exact⟨i,ps,Rb,hi,hp,hr,rfl,by lia,by lia⟩
def PQ.facts (h:PQ W T R)(t:xi9):xAM/\xyi (xRm 5):=by
 obtain⟨i,ps,Rb,hi,hp,hr,rfl,h1,h2⟩:=h;have hl:=t.le;have NU:=t.one;refine xde (oA (xbo (xmk hb (cX (by lia) (by lia) b) (hr.byt b))));rw [eE,EB];show xQl 3+2≤_;lia
def nz (F:NB K "take_block" "take_block" gM dV f fd)(Z:Tbk K mg CK Mz C G C0 C1 C2 C3)(Wa:xBp G'):
  xam 39 xWW O9:=by
 obtain⟨_,_,N⟩:=Z.H.need;show xhe GN (bU (P:=P) (w:=w) (base:=base) N Z.H.N) Ah Z.ahead Wn Z.win;show xbO Nh Z.nhead Ho Z.headof;show xbO Bs Z.bsize En Z.ends;show xbO Wc Z.wcheck Ti Z.textin;show xbH t3 h3 Z.H.three t2 h2 Z.H.twoB;show xao Nk (λ L9 A outer st H vs Q E hr h=>?_);obtain⟨x,z,W,T,R,rfl,hB,hW,pb,tw,k⟩:=h;have hb:=xNp.1;obtain⟨i,ps,Rb,hi,hp,QR,rfl,Oq,MD⟩:=pb;have MD:=EF MD tw.le;have ht1:=tw.one;have ht2:=tw.le;have T3:xbr 33:=Ty;have X1:xbr 6:=Ty;have Ru:xAF:=Ty;show xji hr8 (xbr 8) (xdD 2 Nk.nd (xcO GN Ru N PP) 3 Nk.nd (xcO (ir Ah Wn N Z.H.N) X1 Ah No) (xa6 4 Nk.nd (xcO (qa Nh Ho Bs Z.H) T3 Nh Ps) (xCP (xcO (uQ En Wc Z.H.Y) hr8 En Ps)) (xfe (uS Ti Z.Z Wa Z.H.T) hr Ti (xqo Ps (xbw 3 h3 t3) (xN qZ (xbw 2 h2 t2))) χ TD)))
 generalize hX:xkM (xob-1)++Rb=X at*;have hXl:X.length=xyq 3:=by rw [<-hX,EB];exact Ix 3 _
 show xd9 (xc0 x _ hB hb (λ l hn=>xaB));have s1:=xbe xJD hn;have VQ:xd8 H l xJD l=xah xJD:=i';show xiV H l xJD H1 (xbA ⟨_,rfl,_,W,rfl,.inr (xf2 z (xcR hW)),tw.wb,tw.wl,λ lw H2 s2 nw YO=>xaB⟩)
 clear g;have hl2':=xcg VQ;have NJ:=xfz;have eR:xJD=xkM (xob-1)++(Rb++xxv X):=by unfold sld;rw [<-hX,EE]
 show xd9 ⟨_,rfl,l,_,Rb.length,_,rfl,eR▸hl2',by omega,MD,Oq,by show xak EB,λ p dx H3 np s3 M4=>xaB⟩;have VJ:=NJ.trans s3;have NS:=xbZ hl2';show xd9 ⟨_,rfl,l,X,rfl,NS,λ b q=>xj4 (xpP q),by lia,λ H4 s4=>xaJ xqJ⟩;have Uh:=VJ.trans s4;refine⟨_,rfl,_,rfl,_,rfl,_,rfl,l,_,rfl,Mm.of (xfj NS),xvX⟩;have ec:xBM (xyy X) (some 3) (-2)=xmw:=by
  rw [yT _ (by show xcj eE),tQ,<-hX];rfl
 rw [ec];have s5:=xAn xmw;have hx:=tZ hp tw QR;rw [show(xob-1)/64=i by lia,show(xob-1)%64+1=T.length by lia] at M4;exact⟨_,rfl,_,rfl,l5,p,lw,dx,Rb,W,T,i,T.length,_,_,rfl,i',QR.byt,xRt M4,xRt (xbZ YO),tw.wl,ht2,hi,hx.1,Ξ hx,xbM hx,λ l' H' n' s6 h'=>k l' _ (none_of x0B n') ((x0B).trans s6) h'⟩
universe K30.Ck
namespace K30.Ck
open PySem L2 QQ W17 W16 BP
seal PE PA PS PSs PT PW PG PI
abbrev xI:L7:=top 112
abbrev mC:L7:=top 113
abbrev rF:L7:=xKl 0
abbrev xz:L7:=xKl 1
abbrev Bj:L7:=xKl 2
abbrev rT:L7:=xKl 4
noncomputable def four (n:Nat):Fr:=xKj++xKs
def tailR (n c:Nat):Fr:=sld (xho++xm5++xrE)
def pF (n):xe3 xm5:=λ b h=>xmk h (il xls b) (il xls b)
def AS:¬(xqQ="many_signs"):=Z8
def BZ:¬(xqQ="signs_check"):=Z8
def BG:¬(xqQ="group"):=Z8
def BK:¬(xB5="signs_check"):=Z8
def BL:¬(xB5="group"):=Z8
def BW:¬(xTA="group"):=Z8
noncomputable def fO (b m:Nat) (ck g:LV):xfn:=[("blocks",xd6),("many_signs",xkf),("signs_check",.ref ck),("group",.ref g)]
def lm (b m)(ck g):xO8 g (xGH ck m b)=xl4:=by
 show(xO8 g (xSU ck (xDl "many_signs" (xqQ,xd6) [("many_signs",xkf)])))=_;rw [ES AS];show(xO8 g (xDl "signs_check" (xqQ,xd6) (xOm "signs_check" (xB5,xkf) [("signs_check",.ref ck)])))=_;rw [ES BZ,ES BK];show(xDl "group" (xqQ,xd6) (xOm "group" (xB5,xkf) (xcW "signs_check" "group" (xg2 xTA ck) [xg2 "group" g])))=_;rw [ES BG,ES BL,ES BW];rfl
def Cm (b m)(ck g):xds xl4 "blocks"=xhl:=by
 rw [<-lm,ap,ES BG,ap,ES BZ,ap,ES AS,ap,xai]
def wD (b m)(ck g):xds xl4 "many_signs"=xwu:=by
 rw [<-lm,ap,ES BL,ap,ES BK,ap,xai]
def AY (b m)(ck g):xds xl4 "signs_check"=xap ck:=by
 rw [<-lm,ap,ES BW,ap,xai]
def DW (b m)(ck g):xds xl4 "group"=xap g:=by rw [<-lm,ap,xai]
def ja (b m)(ck g){x:Str}(h1:xs8 "group")(h2:xs8 "signs_check")(h3:xs8 "many_signs")(h4:xs8 "blocks"):xmt xl4 x:=by
 rw [<-lm,ap,xpg,ap,xno,ap,ES h3,ap,ES h4];rfl
def fz (b m)(ck g):xFr xl4:=by show xdi 4
def Ay (b m b')(ck g):xSX b' xl4=xy9 b' m:=by
 show(xik "blocks" "blocks" _ _)=_;show xak xai
def Am (b m m')(ck g):xe1 "many_signs" m' xl4=xy9 b m':=by
 show(xDl "many_signs" (xqQ,xd6) (xik "many_signs" "many_signs" _ _))=_;rw [ES AS,xai];rfl
def wz (b m)(ck g g'):xO8 g' xl4=fO b m ck g':=by
 show(xDl "group" (xqQ,xd6) (xOm "group" (xB5,xkf) (xcW "signs_check" "group" (xg2 xTA ck) (xik "group" "group" _ _))))=_;rw [ES BG,ES BL,ES BW,xai];rfl
structure MY (C CK:LV)(H:Hp)(p ck g:LV)(S:Fr)(b:Nat)(G:Fr):Prop where
 ob:∃dx,xbF=xdx (xxn b ck g)
 ch:∃dk,H ck=xkG CK dk (fC 16 (xmu S))
 gr:H g=XL xkV
 byt:xlm S
def MY.keep (h:MY C CK H p ck g S b G)(s:∀c o,ω=Id->c=p\/c=ck\/c=g->xaY=Id):MY C CK H' p ck g S b G:=
 ⟨h.ob.elim λ dx z=>xgc (xft z xec),h.ch.elim λ dx z=>xgc (xQ3 z xec),xQ3 h.gr xx7,h.byt⟩
structure V2 (K:Frag)(mg:Α)(CK CO:LV):Prop where
 Y:xBd CK
 initd:∃f fd t,(∃dV,xWP dV f fd)/\xBx K xHJ [xdK 16]/\xJJ CK
 cl:xxF CO
 nB:xGP CO "blocks"
 nM:xGP CO "many_signs"
 nC:xGP CO "signs_check"
 nG:xGP CO "group"
 m:mg "Course"=xap CO
 gb:∃t,mg "GROUP_BLOCKS"=xcz 4
 four:Wp "in_four_bytes" xI xoB
 tailof:Wp "tail_of" mC xHM
 init:∃f fd,x0N rF/\xEG/\xJJ CO
 win:xsc CO "window" "Course.window" xz
 go:∃f fd,xeV CO "go_on" "Course.go_on" Bj xxN
 tail:xsc CO "tail" "Course.tail" rT
inductive Xh (vs:M2) (H:Hp) (Q:VK) (Ml:XK):Prop
 |mk (n:Nat) (h0:vs=[xcG]) (h1:∀l H',Ι->Κ->xaz=xah xm5->xat):Xh vs H Q Ml
def Bt:ST xoB xoB xI:=Os
def zq (F:Δ "in_four_bytes" xI xoB)(Z:xwe):xsA xoB Xh:=by
 show xQ1 Tw Z.Y.two GT (rA (P:=P) (w:=w) (base:=base) Tw);show xau Bt (λ L9 A outer st H vs Q E hr h=>?_);show xbd n rfl k h (xjK (xfb (xd2 GT Tw (xf3 iD (xf3 eI PP))) (xd2 GT Tw (xf3 iD PP))));have e1:xay/2^Int.toNat 16=LT (n/65536):=by
  show xay/65536=_;exact Ih (xY0 rfl)
 have e2:∀m:Nat,xTC m 65535=LT (m%65536):=λ m=>eh m 16
 refine⟨_,rfl,_,_,rfl,rfl,(by show xjz (xcU≤16)),_,_,rfl,rfl,?_⟩
 try dsimp only
 rw [e1,e2];refine xgG rfl xls xnl;have s1:=xbe xKj n1;have PZ:xd8 H l1 xKj l1=xah xKj:=i';show xiV H l1 xKj H1 xwc
 try dsimp only
 show Uf e2 (xgG rfl xls (P3 l2 n2));have s2:=xbe xKs n2;have Sd:xd8 H1 l2 xKs l2=xah xKs:=i';have h21:=xcg PZ;have NJ:=xfz;show xiV H1 l2 xKs H2 ⟨l1,l2,_,_,rfl,rfl,h21,Sd,(by show xe7 4),xgo⟩;exact xp8 (xoG NJ) xUe (by rw [i',<-EO];rfl)
inductive SD (vs:M2) (H:Hp) (Q:VK) (Ml:XK):Prop
 |mk (n c:Nat) (h0:vs=[xcG,xi1]) (h1:c<65536) (h2:∀l H',Ι->Κ->xaz=xah (tailR n c)->xat):SD vs H Q Ml
def xo:ST xHM xHM mC:=Os
def uN (F:Δ "tail_of" mC xHM)(Z:xwe):xam 8 xHM SD:=by
 show xbO Tw Z.Y.two Fo Z.four;show xbO Hr Z.Y.headrow Wc Z.Y.withcheck;show xau xo (λ L9 A outer st H vs Q E hr h=>?_);show xeE n c hc k h;have Mw:xbg:=Ty;have N3:xnH:=Ty;show xax (xbh (xd2 (eQ Wc Z.Y) Wc (xfb (xfb (xcQ (gJ Hr Z.Y) hr Hr ad ad) (xcO (zq Fo Z) N3 Fo PP)) (xl5 (rA Tw) Tw No)))) ⟨0,0,rfl,Z9,Z9,λ l1 H1 n1 s1 PZ=>?_⟩;show ρ (xbY _ rfl n (λ l2 H2 n2 s2 Sd=>?_)) ⟨l1,l2,_,_,rfl,rfl,xcg PZ,Sd,(by show xe7 7),P3 l3 n3⟩;rw [<-EO];have s3:=xbe (xho++xm5) n3;have h33:xd8 H2 l3 (xho++xm5) l3=xkx xho xm5:=i';have Ui:=xLm;show xiV H2 l3 (xho++xm5) H3 (xkr c hc (P3 l4 n4));have s4:=xbe xrE n4;have Sa:xd8 H3 l4 xrE l4=xah xrE:=i';have h43:=xfj h33;have s04:=xUm;show xiV H3 l4 xrE H4 ⟨l3,l4,_,_,rfl,rfl,h43,Sa,(by show xe7 9),xvX⟩;rw [<-EO];have s5:=xbe (xho++xm5++xrE) n5;have Wt:xd8 H4 l5 (xho++xm5++xrE) l5=xkx (xho++xm5) xrE:=i';have Xx:=s04.trans s5;show xiV H4 l5 (xho++xm5++xrE) H5 ⟨l5,_,rfl,Wt,xfi,(by show xjz (xbC 9)),λ l H6 nl s6 hl=>xfp H6 (xoG Xx) x1p hl⟩;show xbX hb hb hb
 ·show xbX hb hb hb
  ·exact cX Z9 Z9 b hb
  ·exact pF n b hb
 ·exact il hc b hb
def yS (S T):xmu (S++T)=crc 16 45 (xmu S) T:=by
 unfold chk crc;rw [IT]
theorem cx (x)(v):∀l,xcy (putF x v l) (l.length+1)
 | []=>Tl
 |(y,u)::l=>by
  show xAf putF
  ·simp
  ·have:=cx x v l;show xID
def fOC:xIZ CO xl4≠HO.ins CK dk xz8:=by
 intro z;injection z with _ _ z
 have:=xkK z;simp [fO,fC] at this
def MY.ne (h:xre H p g S b G):p≠ck/\xAP/\g≠ck:=by
 show xbH dx hp h.ob dk hk h.ch;exact⟨xKY hk fOC,xsm h.gr (by show Υ),aH h.gr hk (by show Υ)⟩
inductive UQ (CO CK:LV) (vs:M2) (H:Hp) (Q:VK) (Ml:XK):Prop
 |mk (p dx:LV) (h0:vs=xbk) (h1:xbF=xfC CO []) (h2:∀(ck g:LV) (H':Hp),xLe->Χ g->xre H' p g [] 0 []->xdH (∀b o,xaN=Id->xhn->xeN=Id)):UQ CO CK vs H Q Ml
def zR:xdW rF:=Os
def jE (F:x0N rF)(Z:xwe):xgJ 4 (UQ CO CK):=by
 obtain⟨_,_,W⟩:=Z.Y.Z.whole;obtain⟨_,_,t16,⟨_,FI⟩,B16,MI⟩:=Z.initd;show xao zR (λ L9 A outer st H vs Q E hr h=>?_);show xeE p dx hp k h;show xgY (xeo ad (xeo ad (xu2 (cu MI (xU7 W Z.Y.Z.T Z.Y.Z.X) Ty Z7 Z.Y.Z.T.m B16 (xQT (a:=V.int 16) xbs) bf) xe8))) ⟨_,rfl,p,CO,dx,[],rfl,hp,Z.cl,Z.nB,(by show xdi 0),?_⟩ ⟨_,rfl,p,CO,dx,_,rfl,i',Z.cl,Z.nM,(by show xdi 1),?_⟩;have ME:(xfh (xfh H xvr) (xMU xon xvr)) p=xfC CO (xX1 0 0):=i';have Rm:∀c o,ω=Id->xaD->(xfh (xfh H xvr) (xMU xon xvr)) c=Id:=λ c o e n=>by rw [xpK,xpK];exact e
 show xdg no2 (∀c,xac ((xfh (xfh H xvr) (xMU xon xvr)) c)->xsB) (λ c e=>by
  by_cases n:c=p
  ·show xb3 n i' e e
  ·rw [xpK,xpK] at e;exact e) (xfh (xfh H xvr) (xMU xon xvr)) H2;intro x dk nx TN YJ;have s0:=xAq CK;have Uj:p≠x:=ae ME nx;refine xdc x dk 16 45 iM i' (λ H3 hx ML=>xjJ);have M4:=xct (xm8 ME) Uj;have k13:∀c o,ω=Id->xaD->H3 c=Id:=λ c o e n=>xct (xm8 (xsM e n)) (ae (xsM e n) nx)
 clear ML s0;have MD:=cx "many_signs" xut (xSX 0 []);have Oq:=cx "blocks" xut [];have NS:=cx "signs_check" xcn (xX1 0 0);have YQ:xaI ([]:xfn) 0:=rfl;refine⟨_,rfl,p,CO,dx,_,rfl,M4,Z.cl,Z.nC,xbl [_,_,_] xfJ (xnr (xqj xht)) NE 1000 MD (xgV Oq YQ),?_⟩;have Um:(xfh H3 (xGH x 0 0)) p=xfC CO (xGH x 0 0):=i';have hx4:(xfh H3 (xGH x 0 0)) x=xkG CK dk (fC 16 (2^16-1)):=by show υ Uj.symm hx
 have k14:∀c o,ω=Id->xaD->(xfh H3 (xGH x 0 0)) c=Id:=λ c o e n=>by show xjl (k13 _ _ e n)
 show xbU (xfh H3 (xGH x 0 0)) H4 (xen (by show xe7 0) g ng);have s5:=xDo ng;have hg5:(xbP H4 g []) g=XL []:=i';have Vr:=xbb Um;have hx5:=xbb hx4;have XW:xAP:=xe0 Um ng;have hgH:Χ g:=by
  cases e:H g with
  |none=>rfl
  |some o=>show W1 (k14 _ _ e XW) ng ng
 show xbU (xbP H4 g []) H5 ⟨_,rfl,p,CO,dx,_,rfl,Vr,Z.cl,Z.nG,(xgQ [_,_,_,_] (xa2 xfH) (xgg (xhv 3 (xqj Β))) NE 1000 MD (xbJ Oq NS (EC YQ))),?_⟩;refine k x g _ (no2 x nx) hgH ⟨xgc (LU i' (xyw l (xIZ CO l) (lm 0 0 x g))),⟨dk,by show υ Uj.symm hx5⟩,by show υ XW hg5,λ z hz=>by simp at hz⟩ λ c o e n=>?_
 show xjl (xbb (k14 _ _ e n))
inductive W9 (CO CK:LV) (vs:M2) (H:Hp) (Q:VK) (Ml:XK):Prop
 |mk (p ck g:LV) (S G:Fr) (b:Nat) (h0:vs=xbk) (h1:xre H p g S b G) (h2:∀l,Ι->xww (xlS xkV)):W9 CO CK vs H Q Ml
def AH:xdW xz:=Os
def nP (F:xaL "window" "Course.window" xz)(Z:xwe):xh5 (W9 CO CK):=by
 have T:=Z.Y.Z.X.R.X;show xao AH (λ L9 A outer st H vs Q E hr h=>?_);obtain⟨p,ck,g,S,G,b,rfl,⟨⟨dx,hp⟩,_,hg,_⟩,k⟩:=h;refine xjK (xDa bp T.list Gh Ζ);exact⟨_,rfl,p,CO,dx,_,_,rfl,hp,Z.cl,Z.nG,DW _ _ _ _,g,_,rfl,xab hg,k⟩
inductive UO (CO CK:LV) (vs:M2) (H:Hp) (Q:VK) (Ml:XK):Prop
 |mk (p ck g:LV) (S G:Fr) (b:Nat) (h0:vs=xbk) (h1:xre H p g S b G) (h2:∀l H',Ι->Κ->xaz=xah (xW1 S)->xat):UO CO CK vs H Q Ml
def yL:xdW rT:=Os
def pT (F:xaL "tail" "Course.tail" rT)(Z:xwe):xgJ 9 (UO CO CK):=by
 show xbO To Z.tailof Va Z.Y.Z.value;have CT:=Z.Y.Z.T;show xao yL (λ L9 A outer st H vs Q E hr h=>?_);obtain⟨p,ck,g,S,G,b,rfl,⟨⟨dx,hp⟩,⟨dk,hk⟩,hg,hb⟩,k⟩:=h;have Mw:xbg:=Ty;show xax (xbh (xcQ (uN To Z) hr To Ζ (xzV CT.cl Va (oQ Va.F CT) Mw))) ⟨_,rfl,p,CO,dx,_,_,rfl,hp,Z.cl,Z.nM,wD _ _ _ _,_,rfl,p,CO,dx,_,_,rfl,hp,Z.cl,Z.nC,AY _ _ _ _,ck,dk,_,rfl,hk,xDG _,ck,dk,16,_,rfl,hk,?_⟩;exact xnV xzD k
noncomputable def Y3 (b:Nat) (G T:Fr):Fr:=xbc ((b+1)%4) 0 [] (G++T)
inductive Zk (CO CK:LV) (vs:M2) (H:Hp) (Q:VK) (Ml:XK):Prop
 |mk (p ck g a:LV) (S G T:Fr) (b:Nat) (h0:vs=xnX) (h1:xre H p g S b G) (h2:UF=xcf) (h3:(xi7)) (h4:xbC (G.length+T.length)) (h5:∀(g':LV) (H':Hp),Χ g'->xre H' p g' (S++T) (b+1) (Y3 b G T)->xdH (∀c o,ω=Id->xaD->xvp->xaY=Id)):Zk CO CK vs H Q Ml
def C4:ST xxN xxN Bj:=Os
def xF (F:xaL "go_on" "Course.go_on" Bj)(Z:xwe):xam 6 xxN (Zk CO CK):=by
 have T:=Z.Y.Z.X.R.X;obtain⟨X,CT,⟨_,_,W⟩,⟨_,_,R⟩,⟨_,_,N⟩,⟨_,_,Yw⟩,_,⟨_,_,Ad⟩,_⟩:=Z.Y.Z;show xck tg hgb Z.gb (F.ok C4 λ L9 A outer st H vs Q E hr h=>?_)
 intro _;obtain⟨p,ck,g,a,S,G,T',b,rfl,hC,ha,hT,hl,k⟩:=h;obtain⟨V5,XW,ngk⟩:=hC.ne;obtain⟨⟨dx,hp⟩,⟨dk,hk⟩,hg,hb⟩:=hC;have ZA:xcF a:=xsm ha (by show Υ);have nak:a≠ck:=aH ha hk (by show Υ);refine xca (xeo (xcD Ζ) (xeo (xbv Ζ (xBF No)) (xej (xgS Ζ CT.cl Ad (wj Ad.F N R W Yw CT X) hr No) (xg3 bd (ak bi Ζ (xbw 4 hgb tg)) ad (xtg PP xe8) (xDc (xfb Ζ No))))))
 have e1:xpx+1=xiH b:=Kw _;have e2:XV S.length+xq0 (T'.map vN)=LT xxx:=by show xaT (xjy [_,_] Pi Pi [_,_] Pi Pi)
 show xjh ⟨_,rfl,p,CO,dx,_,_,rfl,hp,Z.cl,Z.nB,Cm _ _ _ _,_,_,rfl,rfl,_,rfl,p,CO,dx,_,rfl,hp,Z.cl,Z.nB,xwX,xaa⟩
 try dsimp only
 rw [e1,Ay];have MW:(xfh H (xxn (b+1) ck g)) p=xfC CO (xxn (b+1) ck g):=i';have k1:∀c o,ω=Id->xaD->(xfh H (xxn (b+1) ck g)) c=Id:=λ c o e n=>by show xjl e
 show xsV (xfh H (xxn (b+1) ck g)) H1 (xdd ⟨_,rfl,p,CO,dx,_,_,rfl,MW,Z.cl,Z.nM,wD _ _ _ _,_,rfl,a,_,rfl,xab (k1 _ _ ha ZA),_,_,rfl,rfl,_,rfl,p,CO,dx,_,rfl,MW,Z.cl,Z.nM,xwX,xaa⟩) g1
 try dsimp only
 rw [e2,Am];have ME:(xfh H1 (xy9 (b+1) xxx)) p=xfC CO (xy9 (b+1) xxx):=i';show xdg k2 (∀c o,ω=Id->xaD->(xfh H1 (xy9 (b+1) xxx)) c=Id) (λ c o e n=>by show xjl (k1 _ _ e n)) (xfh H1 (xy9 (b+1) xxx)) H2;clear k1 MW;refine xbT
 have RT:=k2 _ _ hk V5.symm;show xcC ⟨_,rfl,p,CO,dx,_,_,rfl,ME,Z.cl,Z.nC,AY _ _ _ _,ck,dk,_,rfl,RT,xDG _,_,rfl,ck,dk,a,16,45,_,T',rfl,iM,xzD,RT,k2 _ _ ha ZA,hT,λ H3 ZL ML=>xaa⟩;rw [<-yS] at ZL;have M4:=xct ME V5;have k3:∀c o,ω=Id->xaD->xvp->H3 c=Id:=λ c o e n m=>xct (k2 _ _ e n) m
 clear ML RT ME k2;have hg3:=xkm hg XW ngk;have ha3:=xkm ha ZA nak;have hbb:xlm (S++T'):=λ x hx=>xmk hx xpJ (hT x)
 have eL:xcm S T'=xxx:=EB;have hgH:∀l,xac (H3 l)->Ι:=λ l nl=>by
  cases e:xjm with
  |none=>rfl
  |some o=>
   by_cases n:l=p
   ·show xb3 n M4 nl nl
   ·by_cases m:l=ck
    ·show xb3 m ZL nl nl
    ·show W1 (xkm e n m) nl nl
 have fin:∀l L H4,xac (H3 l)->H4=xfh (xdw H3 xGT) (fO (b+1) xxx ck l)->L=Y3 b G T'->xlj H4:=λ l L H4 nl e4 eL'=>by
  subst e4 eL';have Oa:xsC:=xoR M4;have nlk:xex ck:=xoR ZL;refine xp8 (hgH l nl) ⟨xgc (by rw [i',eL]),⟨dk,by rw [ai V5.symm,ai nlk.symm];exact ZL⟩,by rw [ai Oa,i'],hbb⟩ λ c o e n m=>?_
  rw [xpK,xqx (xkm e n m) nl];exact xkm e n m
 have e4:xiH b%4=LT ((b+1)%4):=Ih (xY1 rfl);refine⟨_,rfl,p,CO,dx,_,_,rfl,M4,Z.cl,Z.nB,Cm _ _ _ _,_,_,rfl,rfl,(by show xeq 4),?_⟩
 try dsimp only
 show Uf e4 (xc8 rfl _ (xc9 h h))
 ·have h0:(b+1)%4=0:=by
   have:V.int (LT ((b+1)%4))=xek:=xb5;injection this with this
   exact Int.ofNat_eq_zero.mp this
  refine xen (by show xe7 0) l nl;have Od:(xdw H3 []) p=_:=xeb (ae M4 nl) M4;show xgk ⟨_,rfl,p,CO,dx,_,rfl,Od,Z.cl,Z.nG,xwX,?_⟩ wz (fin l [] _ nl rfl (by show xzm Y3 h0))
 ·have h0:¬(b+1)%4=0:=On (h (EJ (by show xak z)))
  refine⟨_,rfl,p,CO,dx,_,_,rfl,M4,Z.cl,Z.nG,DW _ _ _ _,_,rfl,g,a,_,_,rfl,rfl,hg3,ha3,aW (by rw [EA,EA];exact xdj hl),xgo⟩;have Od:(xdw H3 (xkV++T'.map vN)) p=_:=xeb (ae M4 nl) M4;refine⟨_,rfl,p,CO,dx,_,rfl,Od,Z.cl,Z.nG,xwX,?_⟩;rw [wz,<-EO];exact fin l (G++T') _ nl rfl (by show xci Y3 (ES h0))
abbrev qY:L7:=xEA 0
abbrev Cw:L7:=xEA 1
abbrev ra:L7:=xEA 2
abbrev qQ:L7:=xEA 3
abbrev qD:L7:=xEA 4
abbrev wc:L7:=xEA 5
abbrev kl:L7:=top 117
def BJ:¬(xqR="waiting"):=Z8
def AT:¬(xqR="begun"):=Z8
def AJ:¬(xX2 xqR):=Z8
def AG:¬(xCn="begun"):=Z8
def BB:¬(xX2 xCn):=Z8
def Cz:¬(xX2 xVT):=Z8
noncomputable def fP (co wt:LV) (bg fn:Bool):xfn:=[("course",.ref co),("waiting",xWw),("begun",.bl bg),("finished",.bl fn)]
def kB (co wt)(bg fn):xNS fn (xXZ bg (xOe wt (xkI "course" co [])))=xiC:=by
 show(xNS fn (xXZ bg (xDN "waiting" xqR co [xg2 "waiting" wt])))=_;rw [ES BJ];show(xNS fn (xDN "begun" xqR co (xcW "waiting" "begun" (xg2 xCn wt) [("begun",V.bl bg)])))=_;rw [ES AT,ES AG];show(xDN "finished" xqR co (xcW "waiting" "finished" (xg2 xCn wt) (xcW "begun" "finished" (xVT,V.bl bg) [("finished",V.bl fn)])))=_;rw [ES AJ,ES BB,ES Cz];rfl
def nU (co wt)(bg fn):xds xiC "course"=xap co:=by
 rw [<-kB,ap,ES AJ,ap,ES AT,ap,ES BJ,ap,xai]
def gZ (co wt)(bg fn):xds xiC "waiting"=xap wt:=by
 rw [<-kB,ap,ES BB,ap,ES AG,ap,xai]
def uL (co wt)(bg fn):Tm (xds xiC "begun") (.bl bg):=by
 rw [<-kB,ap,ES Cz,ap,xai]
def sj (co wt)(bg fn):Tm (xds xiC "finished") (.bl fn):=by rw [<-kB,ap,xai]
def dQ (co wt)(bg fn){x:Str}(h1:xs8 "finished")(h2:xs8 "begun")(h3:xs8 "waiting")(h4:xs8 "course"):xmt xiC x:=by
 rw [<-kB,ap,xpg,ap,xno,ap,ES h3,ap,ES h4];rfl
def c8 (co wt)(bg fn):xFr xiC:=by show xdi 4
def pH (co wt TM)(bg fn):xOe TM xiC=xBD TM bg fn:=by
 show(xDN "waiting" xqR co (xik "waiting" "waiting" _ _))=_;rw [ES BJ,xai];rfl
def wQ (co wt)(bg fn XJ):xXZ XJ xiC=xBD wt XJ fn:=by
 show(xDN "begun" xqR co (xcW "waiting" "begun" (xg2 xCn wt) (xik "begun" "begun" _ _)))=_;rw [ES AT,ES AG,xai];rfl
def vM (co wt)(bg fn fn'):xNS fn' xiC=xB7 fn':=by
 show(xDN "finished" xqR co (xcW "waiting" "finished" (xg2 xCn wt) (xcW "begun" "finished" (xVT,V.bl bg) (xik "finished" "finished" _ _))))=_;rw [ES AJ,ES BB,ES Cz,xai];rfl
structure CP (K:Frag)(mg:Α)(C:LV):Prop where
 cl:xhm
 nC:xdC "course"
 nW:xdC "waiting"
 nB:xdC "begun"
 nF:x1A
 m:mg "Presser"=xiZ
 mark:∃d,mg "MARK"=xhd/\∀H,xp9 d [xEz,xFp,vN 1]
inductive spUn (C:LV) (vs:M2) (H:Hp) (Q:VK) (Ml:XK):Prop
 |mk (p dx co wt:LV) (bg:Bool) (h0:vs=xbk) (h1:xbF=xdx (xB7 false)) (h2:xlj H):spUn C vs H Q Ml
def Dh:xdW Cw:=Os
def Al (F:xaL "need_unfinished" "Presser.need_unfinished" Cw)(T:CP K mg C):xh5 (spUn C):=by
 show xao Dh (λ L9 A outer st H vs Q E hr h=>?_);obtain⟨p,dx,co,wt,bg,rfl,hp,k⟩:=h;refine xca (ac (xCm xPN));exact⟨_,rfl,p,C,dx,_,_,rfl,hp,T.cl,T.nF,xBq,false,rfl,aS k⟩
noncomputable def mk (bg:Bool):Fr:=xcA bg [] xig
inductive Xd (C:LV) (vs:M2) (H:Hp) (Q:VK) (Ml:XK):Prop
 |mk (p dx co wt:LV) (bg fn:Bool) (h0:vs=xbk) (h1:xbF=xdx xiC) (h2:∀l H',Ι->xwq=xdx (xC1 fn)->xaz=xah xo5->(∀c o,ω=Id->xaD->xaY=Id)->xat):Xd C vs H Q Ml
def zi:xdW ra:=Os
def sO (F:xaL "mark_once" "Presser.mark_once" ra)(T:CP K mg C)(X:xcH):xh5 (Xd C):=by
 show xbd dM mM hM T.mark (F.ok zi λ L9 A outer st H vs Q E hr h=>?_)
 intro _;obtain⟨p,dx,co,wt,bg,fn,rfl,hp,k⟩:=h;show xax (ab (xE1 xPN xe8 az)
  (xeo et (xbh (xEJ bp Gh (xzi dM Z7 mM))))) ⟨_,rfl,p,C,dx,_,_,rfl,hp,T.cl,T.nB,uL _ _ _ _,bg,rfl,?_⟩;cases bg with
 |true=>
  refine cb (xen (by show xe7 0) l nl);exact xp8 nl (by show xjv hp nl hp) i' λ c o e _=>xBo
 |false=>
  refine aS ⟨_,rfl,p,C,dx,_,rfl,hp,T.cl,T.nB,xl3,?_⟩;rw [wQ];have MW:(xfm H (xC1 fn)) p=xdx (xC1 fn):=i';refine xbI dM _ (.inr (hM _)) xgo;have Oa:p≠l:=ae MW nl;refine xp8 (by show π (ai Oa.symm) nl nl) (by show υ Oa MW) i' λ c o e n=>?_
  rw [xqx (by show xjl e) nl,xpK];exact e
def nb (A:Fr):Nat:=A.length/64
noncomputable def wn (A:Fr) (i:Nat):Fr:=(A.take (64*i)).drop (i/4*256)
structure YE (C CO CK:LV)(H:Hp)(p co ck:LV)(A:Fr)(bg:Bool):Prop where
 ob:∃dx wt g,xbF=xdx (xB7 false)/\H wt=xah (A.drop (64*xpw))/\xny H g (A.take (64*xpw)) xpw (wn A xpw)
 byt:xlm A
def gv (t:xsD)(kp:∀c o,ω=Id->(∀C dx fs,o≠ .ins C dx fs)->(∀xs,o≠ xC0)->xaY=Id):xvu:=by
 show xbd ps h z t ⟨ps,xaX h (by intro _ _ _ z;cases z) (by intro _ z;cases z),z.imp id λ z9=>by obtain⟨c',oc,vs,t,e,hc,r⟩:=z9;exact⟨c',oc,vs,t,e,xaX hc (by intro _ _ _ z;cases z) (by intro _ z;cases z),r⟩⟩
structure Y8 (K:Frag)(mg:Α)(B D G CW C0 C1 C2 C3 c CK Mz CO C:LV):Prop where
 Bk:Bks K mg B D G CW C0 C1 C2 C3 c CK Mz
 Cr:xwe
 T:CP K mg C
 bs:∃t,xZ9=xcz 64
 putblock:∃f fd,xKA "put_block" iU Jae f fd
 init:∃f fd,x0g qY/\xEG/\xsL
 un:xic "need_unfinished" "Presser.need_unfinished" Cw
 mark:xic "mark_once" "Presser.mark_once" ra
 next:∃f fd,xeV C "next_block" "Presser.next_block" qQ xUq
 feed:∃f fd,xeV C "feed" "Presser.feed" qD xxN
 finish:xic "finish" "Presser.finish" wc
inductive UK (C CO CK:LV) (vs:M2) (H:Hp) (Q:VK) (Ml:XK):Prop
 |mk (p dx:LV) (h0:vs=xbk) (h1:xbF=xzN) (h2:∀(co ck:LV) (H':Hp),Χ co->xLe->YE C CO CK H' p co ck [] false->xdH (∀b o,xaN=Id->xhn->xeN=Id)):UK C CO CK vs H Q Ml
def zC:xdW qY:=Os
def wK (F:x0g qY)(Z:Y8 K mg B D G' CW C0 C1 C2 C3 c CK Mz CO C):xgJ 6 (UK C CO CK):=by
 have T:=Z.T;show xsR Z.Cr.init;show xao zC (λ L9 A outer st H vs Q E hr h=>?_);show xeE p dx hp k h;refine xca (xeo (xsr (jE FI Z.Cr) hr Z.Cr.m bI bf) (xeo xe8 (xu2 et et)))
 intro x dk nx TN YJ;have s0:=xAq CO;have Uj:p≠x:=xrY nx;refine xbI x dk i' (λ ck g H1 Uk ng hC Oo=>xjJ);have MW:=xwQ (xm8 hp) Uj;have k1:∀b o,xaN=Id->H1 b=Id:=λ b o e=>xwQ xrK xum
 have Rx:xLe:=xkU Uk;clear Oo s0;refine⟨_,rfl,p,C,dx,[],rfl,MW,T.cl,T.nC,(by show xdi 0),?_⟩;have ME:(xfm H1 xlJ) p=xdx xlJ:=i';have k2:∀b o,H1 b=Id->xhn->(xfm H1 xlJ) b=Id:=λ b o e n=>by show xjl e
 show xbU (xfm H1 xlJ) H2 (xen (by show xe7 0) wt nwt);have s3:=xDo nwt;have X0:(xRL) wt=XL []:=i';have M4:=xbZ ME;have Zw:xcF wt:=xe0 ME nwt;show xbU xRL H3 ⟨_,rfl,p,C,dx,_,rfl,M4,T.cl,T.nW,(by show xdi 1),?_⟩;have Oq:=cx "course" xcn [];have MD:=cx "waiting" xWw xlJ;have NS:=cx "begun" xxO (xOe wt xlJ);have YQ:xaI ([]:xfn) 0:=rfl;show ρ ⟨_,rfl,p,C,dx,_,rfl,i',T.cl,T.nB,(xgQ [_,_,_] xcB (xgg (xqj Β)) NE 1000 Oq (xgV MD YQ)),?_⟩ ⟨_,rfl,p,C,dx,_,rfl,i',T.cl,T.nF,(xgQ [_,_,_,_] (xbi xcB) (xgg (xnr (xqj xm6))) NE 1000 Oq (xbJ MD NS (EC YQ))),?_⟩;rw [dP,dP,kB];show xeP V5 XW ngk hC.ne RU xLk (On (by show xbm hp Rx Rx))
 have hgp:xAP:=On (by
  have:=hC.gr;show xbm MW this this)
 have k3:∀b o,H1 b=Id->xhn->(xfm H3 (xT2 x wt)) b=Id:=λ b o e n=>by show xjl (xbZ (k2 _ _ e n))
 refine k x ck _ nx Rx (xih ⟨dx,wt,g,i',by show υ Zw X0,hC.keep λ c o e hc=>xkm e ?_⟩ z hz (by simp at hz)) λ b o e n=>xkm (k1 _ _ e) n
 show xsX hc
 ·exact Uj.symm
 ·exact RU
 ·exact hgp
inductive Xb (Tb C CO CK:LV) (vs:M2) (H:Hp) (Q:VK) (Ml:XK):Prop
 |mk (p dx co wt ck g a:LV) (bg fn:Bool) (S G T:Fr) (b:Nat) (h0:vs=xnX) (h1:xbF=xdx xiC) (h2:xny H g S b G) (h3:UF=xcf) (h4:TW T G) (h5:xsD) (h6:∀(l g':LV) (R:Fr) (H':Hp),Ι->Χ g'->PB G T R->xaz=xlD->xny H' g' (S++T) (b+1) (Y3 b G T)->(∀c o,xcd Tb->ω=Id->xFy->xvp->xaY=Id)->xvu->xat):Xb Tb C CO CK vs H Q Ml
def U7:ST (xtU "signs" "block") xUq qQ:=Os
def tu (F:xaL "next_block" "Presser.next_block" qQ)(Z:Y8 K mg B D G' CW C0 C1 C2 C3 c CK Mz CO C)(hC:xnP)(VT:xns)(hK:xpr):xam 41 xUq (Xb Tb C CO CK):=by
 show xtL T0 Z.T Pb Z.putblock;obtain⟨_,FP⟩:=Pb.F;show xbO Wi Z.Cr.win Go Z.Cr.go;show xao U7 (λ L9 A outer st H vs Q E hr h=>?_);obtain⟨p,dx,co,wt,ck,g,a,bg,fn,S,G,T,b,rfl,hp,TZ,ha,tw,hT,k⟩:=h;have Mw:xbg:=Ty;have X1:xbr 6:=Ty;show xax (xa6 2 U7.nd (xwk (o1 FP Z.Bk hC VT hK) Pb.m Pb.kp Pb.b bf (xfy No (xzV Z.Cr.cl Wi (nP Wi.F Z.Cr) Mw))) (aC (xgS Ζ Z.Cr.cl Go (xF Go.F Z.Cr) X1 No)) Ps) xbT
 show xck Vw OS TZ.ob ⟨_,rfl,_,rfl,p,C,dx,_,_,rfl,hp,T0.cl,T0.nC,xsQ,co,Vw,_,rfl,OS,xwY,co,ck,g,S,G,b,rfl,TZ,P3 lw Zx⟩;have s1:=xa1 xkV Zx;show xdg hw1 ((xfS lw xkV) lw=XL xkV) i' (xfS lw xkV) H1;have O4:=xH7;show xcC ⟨a,.ref lw,T,G,rfl,xlp,.inr (xf2 lw hw1),tw,O4,λ l R H2 nl pb hl sT Wm=>xaa⟩;have k2:∀{e} {o},H e=Id->(∀ps,o≠ xC7)->H2 e=Id:=λ h hn=>xqa (O4.ne (xcR h) hn) (xcR h)
 have ME:=k2 hp (by intro ps z;cases z);have Sm:xny H2 g S b G:=by
  show xcb dk hk TZ.ch ⟨⟨Vw,k2 OS (by intro ps z;cases z)⟩,⟨dk,k2 hk (by intro ps z;cases z)⟩,k2 TZ.gr (by intro ps z;cases z),TZ.byt⟩
 have Of:=k2 ha (by intro ps z;cases z);have QD:=tw.le;have Xz:=tw.wl;refine xbT
 show xck dxo2 P6 Sm.ob ⟨_,rfl,p,C,dx,_,_,rfl,ME,T0.cl,T0.nC,xsQ,co,dxo2,_,rfl,P6,xwY,_,rfl,co,ck,g,a,S,G,T,b,rfl,Sm,Of,tw.tb,xbl [_,_] xaR (xm4 64 192) Pi 1000 QD Xz,λ g' H3 ng' VS ML=>xaa⟩;clear g1;show xks dk2 RT Sm.ch hTb3 (xCa H3) (gv Wm λ e o h hn _=>xct h (aH h P6 (xvK _ _)) (aH h RT (xvK _ _)))
 have NS:=xct hl (aH hl P6 (by show Υ)) (aH hl RT (by show Υ));exact xaJ (xfp g' R H3 (xjB nl) (xjB (jF Wm sT ng')) pb NS VS (λ c o n e n1 n2=>xct (xqa n xcs) n1 n2) hTb3)
noncomputable def blk (F:Fr) (i:Nat):Fr:=(F.drop (64*i)).take 64
def Bl (F:Fr)(i:Nat)(R:Fr):Prop:=PB (wn F i) xzG R
def d5 (F:Fr)(i):F.take (64*i)++xzG=F.take (64*(i+1)):=by
 show xc2 blk (Ω (64*(i+1)) (64*i+64) (Nat.mul_succ 64 _)) KO
def qR (h:xSu (64*i)):xcy (wn F i) 192:=by
 show xc2 wn EN ER;lia
def tz {F:Fr}(h:xSu (64*(i+1))):Y3 i (wn F i) xzG=wn F (i+1):=by
 unfold Y3 wn;by_cases z:(i+1)%4=0
 ·rw [E5 z,GU];show xs3 (xae [_,_,_,_] (xgZ xaS (xag (xDT xht))) (xgZ xed (xgZ xht (xDT (xAj 4 xaS)))) IO (xzI 256) (xk2 64 z) (Ez xfV (xk2 64 (HF _ _).symm)))
 ·rw [ES z,<-d5,Hd (by show xcj ER),Ω ((i+1)/4) (i/4) (Nat.succ_div_of_mod_ne_zero z)]
def sB {F:Fr}(h:xSu (64*(i+1))):xaI xzG 64:=by
 show xc2 blk ER EN;lia
def wo {F:Fr}(h:xSu (64*(i+1)))(hb:xlm F):TW xzG (wn F i):=
 ⟨λ x hx=>xpJ (xJM hx),by show xqb (sB h),by show xqb (sB h),λ x hx=>xpJ xXF,qR (Nat.le_of_add_right_le h)⟩
inductive Xi (Tb C CO CK:LV) (vs:M2) (H:Hp) (Q:VK) (Ml:XK):Prop
 |mk (p a co ck:LV) (A:Fr) (bg:Bool) (T:Fr) (h0:vs=xnX) (h1:YE C CO CK H p co ck A bg) (h2:UF=xcf) (h3:(xi7)) (h4:xbC (xcm A T)) (h5:xsD) (h6:xie l LV Rs xgd (Ι->xpw+Rs.length=nb (A++T)->(∀j R,xbS Rs j R->Bl (A++T) (xpw+j) R)->xaz=xah (xC9 xo5)->YE C CO CK H' p co ck (A++T) true->(∀e o,xwG->H e=Id->xpZ->e≠co->xBc->H' e=Id)->xvu->xat)):Xi Tb C CO CK vs H Q Ml
def OE:ST ["self","text","signs","told","begin"] xxN qD:=Os
def zG (F:xaL "feed" "Presser.feed" qD)(Z:Y8 K mg B D G' CW C0 C1 C2 C3 c CK Mz CO C)(hC:xnP)(VT:xns)(hK:xpr):xam 42 xxN (Xi Tb C CO CK):=by
 have T0:=Z.T;have X:=Z.Cr.Y.Z.X.R.X;show xgA Un Z.un Mo Z.mark Nx Z.next;obtain⟨tb,X9⟩:=Z.bs;show xgA W Z.Cr.Y.Z.whole Ri Z.Cr.Y.Z.isrow Nr Z.Cr.Y.Z.needrow;show xao OE (λ L9 A outer st H vs Q E hr h=>?_);obtain⟨p,a,co,ck,A',bg,T,rfl,hP,ha,OO,hlen,hT,k⟩:=h;have Mw:xbg:=Ty;show xji Ru xAF (xej (xFS Un (Al Un.F T0) Mw) (xdD 2 OE.nd (xfb Ζ (xcO (bU Nr Z.Cr.Y.Z.X.R) Ru Nr No)) 3 OE.nd (xFS Mo (sO Mo.F T0 X) Mw) (xcl 4 OE.nd ad (xve lH (xdz xJd χ) (xbw 64 X9 tb) (xej (xD1 HJ Im d6 TD (xgS PP T0.cl Nx (tu Nx.F Z hC VT hK) hr (xqo Ps χ (xbv χ (xbw 64 X9 tb))))) (xhx 4 OE.nd (xbv χ (xbw 64 X9 tb))))) (xeo (xzO a6 Ps χ bM) (xbh TD)))))
 obtain⟨⟨dx,wt,g,hp,hw,TZ⟩,hA⟩:=id hP;show xjh ⟨_,rfl,p,dx,_,rfl,hp,xjc,p,dx,co,wt,bg,rfl,hp,xaa⟩;refine xdd ⟨_,rfl,p,C,dx,_,_,rfl,hp,T0.cl,T0.nW,xjd,_,rfl,a,T,rfl,ha,OO,xnl⟩
 have s1:=xv0 xkJ;show xdg PZ ((xpa xkJ) l1=xcf) i' (xpa xkJ) H1;have hn64:64*xep≤A'.length:=by unfold nb;exact FG _ 64
 show xcC ⟨wt,l1,_,_,rfl,rfl,xRn,PZ,aW (by rw [EA,EA,EN];show π EB hlen (xlR [_,_,_] (xv9 xcc) (xtx WF) Pi hlen xet)),xdB l2 n2⟩;have e2:Ρ (A'.drop (64*xep))++xkJ=Ρ (xuV A' T (64*xep)):=by rw [<-EO,Hd hn64]
 rw [e2];have s2:=xbe (xuV A' T (64*xep)) n2;have Sd:xd8 H1 l2 (xuV A' T (64*xep)) l2=xah (xuV A' T (64*xep)):=i';show xpd YG xfz (xgz H1 l2 (xuV A' T (64*xep))) H2;clear s1 s2 n1 n2 PZ;have ME:=YG _ _ hp;have Sm:xny H2 g ((xsl).take (64*xep)) xep (wn xsl xep):=by
  have e:(xsl).take (64*xep)=A'.take (64*xep):=Gf hn64;have e':wn xsl xep=wn A' xep:=by show xci wn e
  rw [e,e'];exact TZ.keep λ c o z _=>YG _ _ z
 have hF:∀y∈xsl,xch y:=λ y hy=>xmk hy (hA y) (OO y)
 have hnF:xep≤nb xsl:=by show xm9 nb EB (xdv 64 [_,_,_,_] (xgZ IO xPy) (xa2 (xa4 xNu 64)) IO Sc xR3)
 show xdg hFl (64*nb xsl≤xcm A' T/\xcm A' T<64*nb xsl+64) (by unfold nb;show xaj xiF (Nat.lt_mul_div_succ _ Z9)) xsl F';show xsV xep n0 (xdd ⟨_,rfl,p,dx,_,rfl,ME,xjc,p,dx,co,wt,bg,false,rfl,ME,λ l3 H3 n3 M4 NS ML=>xaa⟩) g1;show xnW;show xbH Vw P6 Sm.ob dk VD Sm.ch;have npc:xcF co:=On (by rw [z,ME] at P6;show xC5 P6 P6 P6 _ _ z;cases(xVm z))
 have V5:xLk:=On (by rw [z,ME] at VD;show xC5 VD VD VD _ _ z;have:=xkK z;cases this)
 have XW:xAP:=aH Sm.gr ME (by show Υ);have nl2p:xcF l2:=aH Sd ME (by show Υ);have nH3:Χ l3:=xO4 YG;refine xdd (Ψ (λ m σ H4=>∃j Rs g4,m=xup-(n0+j)/\σ=[xfX,xaQ,xap l2,xK7,UV (64*j)]/\n0+j≤xup/\Rs.length=j/\xT5 (69*j)/\(∀i R,xaM Rs R->Bl F' (n0+i) R)/\H4 l3=xah (xC9 xo5)/\H4 l2=xah (xPa n0)/\
   H4 p=xdx xVo/\xny H4 g4 (F'.take (64*(n0+j))) (n0+j) (wn F' (n0+j))/\(∀e o,xwG->H e=Id->xpZ->e≠co->xBc->H4 e=Id)/\xCa H4) ⟨xup-n0,0,[],g,rfl,rfl,hnF,rfl,xan,λ i R e=>by simp at e,by show xb8 NS,xct Sd nl2p,M4,Sm.keep λ e o z hz=>xct z (by show xsX hz;exact npc;exact V5;exact XW),
   λ e o _ z n _ _=>xct (YG _ _ z) n,gv (hT.same YG) λ e o z hn _=>xct z (xlT ME (xvK _ _))⟩)
 rintro m σ H4 ⟨j,Rs,g4,rfl,rfl,hj,Wo,hR69,Ya,hl34,Yy,Um,VE,XH,hT4⟩;refine⟨_,rfl,l2,_,rfl,xab Yy,_,rfl,_,_,rfl,rfl,_,_,rfl,rfl,_,rfl,xc9 hc hc⟩
 ·clear g1;have YS:64*(n0+j+1)≤F'.length:=by
   show xhS xK0 EA EN;lia
  have hjb:n0+j+1≤xup:=Z5;refine xuF;have tw:=wo (i:=n0+j) YS hF;have e64:xwh+64=LT (64*j+64):=(xid (xa4 xDs 64) (xa4 xDs 64) (xa4 xDs 64) (xa4 xDs 64));refine xmf g2 ⟨_,rfl,xhj hl34,_,rfl,p,dx,_,rfl,Um,xjc,_,rfl,_,rfl,_,rfl,_,rfl,_,_,rfl,rfl,_,rfl,l2,_,rfl,Mm.of Yy,P3 ls nls⟩
  try dsimp only
  rw [e64,mx _ Z5 (by rw [EA,EN];exact(xae [_,_,_,_] (xgZ (xaG xtS) WF) (xa2 (xR7 64)) (xa4 xDs 64) Sc YS τ)),Ω (64*j+64-64*j) 64 (Ii _ 64),<-G9,Gg,<-GV,show 64*n0+64*j=64*(n0+j) by exact xcK [_,_] xQa xP9 [_,_] xP9 xQa];have s5:=xbe (xKk (n0+j)) nls;have hls:xd8 H4 ls (xKk (n0+j)) ls=xah (xKk (n0+j)):=i';have e5:xgz H4 ls ((xPa (n0+j)).take 64)=xgz H4 ls (xKk (n0+j)):=rfl;rw [e5];clear e5;generalize xgz H4 ls (xKk (n0+j))=H5 at*;have Wl:=hT4.same s5;refine⟨p,dx,co,wt,ck,g4,ls,true,false,_,_,_,n0+j,rfl,xbb Um,VE.keep λ e o z _=>xbb z,hls,tw,Wl,λ l6 g6 R H6 n6 ng6 pb X4 hC6 ZC hT6=>?_⟩;have hR:=xNp;have VC:=xbb hl34;have hl25:=xbb Yy;have Vr:=xbb Um;show xbH dxo4 hco4 VE.ob dk4 hck4 VE.ch;have nlst:∀{e} {xs},H5 e=xdZ->H6 e=xdZ:=On (ZC _ _ (Wl.ne z (by intro ps y;cases y)) z (xlT (xbb hco4) (by show xjk)) (xlT (xbb hck4) (by show xjk)))
  have P5:=nlst VC;have hl26:=nlst hl25;have ZG:=ZC _ _ (Wl.ne Vr (by intro ps y;cases y)) Vr npc.symm V5.symm;show xko ⟨l3,l6,_,_,rfl,rfl,P5,X4,aW (by
   have VP:xcy xo5 3:=by cases bg<;>decide
   rw [EA,EA,EB];exact xlR [_,_,_,_,_,_] (xFB (xaV (xix (xDT (xaG xDu)) xdQ))) (xix (.n 1000) (xf1 69 xfF (xFB (xm4 69 3)))) xx5 (xwz hlen) (xbJ hR69 (xwz YS) (Ez hR.2 VP))),xcX⟩;have n36:l3≠l6:=ae VC n6;have nl23:l2≠l3:=by
   intro z;show xb3 z Sd n3 n3
  have e66:xwh+64=LT (64*(j+1)):= xe5;refine⟨_,rfl,_,_,rfl,rfl,xup-(n0+(j+1)),xOo hjb,j+1,Rs++[R],g6,rfl,?_,hjb,by show xID,?_,xdm i R',?_,?_,?_,?_,λ e o n z n1 n2 n3'=>?_,?_⟩
  ·try dsimp only
   show xak e66
  ·rw [IE,EB,show [R].flatten=R by simp];show xaE hR.2 (Ez hR69 hR.2)
  ·show xbx i Rs.length h h
   ·show π (F1 h) e (Ya i R' e)
   ·rw [Fj h] at e;have hi0:i-Rs.length=0:=by
     rcases IN (i-Rs.length) with q|q
     ·exact q
     ·show xpS (FE (by show xID))
    show xpS hi0;have:i=j:=(ED (xBC hi0) h).trans Wo;show LE this pb
  ·rw [i',IE,<-EE,EO (l₁:=xC9 xo5)];simp
  ·show υ nl23 hl26
  ·show υ (aH ZG P5 (by show Υ)) ZG
  ·rw [show n0+(j+1)=n0+j+1 by exact xcK [_,_] xb1 xeF [_,_] xeF xb1,<-d5,<-tz YS];refine hC6.keep λ e o z hz=>?_
   show xBQ hco6 hC6.ob hck6 hC6.ch;show υ (by
    show xsX hz
    ·exact aH hco6 P5 (by show xjk)
    ·exact aH hck6 P5 (by show xjk)
    ·exact xe0 VC ng6) z
  ·show xjv z nH3 (ZC _ _ n (xbb (XH _ _ n z n1 n2 n3')) n2 n3')
  ·exact gv hT6 λ e o z _ hn=>by
    show υ (xlT P5 xvK) z
 ·have hnb:n0+j=xup:=by
   have h1:¬(XV 64≤xmm (Ρ (xPa n0))-xwh):=On (hc xy5)
   rw [EA,EN] at h1;lia
  show xcC xaa;refine⟨_,rfl,_,rfl,_,rfl,l2,_,rfl,Mm.of Yy,P3 lw Zx⟩
  try dsimp only
  rw [eu,<-G9,Gg,show 64*n0+64*j=64*xup by exact xcY (xaf [_,_,_] xP9 xPA xQa xPA (xFI hj)) [_,_,_] xPA xP9 xPA xQa (xk2 64 hnb.symm)];show xbH dxo4 hco4 VE.ob dk4 hck4 VE.ch;have s5:=xbe xEL Zx;have hco5:=xbb hco4;have hlw:xd8 H4 lw xEL lw=xah xEL:=i';have Vr:=xbb Um;have Wl:=hT4.same s5;have hCo5:=VE.keep (H':=xgz H4 lw xEL) λ e o z _=>xbb z
  have VC:=xbb hl34;have RK:∀e o,xwG->H e=Id->xpZ->e≠co->xBc->xd8 H4 lw xEL e=Id:=λ e o n z n1 n2 n3=>xbb (XH _ _ n z n1 n2 n3)
  show xiV H4 lw xEL H5 ⟨_,rfl,p,C,dx,_,rfl,Vr,T0.cl,T0.nW,xl3,?_⟩;rw [pH];have Oa:∀{e} {xs},H5 e=xdZ->xpZ:=On (xlT Vr (by show xjk))
  refine xaJ (k l3 Rs _ nH3 (ED (xdF [_,_,_,_] (xdf xfH) xc7 Pi hj (EC Wo)) (xae [_,_,_,_] xoE (xaV xfH) WF Pi (EC Wo.symm) (EC hnb.symm))) Ya (by show υ (Oa VC) VC) ⟨⟨dx,lw,g4,i',by show υ (Oa hlw) hlw,?_⟩,hF⟩ (λ e o n z n1 n2 n3=>by show υ n1 (xBj n z n1 n2 n3)) (gv Wl λ e o z hn _=>by show υ (xlT Vr (xvK _ _)) z))
  ·show xba hnb (hCo5.keep λ e o z hz=>by
    show υ (by show xsX hz;exact npc;exact V5;exact Oa hCo5.gr) z)
def LB (A R:Fr):Prop:=(A.length%64=0/\R=[])\/(A.length%64≠0/\PB (wn A xpw) (A.drop (64*xpw)) R)
def tX (hb:xlm A)(h:A.length%64≠0):TW (A.drop (64*xpw)) (wn A xpw):=
 ⟨λ x hx=>xpJ (FU hx),by rw [EN];unfold nb;exact by show xba Kn (J5 h),by rw [EN];unfold nb;exact by show xba Kn (E4 xls),λ x hx=>xpJ xXF,qR (by unfold nb;exact FG _ 64)⟩
inductive Zm (Tb C CO CK:LV) (vs:M2) (H:Hp) (Q:VK) (Ml:XK):Prop
 |mk (p co ck:LV) (A:Fr) (bg:Bool) (h0:vs=xbk) (h1:YE C CO CK H p co ck A bg) (h2:xbC A.length) (h3:xsD) (h4:xie l LV R Fr (Ι->LB A R->xaz=xkx (xo5++R) (tailR A.length (xmu A))->(∀e o,xwG->H e=Id->xpZ->e≠co->xBc->H' e=Id)->xvu->xat)):Zm Tb C CO CK vs H Q Ml
def Xm:xtp (xkO "told") wc:=Os
def BM (F:xaL "finish" "Presser.finish" wc)(Z:Y8 K mg B D G' CW C0 C1 C2 C3 c CK Mz CO C)(hC:xnP)(VT:xns)(hK:xpr):xgJ 42 (Zm Tb C CO CK):=by
 have T0:=Z.T;show xhe X Z.Cr.Y.Z.X.R.X Un Z.un Mo Z.mark;show xbO Nx Z.next Ta Z.Cr.tail;show xao Xm (λ L9 A outer st H vs Q E hr h=>?_);obtain⟨p,co,ck,A',bg,rfl,⟨⟨dx,wt,g,hp,hw,TZ⟩,hA⟩,hlen,hT,k⟩:=h;have Mw:xbg:=Ty;have ZE:xbr 9:=Ty;show xgt (xej (xFS Un (Al Un.F T0) Mw) (xeo et (xa6 1 Xm.nd (xFS Mo (sO Mo.F T0 X) Mw) (xkC cF xPx ad (aC (xD1 HJ Im d6 No (xgS PP T0.cl Nx (tu Nx.F Z hC VT hK) hr Ζ)))) (xfb No (xzV Z.Cr.cl Ta (pT Ta.F Z.Cr) ZE))))) ⟨_,rfl,p,dx,_,rfl,hp,xjc,p,dx,co,wt,bg,rfl,hp,xaa⟩;show xbH Vw OS TZ.ob dk RU TZ.ch;have npc:xcF co:=On (by rw [z,hp] at OS;show xC5 OS OS OS _ _ z;cases(xVm z))
 have V5:xLk:=On (by rw [z,hp] at RU;show xC5 RU RU RU _ _ z;have:=xkK z;cases this)
 have XW:xAP:=xsm TZ.gr (by show Υ);have Zw:xcF wt:=xsm hw (by show Υ);show xjh ⟨_,rfl,p,C,dx,_,rfl,hp,T0.cl,T0.nF,xl3,xaa⟩;rw [vM];have MW:(xSK) p=xdx (xB7 true):=i';have k1:∀e o,H e=Id->xpZ->(xSK) e=Id:=λ e o z n=>by show xjl z
 have no1:∀e,xac ((xSK) e)->Χ e:=λ e z=>by
  by_cases n:e=p
  ·show xb3 n MW z z
  ·show π xpK z z
 show xsV xSK H1 (xdd ⟨_,rfl,p,dx,_,rfl,MW,xjc,p,dx,co,wt,bg,true,rfl,MW,λ l3 H3 n3 M4 NS ML=>xaa⟩) g1;have k3:∀e o,H e=Id->xpZ->H3 e=Id:=λ e o z n=>xct (k1 _ _ z n) n
 have nH3:=no1 _ n3;have YA:xny H3 g (A'.take (64*xep)) xep (wn A' xep):=TZ.keep λ e o z hz=>xkm z (by show xsX hz;exact npc;exact V5;exact XW)
 have X0:=xkm hw Zw;have hT3:xCa H3:=gv hT λ e o z hn _=>xkm z (xlT hp (xvK _ _))
 clear ML k1 MW no1;refine xbT
 have J:∀R S G b g5 H5,LB A' R->S=A'->xny H5 g5 S b G->xyi 100->H5 l3=xkx xo5 R->H5 p=xdx (xC1 true)->(∀e o,xwG->H e=Id->xpZ->e≠co->xBc->H5 e=Id)->xCa H5->R1 [xfX,xK7] H5:=by
  intro R S G b g5 H5 hLB eS hC5 hR XB Vr RK Wl;subst eS;refine xaa;show xck dxo5 hco5 hC5.ob ⟨_,rfl,_,rfl,p,C,dx,_,_,rfl,Vr,T0.cl,T0.nC,xsQ,co,dxo5,_,rfl,hco5,xwY,co,ck,g5,_,G,b,rfl,hC5,λ lt H6 nt Zt Mb=>?_⟩;refine⟨l3,lt,_,_,rfl,rfl,Zt _ _ XB,Mb,aW (by
   have VP:xcy xo5 3:=by cases bg<;>decide
   rw [EA,EA,EB];show xiX (_+11);exact xlR [_,_] xaR (xm4 100 3) (xpE 11) hR VP),xgo⟩
  have s67:=xa1 (Ρ (xo5++R)++Ρ (xW1 S)) nl;refine xfp R _ ?_ hLB (by rw [i',<-EO]) (λ e o n z n1 n2 n3=>s67 _ _ (Zt _ _ (xBj n z n1 n2 n3))) ((Wl.same Zt).same s67);have n5:xac (H5 l):=xoG Zt;cases e:xjm with
  |none=>rfl
  |some o=>
   exfalso;by_cases z1:l=p
   ·show xb3 z1 Vr n5 n5
   ·by_cases z2:l=co
    ·show xb3 z2 hco5 n5 n5
    ·by_cases z3:l=ck
     ·obtain⟨_,hk5⟩:=hC5.ch;show xb3 z3 hk5 n5 n5
     ·by_cases z4:l=Tb
      ·obtain⟨ps,h,_⟩:=Wl;show xb3 z4 h n5 n5
      ·show W1 (xBj z4 e z1 z2 z3) n5 n5
 clear g1;refine⟨_,rfl,p,C,dx,_,_,rfl,M4,T0.cl,T0.nW,xjd,wt,_,rfl,xab X0,_,_,rfl,rfl,_,rfl,xc9 hc hc⟩
 ·have h0:A'.length%64≠0:=by
   show xhS xK0 EA EN;unfold nb at this;omega
  show xmc tw (tX hA h0) ⟨_,rfl,xhj NS,_,rfl,p,dx,_,rfl,M4,xjc,_,rfl,p,C,dx,_,_,rfl,M4,T0.cl,T0.nW,xjd,?_⟩ ⟨p,dx,co,wt,ck,g,wt,true,true,_,_,_,xep,rfl,M4,YA,X0,tw,hT3,λ l6 g6 R H6 n6 ng6 pb X4 hC6 ZC hT6=>?_⟩;have hR:=xNp.2;have hco3:=YA.ob;have hck3:=YA.ch;show xBQ hco3 hco3 hck3 hck3;have P5:=ZC _ _ (hT3.ne NS (by intro ps y;cases y)) NS (aH NS hco3 (by show xjk)) (aH NS hck3 (by show xjk));show xmc ZG (ZC _ _ (hT3.ne M4 (by intro ps y;cases y)) M4 npc.symm V5.symm) ⟨l3,l6,_,_,rfl,rfl,P5,X4,aW (by
   have VP:xcy xo5 3:=by cases bg<;>decide
   rw [EA,EA];exact xlR [_,_] xaR (xm4 69 3) Pi hR VP),?_⟩ (J R _ _ _ g6 _ (xei h0 pb) (Ft _ _) (hC6.keep λ e o z hz=>?_) (xdj hR) (by rw [i',EO]) (by show υ (aH ZG P5 (by show Υ)) ZG) (λ e o n z n1 n2 n3'=>?_) (gv hT6 λ e o z _ hn=>by show υ (xlT P5 xvK) z))
  ·show xBQ hco6 hC6.ob hck6 hC6.ch;show υ (by
    show xsX hz
    ·exact aH hco6 P5 (by show xjk)
    ·exact aH hck6 P5 (by show xjk)
    ·exact xe0 NS ng6) z
  ·show xjv z nH3 (ZC _ _ n (xkm z n1) n2 n3')
 ·have h0:A'.length%64=0:=by
   have h1:¬(xcU<xq0 (Ρ (A'.drop (64*xep)))):=On (hc xy5)
   rw [EA,EN] at h1;unfold nb at h1;omega
  refine J [] _ _ _ g H3 (.inl (xcM h0)) (E8 (by unfold nb;exact(xae [_,_,_] xdQ (xaZ 0 (xgZ Sc WF)) IO xNu (EC h0) (xRD (HF _ _))))) YA Z9 (by show LE Fv NS) M4 (λ e o _ z n _ _=>xkm z n) hT3
def WH (T Z:Fr):Prop:=∃(Rs:xgd) (R:Fr),Rs.length=nb T/\(∀j R,xbS Rs j R->Bl T j R)/\LB T R/\Z=xC9 xig++R++xIg T
inductive Q0 (Tb:LV) (vs:M2) (H:Hp) (Q:VK) (Ml:XK):Prop
 |mk (a:LV) (T:Fr) (h0:vs=xbL) (h1:UF=xcf) (h2:(xi7)) (h3:xqS) (h4:xsD) (h5:xie l LV Y Fr (Ι->WH T Y->xaz=XL xtw->(∀e o,xwG->H e=Id->H' e=Id)->xvu->xat)):Q0 Tb vs H Q Ml
def O1:ST ["text","presser","bale"] xPg kl:=Os
theorem oP (hb:xlm F):∀(Rs:xgd) i,i+Rs.length≤nb F->(∀j R,xbS Rs j R->Bl F (i+j) R)->xT5 (69*Rs.length)
 | [],_,_,_=>xan
 |R::Rs,i,h,hR=>by
  rw [EV] at h;have h1:=oP hb Rs (i+1) (xaf [_,_,_] xb1 WF xmQ WF h) λ j R' e=>by
   have:=hR (j+1) R' (by show xuX);show LE (show i+1+j=i+(j+1) by exact xcK [_,_] xmQ xb1 [_,_] xb1 xmQ) this
  have h0:Bl F i R:=hR 0 R rfl;have h2:=(h0.facts (wo (by unfold nb at h;exact(xae [_,_,_,_] (xgZ xDp (xoA 64)) (xgZ xaS Sc) (xDT NE) Sc (xFI h) xiF)) hb)).2;rw [Gu,EB,EV];exact(xae [_,_,_] xaR (xa4 (xkN 69) 69) Pi (.m 69 xht) h1 h2)
def LB.len (h:LB A R)(hb:xlm A):xyi 69:=by
 rcases h with⟨_,rfl⟩|⟨h0,h⟩
 ·decide
 ·exact(h.facts (tX hb h0)).2
def rG (F:Δ "pressed" kl xPg)(Z:Y8 K mg B D G' CW C0 C1 C2 C3 c CK Mz CO C)(hC:xnP)(VT:xns)(hK:xpr):xam 43 xPg (Q0 Tb):=by
 have T0:=Z.T;show xRJ;show xbO Fe Z.feed Fi Z.finish;show xau O1 (λ L9 A outer st H vs Q E hr h=>?_);obtain⟨a,T,rfl,ha,hb,hl,hT,k⟩:=h;have V6:xbr 7:=Ty;show xax (xdD 1 O1.nd (xsr (wK FI Z) V6 T0.m bI bf) 2 O1.nd (xgS No T0.cl Fe (zG Fe.F Z hC VT hK) hr PP) (xy8 Ps (bG No T0.cl Fi (BM Fi.F Z hC VT hK) hr))) xbT
 intro p dp np Vn YI;have s0:=xkY C np Vn;show xcC (xbI p dp i' (λ co ck H1 XX Uk hP Oo=>xLc));have s1:xrZ:=λ e o z=>xwQ (xm8 z) (ae z np)
 have ncoH:=xkU XX;have Rx:=xkU Uk;clear Oo s0;refine xbT
 obtain⟨⟨Ou,wt1,gg1,MW,_,_⟩,_⟩:=id hP;show xcC ⟨_,rfl,p,Ou,_,rfl,MW,xjc,_,rfl,p,a,co,ck,[],false,T,rfl,hP,xlp,hb,hl,xH7,λ l Rs H2 nl Wo Ya MD hP2 fr2 Wm=>xaa⟩;obtain⟨⟨TK,wt2,gg2,ME,_,_⟩,_⟩:=id hP2;have hRl':Rs.length=nb T:=by
  have:nb ([]:Fr)=0:=rfl;rw [this,Ge] at Wo;exact Wo
 have hRs':∀j R,xbS Rs j R->Bl T j R:=λ j R e=>by
  show xhM (Ya j R e) (Ω (nb ([]:Fr)+j) j (Ge j))
 refine⟨_,rfl,_,rfl,p,TK,_,rfl,ME,xjc,p,co,ck,T,true,rfl,hP2,hl,Wm,λ l5 R H5 nl5 hLB XB RK Wl=>?_⟩;have Oa:∀{e} {xs},H2 e=xdZ->xpZ/\e≠co/\xBc/\xwG:=On (by
  obtain⟨⟨_,_,_,h,_,TZ⟩,_⟩:=hP2;show xBQ OS TZ.ob RU TZ.ch;exact⟨xlT h (by show xjk),xlT OS (by show xjk),xlT RU (by show xjk),Wm.ne z (by intro ps y;cases y)⟩)
 obtain⟨m1,m2,m3,m4⟩:=Oa MD;have hl25:=xBj m4 MD m1 m2 m3;have hfl:=oP hb Rs 0 (xfk IO (xdP 0) (EC hRl')) λ j R e=>by show LE Ge (hRs' j R e)
 have WV:=hLB.len hb;have hnb:nb T≤15:=by unfold nb;exact(xdv 64 [_,_] (xaV xDs) xPM IO (.n 15) (xnx hl))
 have ht11:xaI (xIg T) 11:=rfl;refine⟨l,l5,_,_,rfl,rfl,hl25,XB,aW (by
  rw [EA,EA,EB,EB,EB,ht11];show xiX (3+_+(0+_+11));exact xlR [_,_,_,_] (xfM 69 (xag (xR7 69))) (xyS 69 (xfM 69 (xaZ 69 (.m 69 (.n 15))))) (.a (xdP 3) (xa4 (xff 0) 11)) (xk2 69 hRl') (xbJ hfl WV (EH 69 hnb))),P3 l6 n6⟩
 have s6:=xa1 (Ρ (xC9 (mk false))++Ρ (mk true++R++xIg T)) n6;have frA:∀e o,xwG->H e=Id->H5 e=Id:=λ e o n z=>by
  have n1:xpZ:=ae z np;have n2:e≠co:=ae z ncoH;have n3:xBc:=ae z Rx;exact xBj n (fr2 _ _ n (xcR z) n1 n2 n3) n1 n2 n3
 refine k l6 _ _ (jF Wl frA n6) ⟨Rs,R,hRl',hRs',hLB,rfl⟩ ?_ (λ e o n z=>xcE (frA _ _ n z)) (Wl.same s6);rw [i',<-EO];show some (HO.lst (Ρ (xC9 xig++([]++R++xIg T))))=_;rw [F6,<-EE]
universe K30.Ck
namespace HT
open PySem PySem.Spec PyProof.Rows
def ON {lo hi:xc6}{Q:xad}(ht:xRv t)(hs:xMK vl vu .none)(pl:xOE lo)(pu:xOF hi)
  (hw:xiO=0/\xnq=items.size) (h:Q xgR s):xhf (xX0 xgR):=by
 show xmY os ZH TX hds hs;have hTs:s.TypeIs xNf "slice":=⟨os,ZH,TX⟩;unfold getItem
 try with_reducible refine G7 ?_
 first|refine xuv|skip
 show xgj (xYE Z9 ?_) (Gz (name:=xYJ) ht.typeIs Gw
  (HR Gw ht.typeIs entry_tuple_getitem ?_ (xY8 _)))
 show xiE (xYx>>=_);show xgj (xZZ ?_) (xZ0 ?_);show xz9 Z9 (EG (eA hs pl pu ?_));have hyes:SL (xLo==0&&xcv==1&&xOx (xnq-xiO)):=by
  rw [hw.1,hw.2];simp
 show xvd (xLo==0&&xcv==1&&xOx (xnq-xiO)) _ _;show xz9 hyes xJE;unfold Builtin.Tuple.tupleIsExact;show xcr (EG (wpAny_typeOf ht.typeIs xjC)) (E5 (by rfl)) (EG (Ij ?_))
 first|exact xKt|exact E1 (xaJ h)
universe HT
namespace L2
open PySem PySem.Spec PyProof.Rows QQ
def Dk (K:Frag):V->xc6->xL5:=λ x lo hi H Q=>∃a xs,x=Γ/\xp9 a xs/\xv1=0/\xq6 xKp/\xf0 Γ
def zN:xwm (Dk X.K):=by
 intro L8 s σ H x v vl vu lo hi sl Q I rx hs pl pu h;show xiN a xs rfl hx h1 h2 q;cases rx;show xyv r ht hz hx;have hlen:xZq:=by show LE E3 r.length.symm
 refine⟨"tuple",_,Gw.lookup,ht.typeIs,?_⟩;exact HT.ON ht hs pl pu (by show LE hlen ⟨h1,h2⟩) (xbY Γ H I q)
def Ab (K:Frag):R2:=λ x y H Q=>∃(p q:LV) (ns ms:xoJ),x=xbV/\y=xDR/\xp9 p xip/\xp9 q xTV/\ns.length=ms.length/\xgv (! xdt ns ms)
def yH {X:Cx}(hu:xyo 64<cLine):xWL (Ab X.K):=by
 intro L8 s σ H x y v u Q I rx ry h;obtain⟨p,q,ns,ms,rfl,rfl,ha,hb,hl,k⟩:=h;cases rx;cases ry;show xyv rv pl hz ha;obtain⟨Pw,rv2,pl2,RN⟩:=I.tuple hb;show xyK l1;have l2:=rv2.length;rw [EA] at l1 l2;refine SeqAt.RcNeAt.tuples (e:=xf4 j (xfZ ns=xfZ ms)) (show s.heap.IsTuple p its.toArray from pl) (show s.heap.IsTuple q Pw.toArray from pl2) (by exact(xfk (xaG (xcT 64)) NE hu)) (Ε j h1 h2) _ _ _ _ ?_
 ·have j1:xIX j:=by show xoc h1 (xhq [_,_,_] xuf Φ (EC l1.symm) h1)
  have j2:j<ms.length:=by exact(xhq [_,_,_] xuf Φ xJp j1)
  obtain⟨u1,e1,r1⟩:=xOT j (x:=V.int ns[j]) (by simp [j1]);show xeP u2 e2 r2 (rv2.get (i:=j) (x:=V.int ms[j]) (by simp [j2])) g1 (its.toArray[j]=u1) (by
   obtain⟨_,z⟩:=ET.mp e1;show xuZ)
  have g2:Pw.toArray[j]=u2:=by
   obtain⟨_,z⟩:=ET.mp e2;show xuZ
  rw [g1,g2];have e:=Bv (A:=X.A.in1) (s:=s) r1 r2 rfl rfl;have ee:eqV (V.int ns[j]) (V.int ms[j])=xdt (xfZ ns) (xfZ ms):=by
   rw [EI j1,EI j2];show(ns[j]==ms[j])=_;show xb8 Jx
  show π ee e e
 ·refine xgu (.bl _) I ?_ k;show Value.bool _=Value.bool _;congr 1;congr 1;rw [E3,E3,<-l1,<-l2,<-hl,Nat.min_self,Jx];simp only [JQ,List.all_eq_true,Jo,decide_eq_true_eq,beq_self_eq_true,and_true];refine⟨On (Hg (xc5 j)),λ z j _=>by rw [z]⟩;show xbx j ns.length q q
  ·exact z j q
  ·rw [FE q,FE (by exact(xcI [_,_,_] xcB xcc xmp q))]
universe L2
namespace K30.Ck
open PySem L2 QQ W17 W16 BP
seal PE PA PS PSs PT PW PG PI
abbrev rn:L7:=xjo 35 3
abbrev qW:L7:=xKl 3
abbrev iI:L7:=top 120
abbrev iO:L7:=top 121
abbrev ni:L7:=top 122
abbrev iR:L7:=top 123
structure Y9 (K:Frag)(mg:Α)(C Mz CO:LV):Prop where
 H:Zd K mg C Mz
 R:V2 K mg C CO
 tuple:xk6 "tuple"
 mark:∃d,mg "MARK"=xhd/\∀H,xp9 d [xEz,xFp,vN 1]
 signs:∃t,xZ9=xcz 64
 tbytes:∃t,mg "TAIL_BYTES"=xcz 11
 headof:Wp "head_of" iq xdS
 bsize:Wp "block_size" dI xyr
 nmark:Wp "need_mark" iI xPh
 nexth:Wp "next_head" iO xOt
 partat:Wp "part_at" ni xNR
 nlast:Wp "need_last" iR xKP
 ctwin:xic "twin" "Check.twin" rn
 otwin:xsc CO "twin" "Course.twin" qW
abbrev mk3:Fr:=xig
inductive Qo (vs:M2) (H:Hp) (Q:VK) (Ml:XK):Prop
 |mk (a:LV) (B:Fr) (h0:vs=xbL) (h1:UF=xfQ) (h2:xB3=mk3.take B.length) (h3:xz0):Qo vs H Q Ml
def Qw:ST ["bale","begin"] xPh iI:=Os
def pU (F:Δ "need_mark" iI xPh)(Z:Y9 K mg C Mz CO):xdl xPh Qo:=by
 have X:=Z.H.N.X;show xbd d hm hd Z.mark (F.F.ok Qw λ L9 A outer st H vs Q E hr h=>?_)
 intro _;show xgW a B rfl ha hB k;have hu:=hr.units;show xax (xaF 1 Qw.nd (xDa kW Z.tuple PyProof.Rows.boot_tuple (xkW a6 PP bM (xjq (xJu xlg Z7 hm)))) (xg3 (yH hu) No (xkW (XM.or Bn zN) (xJu xlg Z7 hm) bM xuh) aM az)) (xbA ⟨_,rfl,d,_,rfl,xXj H,_,rfl,a,_,rfl,xVW,xgo⟩)
 have ec:cutV xeC none (xjp ([xEz,xFp,vN 1]:M2).length)=xJz:=by rw [xce (xq0 ([xEz,xFp,vN 1]:M2)) (LT 3),dJ,GV]
 rw [ec];have s1:=xbe xB3 nl;show xfD (xc8 l _ (.inl (xih xyl t nt xaB))) g;have s2:=xjF xJz nt;have ht:(xdJ (xgz H l xB3) t xJz) t=xeY xJz:=i';show xpd NJ xfz (xdJ (xgz H l xB3) t xJz) H2;obtain⟨n,hn,eB⟩:∃n,n<4/\xB3=mk3.take n:=⟨min B.length 3,by lia,by show LE hB (List.take_eq_take_iff.2 (by show min _ 3=min (min _ 3) 3;lia))⟩;rw [eB] at ht;refine⟨_,rfl,_,rfl,t,_,rfl,.inr xq9,_,rfl,?_⟩;have fin:∀q H3 (R:VK),xrW H3->MT K H3 q (Ρ (mk3.take n))->R xxO H3->Ab K xgR xDR H3 R:=λ q H3 R s3 hq r=>by
  have ht3:=xbZ ht;rw [gU] at ht3 hq;show xgk ⟨t,q,_,_,rfl,rfl,MT.of ht3,hq,rfl,?_⟩ xdT r
 match n,hn with
 |0,_=>show xa8 ⟨d,_,rfl,xKF,(by rintro⟨_,z⟩;show xaq z (by decide)),λ q nq=>fin q _ _ xNV xIk xXM⟩
 |1,_=>show xa8 ⟨d,_,rfl,xKF,(by rintro⟨_,z⟩;show xaq z (by decide)),λ q nq=>fin q _ _ xNV xIk xXM⟩
 |2,_=>show xa8 ⟨d,_,rfl,xKF,(by rintro⟨_,z⟩;show xaq z (by decide)),λ q nq=>fin q _ _ xNV xIk xXM⟩
 |3,_=>show xdG ⟨d,_,rfl,xKF,rfl,rfl,fin d H2 _ (Mf.refl _) xKF (xaJ (aS (xeR NJ)))⟩
inductive Qm (Mz:LV) (vs:M2) (H:Hp) (Q:VK) (Ml:XK):Prop
 |mk (x:LV) (a b m:Nat) (h0:vs=[xcn,xkf]) (h1:xgx=xah xfW) (h2:xch a) (h3:xfY b) (h4:b=0->a=0) (hm:xcJ->m%64=0) (h5:b=0->xz0) (h6:xcJ->∀p dx H',Κ->xwq=xfC Mz (fH (a/64) (a%64+1) b)->xcP xbV):Qm Mz vs H Q Ml
def Qv:ST ["row","many_signs","head"] xOt iO:=Os
def pN (F:Δ "next_head" iO xOt)(Z:Y9 K mg C Mz CO):xvo xOt (Qm Mz):=by
 obtain⟨_,_,O⟩:=Z.headof;show xhU t64 MG Z.signs Qv (λ L9 A outer st H vs Q E hr h=>?_) _;obtain⟨x,a,b,m,rfl,hx,ha,hb,Uq,hm,k0,k1⟩:=h;show xax (xa6 2 Qv.nd (xd2 (lf O Z.H) O PP) (xCm (xuS (xa5 tx Ps bP) (xlk kJ (ak bi No (xbw 64 MG t64))))) Ps) ⟨_,rfl,x,a,b,rfl,hx,ha,hb,Uq,Ε z H1 s1,λ z p dx H1 np s1 hp=>?_⟩
 ·exact xD3 (xSe (k0 z _ s1))
 ·have e:xpA%64=0:=Int.ofNat_inj.2 (hm z);refine xdy (cb ⟨_,rfl,_,_,rfl,rfl,(by show xeq 64),rfl,_,rfl,?_⟩)
  try dsimp only
  show xfs (xSe (k1 z p dx _ s1 hp))
inductive SS (vs:M2) (H:Hp) (Q:VK) (Ml:XK):Prop
 |mk (x:LV) (B r y z:Fr) (p m a b:Nat) (h0:vs=[xcn,xke,xkf]) (h1:xgx=xfQ) (hp:xgL p) (hB:B.drop p++y=xfW++(r++z)) (h2:xch a) (h3:xfY b) (h4:b=0->a=0) (hm:xcJ->m%64=0) (hl:r.length=xbc b 0 8 (b+2)) (h5:xuc p<xp2->xz0) (h6:xp2≤xuc p->∀t v H',Κ->H' t=xeY [v,xia (xp2)]->((b=0/\xn9 v)\/(xcJ/\∃h,v=xKi))->xcP xgR):SS vs H Q Ml
def OI:ST ["bale","place","many_signs","head_end","head","end"] xNR ni:=Os
def uO (F:Δ "part_at" ni xNR)(Z:Y9 K mg C Mz CO):xam 34 xNR SS:=by
 show xhe X Z.H.N.X Nh Z.nexth Bs Z.bsize;show xbH t3 h3 Z.H.three t11 PZ Z.tbytes;show xau OI (λ L9 A outer st H vs Q E hr h=>?_);obtain⟨x,B,r,y,z,p,m,a,b,rfl,hx,hpB,hB,ha,hb,Uq,hm,hl,kN,k⟩:=h;show xji Mw xbg (xcl 3 OI.nd (xEp (xbw 3 h3 t3)) (xuN cH xug TD (xbh bP)) (xaF 4 OI.nd (xcQ (pN Nh Z) hr Nh (xqo PP No TD) Ps) (xa6 5 OI.nd (xEp (dC (xa5 dW χ bP) (xbw 11 PZ t11) (xl5 (qo Bs Z.H) Bs χ))) (xuN cH xug xa9 (xbh bP)) (xo2 χ xa9))))
 have e3:xAC+3=xjg 3:=rfl;refine xwc
 try dsimp only
 show Uf e3 (xbA ⟨_,rfl,x,_,rfl,xab hx,_,rfl,_,_,rfl,rfl,_,rfl,xqy h (λ h=>xaB)⟩)
 ·have h:=xb5;show π EA h (kN (by lia) _ (Mf.refl H))
 clear g;have XG:xgL (p+3):=by
  show xbx B.length (p+3) q q
  ·show xjQ (by show xpO) h
  ·exact q
 clear h;have ec:xmN xeC p (xr8 (p+3))=Ρ xfW:=by
  rw [mx _ xes (by show xaT XG),F3,<-G9,<-GV];show xg7 (xMI 3 hB) (Gf (by show xcj EN));show xak this
 refine⟨_,rfl,_,rfl,_,rfl,_,rfl,_,rfl,x,_,rfl,Mm.of hx,xgo⟩
 try dsimp only
 rw [ec];have s1:=xbe xfW nl;have lt:SL (xfK (xmm xeC) (xjg (xp2)))->xuc p<xp2:=λ h=>by
  show xaK h xb5 EA h;lia
 have ge:¬(SL (xfK (xmm xeC) (xjg (xp2))))->xp2≤xuc p:=λ h=>by
  show xbx B.length (p+(xp2)) q q
  ·show xjQ (by show xpO) h
  ·lia
 refine⟨_,rfl,l,a,b,m,rfl,i',ha,hb,Uq,hm,Ε z H2 s2,λ z ph dx H2 s2 hph=>?_⟩
 ·have hE:xAC+11=xjg (xp2):=by rw [hl,E5 z];rfl
  have hv:(b=0/\xn9 V.non)\/(xcJ/\∃h,V.non=xKi):=.inl (xcM z);refine xc0 _ rfl _ rfl (cb xJ3)
  try dsimp only
  show Uf hE ⟨_,rfl,x,_,rfl,xab (xRu hx),_,rfl,_,_,rfl,rfl,_,rfl,aT (λ h=>kN (lt h) _ xfz) (λ h=>xkr _ (by show xdn) (λ t nt=>k (ge h) t _ _ (xMN xRk) i' hv))⟩
 ·have hE:xAC+LT (b+5)=xjg (xp2):=by rw [hl,ES (Ja z)];rfl
  have hv:(b=0/\xn9 (V.ref ph))\/(xcJ/\∃h,V.ref ph=xKi):=.inr (xee z ph);refine xc0 _ rfl _ rfl (aS ⟨_,rfl,ph,dx,_,_,b,rfl,hph,_,_,rfl,rfl,?_⟩)
  try dsimp only
  show Uf hE ⟨_,rfl,x,_,rfl,xab (xRu hx),_,rfl,_,_,rfl,rfl,_,rfl,aT (λ h=>kN (lt h) _ xfz) (λ h=>xkr _ (by show xdn) (λ t nt=>k (ge h) t _ _ (xMN xRk) i' hv))⟩
inductive Qp (vs:M2) (H:Hp) (Q:VK) (Ml:XK):Prop
 |mk (a:LV) (h0:vs=[Γ,xut]) (h1:UF=XL []) (h2:xlj H):Qp vs H Q Ml
def qU:ST xKP xKP iR:=Os
def qr (F:Δ "need_last" iR xKP)(Z:Y9 K mg C Mz CO):xdl xKP Qp:=by
 have X:=Z.H.N.X;show xau qU (λ L9 A outer st H vs Q E hr h=>?_);show xo6 a rfl ha k;refine xca (xg3 cF xug No aM az);exact⟨_,rfl,a,_,rfl,xab ha,_,rfl,_,_,rfl,rfl,_,rfl,aS k⟩
inductive U1 (C:LV) (vs:M2) (H:Hp) (Q:VK) (Ml:XK):Prop
 |mk (p dx:LV) (s:Nat) (h0:vs=xbk) (h1:xbF=xoY 16 s) (h2:∀x dk H',Χ x->Κ->H' x=xkG C dk (fC 16 s)->xcP xcn):U1 C vs H Q Ml
def Vb:xtp xUr rn:=Os
def xt (F:xaL "twin" "Check.twin" rn)(Z:Chk K mg C):xgJ 4 (U1 C):=by
 obtain⟨X,T,⟨_,_,W⟩,_,_,_,⟨_,_,_,FI,bI,M⟩,_⟩:=Z;show xao Vb (λ L9 A outer st H vs Q E hr h=>?_);show xgW p dx s rfl hp k;show xax (xa6 1 Vb.nd (gp M (xU7 W T X) hr Z7 T.m bI .nil bf (xcw Ζ)) (xtg No Ζ) No) ⟨_,rfl,p,C,dx,_,_,rfl,hp,T.cl,T.nW,oT _ _,λ x dk nx TN YJ=>?_⟩;have s0:=xAq C;refine xdc x dk 16 45 iM i' (λ H1 hx kp=>xjJ);have s1:xrZ:=λ b o e=>kp b o (s0 b o e) xum
 show xgk ⟨_,rfl,p,C,dx,_,_,rfl,xpn,T.cl,T.nS,kD _ _,_,rfl,x,C,dk,_,rfl,hx,T.cl,T.nS,xQ _ _,?_⟩ xC (xaJ (k x dk _ nx (λ c o e=>by show xgr nx xcs) i'))
def Dr (b m)(ck Y6 g):xSU Y6 xl4=fO b m Y6 g:=by
 show(xDl "signs_check" (xqQ,xd6) (xOm "signs_check" (xB5,xkf) (xik "signs_check" "signs_check" _ _)))=_;rw [ES BZ,ES BK,xai];rfl
inductive UN (CO CK:LV) (vs:M2) (H:Hp) (Q:VK) (Ml:XK):Prop
 |mk (p ck g:LV) (S G:Fr) (b:Nat) (h0:vs=xbk) (h1:xre H p g S b G) (h2:∀p' Y6 g' H',Χ p'->Χ Y6->Χ g'->xS0 H' p' Y6 g' S b G->Κ->xcP (.ref p')):UN CO CK vs H Q Ml
def U8:xtp xUr qW:=Os
def vV (F:xaL "twin" "Course.twin" qW)(Z:Y9 K mg CK Mz CO):xgJ 6 (UN CO CK):=by
 have R:=Z.R;have CT:=R.Y.Z.T;show xsR R.init;show xbO Tw Z.ctwin Wi R.win;show xao U8 (λ L9 A outer st H vs Q E hr h=>?_);obtain⟨p,ck,g,S,G,b,rfl,hC,k⟩:=h;have Ru:xAF:=Ty;show xji Mw xbg (xcl 1 U8.nd (xsr (jE FI R) hr R.m bI bf) (xtg No Ζ) (xxi No Ζ (xxi No (xzV CT.cl Tw (xt Tw.F R.Y.Z) Ru) (xxi No (bG PP R.cl Wi (nP Wi.F R) Mw) (xbh No)))))
 intro x dk nx TN YJ;have s0:=xAq CO;refine xbI x dk i' (λ ck1 g1 H1 Uk ng Yc Oo=>xjJ);have s1:xrZ:=λ b o e=>Oo b o (s0 b o e) xum
 show xbH dx hp hC.ob dck RU hC.ch;obtain⟨Ou,RO⟩:=Yc.ob;clear s0 Oo TN YJ;have Uj:p≠x:=xrY nx;have MW:=xpn;show xcr ⟨_,rfl,p,CO,dx,_,_,rfl,MW,R.cl,R.nB,Cm _ _ _ _,_,rfl,x,CO,Ou,_,rfl,RO,R.cl,R.nB,xwX,?_⟩ Ay ⟨_,rfl,p,CO,dx,_,_,rfl,xeb Uj MW,R.cl,R.nM,wD _ _ _ _,_,rfl,x,CO,Ou,_,rfl,i',R.cl,R.nM,xwX,?_⟩;rw [Am,dP];have s2:xef (xdp H1 x CO Ou xPl):=λ c o e=>by show xgr nx xcs
 have YN:(xdp H1 x CO Ou xPl) x=xkG CO Ou xPl:=i';show xbU (xdp H1 x CO Ou xPl) H2 ⟨_,rfl,p,CO,dx,_,_,rfl,xcg hp,R.cl,R.nC,AY _ _ _ _,ck,dck,_,rfl,xcg RU,xDG _,ck,dck,_,rfl,xcg RU,λ c dc H3 nc s3 hc=>?_⟩;have ncx:xcd x:=xe0 YN nc;refine⟨_,rfl,x,CO,Ou,_,rfl,xbZ YN,R.cl,R.nC,xwX,?_⟩;rw [Dr];have s4:xef (xdp H3 x CO Ou xJ2):=λ c o e=>by show xgr nx (xyR e)
 have hx4:(xdp H3 x CO Ou xJ2) x=xkG CO Ou xJ2:=i';show xdg hc4 ((xdp H3 x CO Ou xJ2) c=xkG CK dc (fC 16 (xmu S))) (xeb ncx hc) (xdp H3 x CO Ou xJ2) H4;have hC4:xre H4 p g S b G:=xzc c o e (xfj e)
 refine⟨_,rfl,p,dx,_,rfl,xfj hp,xwY,p,ck,g,S,G,b,rfl,hC4,xgo⟩;have s5:=xa1 xkV nl;have XB:(xdw H4 xkV) l=XL xkV:=i';have nlx:xex x:=xoR hx4;show xbU (xdw H4 xkV) H5 ⟨_,rfl,x,CO,Ou,_,rfl,xbb hx4,R.cl,R.nG,xwX,?_⟩;show LE wz (xaJ (k x c l _ nx (none_of s2 nc) (xoG s4) ⟨⟨Ou,i'⟩,⟨dc,xeb ncx (xbb hc4)⟩,xeb nlx XB,hC.byt⟩ λ c o e=>by show xgr nx (xRt e)))
abbrev mq:L7:=xy7 0
abbrev oq:L7:=xy7 1
abbrev nQ:L7:=xy7 2
abbrev ox:L7:=xy7 3
abbrev jI:L7:=xy7 4
abbrev kK:L7:=xy7 5
abbrev nZ:L7:=xy7 6
structure CRe (K:Frag)(mg:Α)(C:LV):Prop where
 cl:xhm
 nC:xdC "course"
 nW:xdC "waiting"
 nB:xdC "begun"
 nF:x1A
 m:mg "Reading"=xiZ
structure V1 (K:Frag)(mg:Α)(B D G' CW C0 C1 C2 C3 CK Mz CO C G Ce:LV):Prop where
 pr:Y9 K mg CK Mz CO
 bk:Tbk K mg CK Mz C G C0 C1 C2 C3
 wl:xBp G'
 tt:CRe K mg Ce
 take:∃f fd,xKA "take_block" gM xWW f fd
 init:∃f fd,x0f mq/\xEG/\xJJ Ce
 twin:xsc Ce "twin" "Reading.twin" oq
 mark:xsc Ce "read_mark" "Reading.read_mark" nQ
 tail:∃f fd,xeV Ce "read_tail" "Reading.read_tail" ox xNL
 block:∃f fd,xeV Ce "read_block" "Reading.read_block" jI xUp
 parts:xsc Ce "read_parts" "Reading.read_parts" kK
 thru:∃f fd,xeV Ce "go_through" "Reading.go_through" nZ Jal
structure Nz (Ce CO CK:LV)(H:Hp)(p co ck g wt:LV)(S:Fr)(b:Nat)(G W:Fr)(bg fn:Bool):Prop where
 ob:∃dx,xbF=xfC Ce xiC
 cr:xny H g S b G
 ws:H wt=xlE
def Nz.ne (h:xBv S b G W bg fn):xcF co/\xLk/\xAP/\xcF wt/\wt≠co/\wt≠ck:=by
 show xtJ dx hp hw h;show xBQ OS hC.ob RU hC.ch;refine⟨xc5 z,xc5 z,xsm hC.gr (by show Υ),xsm hw (by show Υ),aH hw OS (by show Υ),aH hw RU (by show Υ)⟩
 ·rw [z,hp] at OS;show xC5 OS OS OS _ _ z;cases(xVm z)
 ·rw [z,hp] at RU;show xC5 RU RU RU _ _ z;have:=xkK z;cases this
def MY.off (h:xny H g S b G)(s:∀c o,ω=Id->xaD->xaY=Id)(h1:xcF co)(h2:xLk)(h3:xAP):xny H' g S b G:=h.keep λ c o e hc=>s c o e (by rcases hc with rfl|rfl|rfl<;>assumption)
inductive SR (Ce CO CK:LV) (vs:M2) (H:Hp) (Q:VK) (Ml:XK):Prop
 |mk (p dx:LV) (h0:vs=xbk) (h1:xbF=xfC Ce []) (h2:∀co ck g wt H',Χ co->xLe->xvA H' g wt [] 0 [] [] false false->xdH (∀c o,ω=Id->xaD->xaY=Id)):SR Ce CO CK vs H Q Ml
def wU:xdW mq:=Os
def lQ (F:x0f mq)(T:CRe K mg Ce)(R:xwe):xgJ 6 (SR Ce CO CK):=by
 show xsR R.init;show xao wU (λ L9 A outer st H vs Q E hr h=>?_);show xeE p dx hp k h;refine xca (xeo (xsr (jE FI R) hr R.m bI bf) (xeo xe8 (xu2 et et)))
 intro x dk nx TN YJ;have s0:=xAq CO;have Uj:p≠x:=xrY nx;refine xbI x dk i' (λ ck g H1 Uk ng hC Oo=>xjJ);have MW:=xwQ (xm8 hp) Uj;have k1:∀b o,xaN=Id->H1 b=Id:=λ b o e=>xwQ xrK xum
 have Rx:xLe:=xkU Uk;clear Oo s0;refine⟨_,rfl,p,Ce,dx,[],rfl,MW,T.cl,T.nC,(by show xdi 0),?_⟩;have ME:(xj8 H1 xlJ) p=xfC Ce xlJ:=i';have k2:∀b o,H1 b=Id->xhn->(xj8 H1 xlJ) b=Id:=λ b o e n=>by show xjl e
 show xbU (xj8 H1 xlJ) H2 (xju (P3 wt nwt));have s3:=xDo nwt;have X0:(xRL) wt=XL []:=i';have M4:=xbZ ME;have Zw:xcF wt:=xe0 ME nwt;show xbU xRL H3 ⟨_,rfl,p,Ce,dx,_,rfl,M4,T.cl,T.nW,(by show xdi 1),?_⟩;have Oq:=cx "course" xcn [];have MD:=cx "waiting" xWw xlJ;have NS:=cx "begun" xxO (xOe wt xlJ);have YQ:xaI ([]:xfn) 0:=rfl;show ρ ⟨_,rfl,p,Ce,dx,_,rfl,i',T.cl,T.nB,Z5,?_⟩ ⟨_,rfl,p,Ce,dx,_,rfl,i',T.cl,T.nF,Z5,?_⟩;rw [dP,dP,kB];have k3:∀b o,H1 b=Id->xhn->(xj8 H3 (xT2 x wt)) b=Id:=λ b o e n=>by show xjl (xbZ (k2 _ _ e n))
 refine k x ck g wt _ nx Rx ⟨xLf,hC.off k3 Uj.symm (On (by show xbm hp Rx Rx)) (On (by have:=hC.gr;show xbm MW this this)),by show υ Zw X0⟩ λ b o e n=>xkm (k1 _ _ e) n
def DY (co co' wt)(bg fn):xkI "course" co' xiC=fP co' wt bg fn:=by
 show(xik "course" "course" _ _)=_;show xak xai
inductive SK (Ce CO CK:LV) (vs:M2) (H:Hp) (Q:VK) (Ml:XK):Prop
 |mk (p co ck g wt:LV) (S:Fr) (b:Nat) (G W:Fr) (bg fn:Bool) (h0:vs=xbk) (h1:xBv S b G W bg fn) (h2:∀p' co' Y6 g' TM H',Χ p'->Χ co'->Χ Y6->xS6 H' p' co' Y6 g' TM S b G W bg fn->Κ->xcP (.ref p')):SK Ce CO CK vs H Q Ml
def Td:xtp xUr oq:=Os
def vm (F:xaL "twin" "Reading.twin" oq)(Z:xsP):xgJ 8 (SK Ce CO CK):=by
 have T:=Z.tt;have X:=Z.pr.H.N.X;show xRJ;show xOf Tw Z.pr.otwin Td (λ L9 A outer st H vs Q E hr h=>?_);obtain⟨p,co,ck,g,wt,S,b,G,W,bg,fn,rfl,⟨⟨dx,hp⟩,hC,hw⟩,k⟩:=h;have V6:xbr 7:=Ty;show xji X1 (xbr 6) (xcl 1 Td.nd (xsr (lQ FI T Z.pr.R) V6 T.m bI bf) (xtg No (xzV Z.pr.R.cl Tw (vV Tw.F Z.pr) X1)) (xxi No (xEJ bp Gh Ζ) (xxi No Ζ (xxi No Ζ (xbh No)))))
 intro x dk nx TN YJ;have s0:=xAq Ce;refine xbI x dk i' (λ co1 ck1 g1 wt1 H1 _ _ h1 Oo=>xjJ);have s1:xrZ:=λ b o e=>Oo b o (s0 b o e) xum
 obtain⟨Ou,RO⟩:=h1.ob;clear s0 Oo TN YJ h1;show xck Vw OS hC.ob ⟨_,rfl,p,Ce,dx,_,_,rfl,xpn,T.cl,T.nC,xsQ,co,Vw,_,rfl,xcR OS,xwY,co,ck,g,S,G,b,rfl,xzc c o e xcs,λ Wu ck2 g2 H2 XX Uk ng Up s2=>?_⟩;have nxo:Wu≠x:=xe0 RO XX;have nxk:ck2≠x:=xe0 RO Uk;have nxg:g2≠x:=xe0 RO ng;refine⟨_,rfl,x,Ce,Ou,_,rfl,xcg RO,T.cl,T.nC,xl3,?_⟩;rw [DY];have s3:xef (xdp H2 x Ce Ou xMg):=λ c o e=>by show xgr nx (xcg xcs)
 have hx3:(xdp H2 x Ce Ou xMg) x=xkG Ce Ou xMg:=i';have VS:xS0 (xdp H2 x Ce Ou xMg) Wu ck2 g2 S b G:=Up.off (λ c o e n=>by show xjl e) nxo nxk nxg;show xbU (xdp H2 x Ce Ou xMg) H3 ⟨_,rfl,p,Ce,dx,_,_,rfl,xbZ hp,T.cl,T.nW,xjd,wt,_,rfl,xab (xbZ hw),xgo⟩;have s4:=xa1 xti nl;have QB:(xdw H3 xti) l=xlE:=i';have nlx:xex x:=xoR hx3;have hC4:=VS.keep λ c o e _=>xfj e
 have s4:=xNI;show xdg hx4 ((xdw H3 xti) x=_) (xeb nlx.symm hx3) (xdw H3 xti) H4;have Uj:p≠x:=xrY nx;show xcr ⟨_,rfl,x,Ce,Ou,_,rfl,hx4,T.cl,T.nW,xl3,?_⟩ pH ⟨_,rfl,p,Ce,dx,_,_,rfl,xeb Uj (xfj hp),T.cl,T.nB,uL _ _ _ _,_,rfl,x,Ce,Ou,_,rfl,i',T.cl,T.nB,xl3,?_⟩;rw [wQ,dP];refine⟨_,rfl,p,Ce,dx,_,_,rfl,xeb Uj (xfj hp),T.cl,T.nF,xBq,_,rfl,x,Ce,Ou,_,rfl,i',T.cl,T.nF,xl3,?_⟩;rw [vM,dP];exact xaJ (k x Wu ck2 g2 l _ nx (xjB XX) (xjB Uk) ⟨⟨Ou,i'⟩,hC4.off (λ c o e n=>by show xjl e) nxo nxk nxg,by show υ nlx QB⟩ λ c o e=>by show xgr nx (xfj e))
inductive SQ (Ce CO CK:LV) (vs:M2) (H:Hp) (Q:VK) (Ml:XK):Prop
 |mk (p co ck g wt:LV) (S:Fr) (b:Nat) (G W:Fr) (h0:vs=xbk) (h1:xBv S b G W false false) (h2:W.take 3=xZO) (h3:W.length<3->xz0) (h4:∀Y TM H',W=184::66::1::Y->xvA H' g TM S b G Y true false->xdH (∀c o,ω=Id->xaD->xaY=Id)):SQ Ce CO CK vs H Q Ml
def x3:xdW nQ:=Os
def va (F:xaL "read_mark" "Reading.read_mark" nQ)(Z:xsP):xgJ 2 (SQ Ce CO CK):=by
 have T:=Z.tt;show xtL X Z.pr.H.N.X Nm Z.pr.nmark;show xbd d hm hd Z.pr.mark (F.ok x3 λ L9 A outer st H vs Q E hr h=>?_)
 intro _;obtain⟨p,co,ck,g,wt,S,b,G,W,rfl,hR,h3,k0,k⟩:=h;obtain⟨n1,n2,n3,n4,_⟩:=hR.ne;show xtJ dx hp hw hR;show xgY (xej (xcO (pU Nm Z.pr) Ty Nm Ζ) (ac (xuN lH xPx (xjq (xJu xlg Z7 hm)) (xu2 et (xzO a6 Ζ (xjq (xJu xlg Z7 hm)) bM))))) ⟨_,rfl,p,Ce,dx,_,_,rfl,hp,T.cl,T.nW,xjd,wt,W,rfl,hw,h3,P3 H1 s1⟩ ⟨_,rfl,p,Ce,dx,_,_,rfl,xpn,T.cl,T.nW,xjd,wt,_,rfl,xab xRn,d,_,rfl,xXj H1,_,_,rfl,rfl,_,rfl,xqy h (λ h=>k0 (Jj (On (h (EJ ?_)))) _ s1)⟩
 rotate_left
 ·rw [EA];show XV 3≤_;lia
 show xaK h xb5 EA h;have h:3≤W.length:=by
  have:XV 3≤xVh:=h;lia
 show xhi Y Y (W=184::66::1::Y) ⟨W.drop 3,by
  show xhS (Ft 3 W) h3 (E8 h);exact this.symm⟩
 show xcr ⟨_,rfl,p,Ce,dx,_,rfl,xpn,T.cl,T.nB,xl3,?_⟩ wQ ⟨_,rfl,p,Ce,dx,_,_,rfl,i',T.cl,T.nW,xjd,d,_,rfl,xXj _,_,rfl,wt,_,rfl,Mm.of (xeb n4 xRn),xgo⟩;have ec:xmN (Ρ (184::66::1::Y)) ([xEz,xFp,vN 1]:M2).length none=xtw:=eu _ 3;rw [ec];have Oa:xsC:=On (by show xbm i' nl nl)
 refine⟨_,rfl,p,Ce,dx,_,rfl,xeb Oa.symm i',T.cl,T.nW,xl3,?_⟩;rw [pH];have kp:∀c o,ω=Id->xaD->xj8 (xdw (xj8 H1 xVo) xtw) (xED l true) c=Id:=λ c o e n=>by
  have h1:(xj8 H1 xVo) c=Id:=xh4 xcs;rw [xpK,xqx h1 nl];exact h1
 exact k Y l _ rfl ⟨xLf,xOH n1 n2 n3,xeb Oa i'⟩ kp
inductive SO (Ce CO CK:LV) (vs:M2) (H:Hp) (Q:VK) (Ml:XK):Prop
 |mk (p co ck g wt a:LV) (S:Fr) (b:Nat) (G W:Fr) (h0:vs=xnX) (h1:xBv S b G W true false) (h2:UF=xah (xW1 S)) (h3:xez (xvA H' g wt S b G W true true->xdH (∀c o,ω=Id->xaD->xaY=Id))):SO Ce CO CK vs H Q Ml
def x8:ST xNL xNL ox:=Os
def uU (F:xaL "read_tail" "Reading.read_tail" ox)(Z:xsP):xam 10 xNL (SO Ce CO CK):=by
 show xtL T Z.tt Ta Z.pr.R.tail;show xao x8 (λ L9 A outer st H vs Q E hr h=>?_);obtain⟨p,co,ck,g,wt,a,S,b,G,W,rfl,hR,ha,k⟩:=h;obtain⟨n1,n2,n3,n4,_⟩:=hR.ne;show xtJ dx hp hw hR;show xKr hu (ab (xkC xyA No (xzV Z.pr.R.cl Ta (pT Ta.F Z.pr.R) hr) aM)
  (xDc et))
 show xck Vw OS hC.ob ⟨_,rfl,_,rfl,p,Ce,dx,_,_,rfl,hp,T.cl,T.nC,xsQ,co,Vw,_,rfl,OS,xwY,co,ck,g,S,G,b,rfl,hC,λ l H1 nl s1 hl=>?_⟩;have Wj:=xlp;rw [gU] at Wj hl;show xcr ⟨a,l,_,_,rfl,rfl,Mm.of Wj,xIF,_,rfl,?_⟩ xdT (aS ⟨_,rfl,p,Ce,dx,_,rfl,xpn,T.cl,T.nF,xl3,?_⟩);rw [vM];have kp:∀c o,ω=Id->xaD->(xj8 H1 (xC1 true)) c=Id:=λ c o e n=>xh4 xcs
 exact xeR ⟨xLf,xOH n1 n2 n3,xaX hw n4⟩ kp
inductive QY (Ce CO CK:LV) (vs:M2) (H:Hp) (Q:VK) (Ml:XK):Prop
 |mk (p co ck g wt a:LV) (S:Fr) (b:Nat) (G W R T:Fr) (h0:vs=xnX) (h1:xBv S b G W true false) (h2:UF=xlD) (h3:PQ G T R) (h4:TW T G) (h5:∀l g' H',Ι->Χ g'->xaz=xcf->xvA H' g' wt (S++T) (b+1) (Y3 b G T) W true false->(∀c o,ω=Id->xFy->xvp->xaY=Id)->xat):QY Ce CO CK vs H Q Ml
def Rf:ST (xtU "block" "text") xUp jI:=Os
def rY (F:xaL "read_block" "Reading.read_block" jI)(Z:xsP):xam 40 xUp (QY Ce CO CK):=by
 have T:=Z.tt;show xtL R Z.pr.R Tb Z.take;obtain⟨_,FT⟩:=Tb.F;show xbO Wi R.win Go R.go;show xao Rf (λ L9 A outer st H vs Q E hr h=>?_);obtain⟨p,co,ck,g,wt,a,S,b,G,W,Rb,T',rfl,hR,ha,pb,tw,k⟩:=h;obtain⟨n1,n2,n3,n4,n5,n6⟩:=hR.ne;show xtJ dx hp hw hR;have Mw:xbg:=Ty;show xji X1 (xbr 6) (xa6 2 Rf.nd (xwk (nz FT Z.bk Z.wl) Tb.m Tb.kp Tb.b bf (xfy No (xzV R.cl Wi (nP Wi.F R) Mw))) (aC (xgS Ζ R.cl Go (xF Go.F R) X1 Ps)) Ps)
 show xck Vw OS hC.ob ⟨_,rfl,_,rfl,p,Ce,dx,_,_,rfl,hp,T.cl,T.nC,xsQ,co,Vw,_,rfl,OS,xwY,co,ck,g,S,G,b,rfl,hC,P3 lw Zx⟩;have s1:=xa1 xkV Zx;refine⟨a,lw,G,T',Rb,rfl,xlp,i',pb,tw,λ l H2 nl s2 hl=>?_⟩;have s2:=xfz;have Up:=xzc c o e (xcg e)
 show xbH dxo2 P6 Up.ob dk2 VD Up.ch;have h1:=tw.le;have h2:=tw.wl;refine⟨_,rfl,p,Ce,dx,_,_,rfl,xcg hp,T.cl,T.nC,xsQ,co,dxo2,_,rfl,P6,xwY,_,rfl,co,ck,g,l,S,G,T',b,rfl,Up,hl,tw.tb,by lia,λ g' H3 ng VS kp=>?_⟩;have ML:∀c o,ω=Id->xFy->xvp->H3 c=Id:=λ c o e n m=>xaX (xcg e) n m
 exact xaJ (xfp g' H3 (xjB nl) (none_of s2 ng) (xaX hl (aH hl P6 (by show Υ)) (aH hl VD (by show Υ))) ⟨xgc (xct hp n1.symm n2.symm),VS,xct hw n5 n6⟩ ML)
def nB (T:Fr):Nat:=(xRm 63)/64
def WN (T:Fr)(Rs:xgd):Prop:=Rs.length=xbj/\∀j R,xbS Rs j R->PQ (wn T j) xj0 R
noncomputable abbrev tl (T:Fr):Fr:=xIg T
def gB (h:64*i<F.length)(hb:xlm F):TW xzG (wn F i):=by
 have hl:xaI xzG (min 64 (F.length-64*i)):=by show xc2 blk ER EN
 exact⟨λ x hx=>xpJ (xJM hx),by lia,by omega,λ x hx=>xpJ xXF,qR (E4 h)⟩
def WH.all (h:WH T Z)(hb:xi7):∃Rs,xnO/\Z=184::66::1::xA5:=by
 show xgW Rs R hl Ya hL rfl;unfold nb at hl;rcases hL with⟨h0,rfl⟩|⟨h0,pb⟩
 ·exact⟨Rs,⟨by unfold nB;lia,λ j R e=>PB.pq (Ya j R e) (gB (by have:=xKm e;lia) hb)⟩,by show xak Fv⟩
 ·refine⟨Rs++[R],⟨by rw [EB];show _+1=_;unfold nB;lia,xdm j R'⟩,by show xb8 IE⟩;show xbx j Rs.length h h
  ·show π (F1 h) e (PB.pq (Ya j R' e) (gB (by lia) hb))
  ·rw [Fj h] at e;have hj:j-Rs.length=0:=xMS (xKm e);show xpS hj;obtain rfl:j=nb T:=by unfold nb;lia
   refine PB.pq ?_ (gB (by unfold nb;lia) hb);show xm9 blk (E8 (by rw [EN];unfold nb;show xba Kn (E4 xls))) pb
def rem (T:Fr)(Rs:xgd)(j:Nat):Fr:=xDO (Rs.drop j) xeK
def nxt (T:Fr)(Rs:xgd)(j:Nat):Fr:=Rs.getD j xeK
def mi (h:xyu j):xGw=Rs[j]++xu7 (j+1)/\nxt T Rs j=Rs[j]:=by
 unfold rem nxt;rw [GG h,Gu,EE];exact xgB (by rw [E9,EI h];rfl)
def mv (h:Rs.length≤j):xGw=xeK/\nxt T Rs j=xeK:=by
 unfold rem nxt;show LE (GU h) (xgB (by rw [E9,FE h];rfl))
structure Op (T:Fr)(Rs:xgd)(bg fn:Bool)(j:Nat)(G W rest:Fr):Prop where
 jn:j≤xbj
 gw:xt3 (64*j)->G=wn T j
 re:Μ fn->W++rest=xcA bg xGw (mk3++xu7 0)
 b0:Μ bg->j=0/\Μ fn/\W.length<3
 b1:SL bg->Μ fn->W.length<(nxt T Rs j).length
 fi:SL fn->j=xbj/\W=[]/\rest=[]
inductive QX (Ce CO CK:LV) (vs:M2) (H:Hp) (Q:VK) (Ml:XK):Prop
 |mk (p co ck g wt:LV) (T Y G rest:Fr) (Rs:xgd) (j0:Nat) (h0:vs=xbk) (h1:xBv (xIv j0) j0 G Y true false) (h2:xi7) (h3:xqS) (h4:xnO) (h5:j0≤xbj) (h6:xt3 (64*j0)->G=wn T j0) (h7:Y++rest=xu7 j0) (h8:∀l j fn g' TM G' W' H',Ι->xaz=xah (xpF j (64*j0))->xvA H' g' TM xuW j G' W' true fn->Op T Rs true fn j G' W' rest->j0≤j->(∀c o,ω=Id->xaD->xFy->xvp->xaY=Id)->xat):QX Ce CO CK vs H Q Ml
def M7:xtp ["self","signs","place","part","row"] kK:=Os
def qK (F:xaL "read_parts" "Reading.read_parts" kK)(Z:xsP):xgJ 41 (QX Ce CO CK):=by
 have T0:=Z.tt;have R0:=Z.pr.R;show xgA Pa Z.pr.partat Ta Z.tail Bl Z.block;show xao M7 (λ L9 A outer st H vs Q E hr h=>?_);obtain⟨p,co,ck,g,wt,T,Y,G,rest,Rs,j0,rfl,hR,hT,O4,⟨Wo,Ya⟩,hj0,hG0,hY,k⟩:=h;have hr34:xbr 34:=Ty;have hr10:xbr 10:=Ty;show xgt (xaF 1 M7.nd xe8 (xcl 2 M7.nd ad (xoP (xqM Ζ) (xcl 3 M7.nd (xfe (uO Pa Z.pr) hr34 Pa Ζ Ps (aA Ζ rfl)) (xkC dW TD bP o6) (xdD 4 M7.nd (xqo Ζ Ps xyE) 2 M7.nd xyE (xg3 dW xyE bP (aC (xgS PP T0.cl Ta (uU Ta.F Z) hr10 χ)) (xqP (xD1 HJ Im d6 No (xgS PP T0.cl Bl (rY Bl.F Z) hr χ))))))) (xeo (xzO a6 Ζ Ps bM) (xbh No)))) (xju (xdB l nl));have s0:=xLD;obtain⟨⟨dx0,VO⟩,hC0,hw0⟩:=id hR;show xBQ hco0 hC0.ob hck0 hC0.ch;have Oa:xsC:=xoR VO;have nlo:xex co:=xoR hco0;have nlk:xex ck:=xoR hck0;have Zx:xex wt:=xoR hw0;show xjh xaa;have hnB:xMC (64*xbj)/\64*xbj<xRm 64:=by unfold nB;lia
 have hTn:xIv xbj=T:=E8 hnB.1;have hD0:xpF j0 (64*j0)=[]:=GU (by show xs3 xfV);show ρ xbT ((λ(J:∀j pl fn g4 G4 v3 v4 H4,H4 l=some (.lst (((T.take (64*j)).drop (64*j0)).map vN))->Nz Ce CO CK H4 p co ck g4 wt (T.take (64*j)) j G4 Y true fn->(∀c o,H c=some o->c≠p->c≠co->c≠ck->H4 c=some o)->j0≤j->Op T Rs true fn j G4 (Y.drop pl) rest->R1 [some (.ref p),some (.ref l),some (vN pl),v3,v4] H4)=>?_) (λ j pl fn g4 G4 v3 v4 H4 QB M8 fr hjj op=>xaa))
 rotate_left
 ·obtain⟨n1,n2,n3,n4,n5,n6⟩:=M8.ne;show xtJ dx hp hw M8;refine⟨_,rfl,p,Ce,dx,_,_,rfl,hp,T0.cl,T0.nW,xjd,_,rfl,_,rfl,wt,_,rfl,Mm.of hw,P3 lw nlw'⟩
  try dsimp only
  rw [eu,<-G9];have s5:=xbe xxY nlw';refine⟨_,rfl,p,Ce,dx,_,rfl,xSy,T0.cl,T0.nW,xl3,?_⟩;rw [pH];have Zw:xcF lw:=xe0 hp nlw';have kp:∀c o,H4 c=Id->xaD->xj8 (xgz H4 lw xxY) (xBD lw true fn) c=Id:=λ c o e n=>xh4 (xbb e)
  exact xaJ (xfp j fn g4 lw G4 _ _ nl (xaX QB Oa) ⟨xLf,xOH n1 n2 n3,xeb Zw i'⟩ op hjj λ c o e a1 a2 a3=>xaX (xsE a1 a2 a3) a1)
 clear g1;refine Ψ (λ m σ H4=>∃(j pl:Nat) (fn:Bool) (g4:LV) (G4:Fr) (v3 v4:xdu),σ=[xfX,xeu,UV pl,v3,v4]/\xh1=xah (xpF j (64*j0))/\xvA H4 g4 wt xuW j G4 Y true fn/\(∀c o,ω=Id->xaD->xFy->xvp->H4 c=Id)/\j0≤j/\j≤xbj/\(xt3 (64*j)->G4=wn T j)/\pl≤Y.length/\
   ((Μ fn/\m=xbj+1-j/\xxY++rest=xGw)\/(SL fn/\m=0/\j=xbj/\xxY=[]/\rest=[]))) ⟨_,j0,0,false,g,G,none,none,rfl,by show LE hD0 i',⟨⟨dx0,xm8 VO⟩,hC0.keep λ c o e _=>xrK,xm8 hw0⟩,λ c o e _ _ _=>xrK,Tl,hj0,hG0,xan,.inl (xf2 rfl hY)⟩
 rintro m σ H4 ⟨j,pl,fn,g4,G4,v3,v4,rfl,QB,M8,fr,hjj,hj,hG,Od,hc⟩;obtain⟨n1,n2,n3,n4,n5,n6⟩:=M8.ne;show xtJ dx hp hw (id M8);obtain⟨Vw,OS⟩:=hC.ob;rcases hc with⟨rfl,rfl,hd⟩|⟨rfl,rfl,rfl,hd,WS⟩
 rotate_left
 ·exact⟨_,rfl,p,Ce,dx,_,_,rfl,hp,T0.cl,T0.nF,xBq,true,rfl,aS (J _ pl _ g4 G4 v3 v4 H4 QB M8 fr hjj ⟨hj,hG,nofun,nofun,nofun,λ _=>xr1 hd WS⟩)⟩
 show ρ ⟨_,rfl,p,Ce,dx,_,_,rfl,hp,T0.cl,T0.nF,xBq,false,rfl,xjY⟩ xuF;have X7:xaI xxY (xRi pl):=EN;have cut:∀{R r:Fr},xyi (xRi pl)->xxY++rest=R++r->xmN xtw pl (xr8 (xJH pl))=xgC/\Y.drop (xJH pl)++rest=r/\xJH pl≤Y.length:=λ {R r} h e=>by
  have e1:(xxY).take R.length=R:=by
   have:=xMI R.length e
   rwa [Gf (by show LE X7 h),Jq] at this
  refine xsZ ?_ (by lia)
  ·rw [mx _ xes (by show xpO),F3,<-G9,<-GV,e1]
  ·have:=congrArg (List.drop R.length) e
   rwa [Hd (by show LE X7 h),Iy,Gg] at this
 have none:xRi pl<(nxt T Rs j).length->∀H5,Mf H4 H5->R1 [xfX,xeu,UV pl,some .non,v4] H5:=λ h H5 s5=>J j pl false g4 G4 _ _ H5 (xbb QB) ⟨xgc xSy,xzc c o e (xbb e),xbb hw⟩ (λ c o e a1 a2 a3=>xbb (xsE a1 a2 a3)) hjj ⟨hj,hG,λ _=>hd,nofun,λ _ _=>by show LE X7 h,nofun⟩
 show xbx j xbj Wd Wd
 ·
  have MG:64*j<T.length:=by lia
  have hjR:xyu j:=by show LE Wo Wd
  have pb:=Ya j _ (EI hjR);have tw:=gB MG hT;obtain⟨er,en⟩:=mi (T:=T) hjR;rw [er] at hd;rw [en] at none;generalize Rs[j]=R at*;obtain⟨i,ps,Rb,hi,_,_,eR,Oq,MD⟩:=id pb;have MD:=EF MD tw.le;have ht1:=tw.one;have ht2:=tw.le;have V':xaI xuW (64*j):=Ko (E4 MG);have eR':R=xkM (64*i+xn0-1)++(Rb++xxv (xkM (64*i+xn0-1)++Rb)):=by rw [eR];show xci sld EE
  have RQ:xcm Rb (xxv (xkM (64*i+xn0-1)++Rb))=xyq 2:=by show xak EB
  have WV:xEY (xyq 5):=by rw [eR,eE,EB];show 3+_+2=_;lia
  show ρ ⟨_,rfl,p,Ce,dx,_,_,rfl,hp,T0.cl,T0.nW,xjd,_,rfl,_,rfl,p,Ce,dx,_,_,rfl,hp,T0.cl,T0.nC,xsQ,co,CO,Vw,_,_,rfl,OS,R0.cl,R0.nM,wD _ _ _ _,?_⟩ ⟨wt,Y,_,rest,xu7 (j+1),pl,_,64*i+xn0-1,Rb.length,rfl,hw,Od,by rw [hd,<-EE,<-eR'],by lia,MD,On (by lia),λ _=>by show xcj V',by rw [RQ,ES (by lia)],λ h H5 s5=>xdy (cb (none (by lia) H5 s5)),λ h t v H5 s5 ht hv=>?_⟩;show xhi h h (v=xKi) (by rcases hv with⟨z,_⟩|⟨_,z⟩;lia;exact z)
  rw [RQ] at ht;obtain⟨ec,ed,Yu⟩:=cut (by lia) hd;rw [WV] at ec ed Yu;refine xdy xiS;have Vr:=xSy;refine⟨_,rfl,p,Ce,dx,_,_,rfl,Vr,T0.cl,T0.nW,xjd,_,rfl,_,rfl,_,rfl,t,_,_,_,rfl,rfl,xq9,xdk,_,rfl,wt,_,rfl,Mm.of (xbb hw),P3 lr N9⟩
  try dsimp only
  rw [ec];have s6:=xa1 xgC N9;have V9:(xbP H5 lr xgC) lr=xlD:=i';have s6:=xNW;have ht6:=xa1 xgC N9 _ _ ht;show xbU (xbP H5 lr xgC) H6 ⟨_,rfl,t,_,_,_,rfl,rfl,xOI,xdk,?_⟩;refine⟨_,rfl,t,_,_,_,rfl,rfl,xOI,xev,rfl,_,rfl,xiS⟩;show xaK X4 xJR (hG (E4 MG)) hC;refine⟨_,rfl,xhj X4,_,rfl,p,dx,_,rfl,xRp,xjc,_,rfl,p,co,ck,g4,wt,lr,_,j,_,Y,R,_,rfl,⟨xgc xRp,xzc c o e (xcE e),xcE hw⟩,V9,pb,tw,λ l7 g7 H7 n7 ng7 hl7 hR7 VX=>?_⟩;have hl76:=VX _ _ X4 nlo nlk;have e7:Ρ (xpF j (64*j0))++Ρ xj0=Ρ (xpF (j+1) (64*j0)):=by rw [<-EO,<-d5,Hd (by show xcj V')]
  refine⟨l,l7,_,_,rfl,rfl,hl76,hl7,aW (by rw [EA,EA,EN,V'];lia),?_⟩
  try dsimp only
  rw [e7];have YK:∀c o,H7 c=Id->xcd l->xd8 H7 l (xpF (j+1) (64*j0)) c=Id:=λ c o e n=>xh4 e
  obtain⟨⟨dx7,hp7⟩,hC7,hw7⟩:=hR7;rw [d5] at hC7;refine⟨xbj+1-(j+1),Gv (HY Wd) (Gs j),j+1,pl+(xyq 5),false,g7,_,_,_,rfl,i',⟨⟨dx7,YK _ _ hp7 Oa.symm⟩,hC7.off YK nlo.symm nlk.symm (xe0 X4 ng7),YK _ _ hw7 Zx.symm⟩,λ c o e a1 a2 a3=>YK _ _ (VX _ _ (xcE (xsE a1 a2 a3)) a2 a3) (xmX nl),by lia,Wd,On (tz z),Yu,.inl (xf2 rfl ed)⟩
 ·
  obtain rfl:j=xbj:=ED hj Wd;obtain⟨er,en⟩:=mv (T:=T) (EC Wo);rw [er] at hd;rw [en] at none;show xmc hd' (hd.trans (Fv _).symm) ⟨_,rfl,p,Ce,dx,_,_,rfl,hp,T0.cl,T0.nW,xjd,_,rfl,_,rfl,p,Ce,dx,_,_,rfl,hp,T0.cl,T0.nC,xsQ,co,CO,Vw,_,_,rfl,OS,R0.cl,R0.nM,wD _ _ _ _,?_⟩ ⟨wt,Y,(xeK).drop 3,rest,[],pl,_,0,0,rfl,hw,Od,hd',Z9,Z9,xhA,(xjf),rfl,λ h H5 s5=>xdy (cb (none h H5 s5)),λ h t v H5 s5 ht hv=>?_⟩;obtain rfl:xn9 v:=by rcases hv with⟨_,z⟩|⟨z,_⟩;exact z;cases z
  obtain⟨ec,ed,Yu⟩:=cut (R:=xeK) h hd';obtain⟨ed,erest⟩:=List.append_eq_nil_iff.1 ed;rw [hTn] at hC;show ρ (xdy xiS) ⟨_,rfl,p,Ce,dx,_,_,rfl,xSy,T0.cl,T0.nW,xjd,_,rfl,_,rfl,_,rfl,t,_,_,_,rfl,rfl,xq9,xdk,_,rfl,wt,_,rfl,Mm.of (xbb hw),P3 lr N9⟩;have ec:xmN xtw pl (xr8 (xGs pl ((xeK).drop 3)+3))=Ρ xeK:=ec
  try dsimp only
  erw [ec]
  have s6:=xbe xeK N9;have ht6:=xcE ht;have V9:xd8 H5 lr xeK lr=xah xeK:=i';have s6:=xNW;show xiV H5 lr xeK H6 ⟨_,rfl,t,_,_,_,rfl,rfl,xOI,xdk,?_⟩;show ρ ⟨_,rfl,t,_,_,_,rfl,rfl,xOI,xev,rfl,_,rfl,xjY⟩ ⟨_,rfl,p,dx,_,rfl,xRp,xjc,_,rfl,p,co,ck,g4,wt,lr,T,xbj,G4,Y,rfl,⟨xgc xRp,xzc c o e (xcE e),xcE hw⟩,V9,Ε H7 hR7 VX⟩;exact⟨0,by lia,xbj,_,true,g4,G4,_,_,rfl,VX _ _ xJR Oa,by show LE hTn hR7,λ c o e a1 a2 a3=>VX _ _ (xcE (xsE a1 a2 a3)) a1,hjj,Tl,hG,Yu,.inr (xbI rfl rfl ed erest)⟩
abbrev mV:L7:=xql 126
abbrev oh:L7:=xqk 126
abbrev ow:L7:=xs9 126
abbrev rW:L7:=xjo 126 3
abbrev om:L7:=top 127
def fQ (r:LV):xfn:=[("reading",xjO)]
def vP (r):xkI "reading" r []=fQ r:=rfl
def DI (r):xds (fQ r) "reading"=xsw:=by rw [<-vP,ap,xai]
def xV (r){x:Str}(h:xs8 "reading"):xmt (fQ r) x:=by
 rw [<-vP,ap,xvV];rfl
def Ed (r r'):xkI "reading" r' (fQ r)=fQ r':=by
 show(xik "reading" "reading" _ _)=_;show xak xai
structure Zf (K:Frag)(mg:Α)(C:LV):Prop where
 cl:xhm
 nR:xdC "reading"
 m:mg "Opener"=xiZ
 init:∃f fd,x0L mV/\xEG/\xsL
 feed:∃f fd,xeV C "feed" "Opener.feed" oh Jal
 over:xic "over" "Opener.over" ow
 fin:xic "finish" "Opener.finish" rW
def Dc (h:W++z=mk3++Y):W.take 3=xZO:=by
 show xbx W.length 3 q q
 ·show xhS (xMI W.length h) Jq (Gf (E4 q));rw [<-this,E8 (E4 q)]
 ·show xg7 (xMI 3 h) (Gf q);rw [this,E8 (show mk3.length≤_ from q)];rfl
inductive SN (Ce CO CK:LV) (vs:M2) (H:Hp) (Q:VK) (Ml:XK):Prop
 |mk (p co ck g wt a:LV) (T G W r rest:Fr) (Rs:xgd) (j0:Nat) (bg:Bool) (h0:vs=xnX) (h1:xBv (xIv j0) j0 G W bg false) (h2:xi7) (h3:xqS) (h4:xnO) (h5:Op T Rs bg false j0 G W (r++rest)) (h6:UF=XL xCE) (h7:xiX (xcm W r)) (h8:∀l j fn XJ g' TM G' W' H',Ι->xaz=xah (xpF j (64*j0))->xvA H' g' TM xuW j G' W' XJ fn->Op T Rs XJ fn j G' W' rest->j0≤j->(∀c o,ω=Id->xaD->xFy->xvp->xaY=Id)->xat):SN Ce CO CK vs H Q Ml
def Tf:ST (xtU "row" "signs") Jal nZ:=Os
def uR (F:xaL "go_through" "Reading.go_through" nZ)(Z:xsP):xam 42 Jal (SN Ce CO CK):=by
 have T0:=Z.tt;show xgA Ma Z.mark Pa Z.parts La Z.pr.nlast;show xao Tf (λ L9 A outer st H vs Q E hr h=>?_);obtain⟨p,co,ck,gA,wt,a,T,G,W,r,rest,Rs,j0,bg,rfl,hR,hT,O4,hN,op,ha,hl9,k⟩:=h;obtain⟨n1,n2,n3,n4,n5,n6⟩:=hR.ne;show xtJ dx hp hw hR;have Mw:xbg:=Ty;have N3:xnH:=Ty;show xax (xeo (xfb Ζ No) (ab (aF (xqM Ζ) (ac (aC (xFS Ma (va Ma.F Z) N3))) az)
  (xa6 2 Tf.nd (dC xPN (xFS Pa (qK Pa.F Z) hr) xe8) (aF xPN (ac (aC (xrv (qr La Z.pr) La Ζ))) az) Ps))) (xbA ⟨_,rfl,p,Ce,dx,_,_,rfl,hp,T0.cl,T0.nW,xjd,_,rfl,wt,a,_,_,rfl,rfl,hw,ha,aW (by rw [<-EB,<-EO,EA];exact hl9),P3 l1 nl1⟩)
 rw [<-EO];have hre:=op.re rfl;rw [<-EE] at hre;generalize W++r=Y at*;have s1:=xa1 xtw nl1;have Oa:xcF l1:=xe0 hp nl1;show xfD ⟨_,rfl,p,Ce,dx,_,rfl,xpn,T0.cl,T0.nW,xl3,xaB⟩ g;rw [pH];have Oo:∀c o,ω=Id->xaD->xj8 xP3 (xED l1 bg) c=Id:=λ c o e n=>xh4 xcs
 have MW:xj8 xP3 (xED l1 bg) p=xfC Ce (xED l1 bg):=i';show xdg hw1 (xj8 xP3 (xED l1 bg) l1=XL xtw) (xeb Oa i') (xj8 xP3 (xED l1 bg)) H1;have Yc:=hC.off Oo n1 n2 n3;have nn:∀{c} {H2:Hp},(∀c o,ω=Id->xaD->xh2=Id)->(∃o,H2 p=Id)->xac xh2->xsB:=λ {c H2} kp ⟨o,h⟩ n=>by
  cases e:ω with
  |none=>rfl
  |some o=>
   by_cases z:c=p
   ·show xbm h n n
   ·show W1 xJX n n
 show ρ (xoh R2 g) ((λ(J:∀bg (wt:LV) (Y:List Nat) (H2:Hp),Nz Ce CO CK H2 p co ck gA wt (T.take (64*j0)) j0 G Y bg false->(bg=true->Y++rest=rem T Rs j0)->(bg=false->j0=0/\Y.length<3/\Y++rest=mk3++rem T Rs 0)->(∀c o,H c=some o->c≠p->H2 c=some o)->R2 [some (.ref p),some (.ref a),none] H2)=>?_) (λ bg wt Y H2 Nu MR Vu Rm=>xaB))
 ·cases bg with
  |true=>exact⟨_,rfl,p,Ce,dx,_,_,rfl,MW,T0.cl,T0.nB,uL _ _ _ _,true,rfl,aS (J true l1 Y H1 ⟨xgc MW,Yc,hw1⟩ (λ _=>hre) nofun Oo)⟩
  |false=>
   obtain⟨ej,_,_⟩:=op.b0 rfl;show ρ ⟨_,rfl,p,Ce,dx,_,_,rfl,MW,T0.cl,T0.nB,uL _ _ _ _,false,rfl,xjY⟩ ⟨_,rfl,p,dx,_,rfl,MW,xjc,p,co,ck,_,l1,_,j0,G,Y,rfl,⟨xgc MW,Yc,hw1⟩,Dc hre,Ε h3 H2 s2,λ Y' wt2 H2 e Nu Rm=>?_⟩
   ·exact J false l1 Y H2 ⟨xgc (xcg MW),Yc.keep λ c o e _=>xcg e,xcg hw1⟩ nofun (λ _=>⟨ej,h3,hre⟩) λ c o e n=>xcg (xwQ e n)
   ·show xc3 (J true wt2 Y' H2 Nu (λ _=>by show LE ej (List.append_cancel_left (as:=mk3) hre)) nofun λ c o e n=>xsM (xwQ e n) n)
 clear g;show xck TK ME Nu.ob (xoh R3 g)
 refine(λ(J:∀(l:LV) (j:Nat) (fn XJ:Bool) (g' TM:LV) (G' W':List Nat) (H':Hp),H l=none->H' l=some (.lst (((T.take (64*j)).drop (64*j0)).map vN))->Nz Ce CO CK H' p co ck g' TM (T.take (64*j)) j G' W' XJ fn->Op T Rs XJ fn j G' W' rest->j0≤j->(∀c o,H c=some o->c≠p->c≠co->c≠ck->H' c=some o)->R3 [some (.ref p),some (.ref a),some (.ref l)] H')=>?_) (λ l j fn XJ g' TM G' W' H' nl hl RV op' hj fr=>xaB)
 ·cases bg with
  |true=>exact⟨_,rfl,p,Ce,TK,_,_,rfl,ME,T0.cl,T0.nB,uL _ _ _ _,true,rfl,cb ⟨_,rfl,p,TK,_,rfl,ME,xjc,p,co,ck,_,wt,T,Y,G,rest,Rs,j0,rfl,Nu,hT,O4,hN,op.jn,op.gw,MR rfl,λ l j fn g3 wt3 G3 W3 H3 nl hl Nq op3 hj fr=>J l j fn true g3 wt3 G3 W3 H3 (nn Rm (xbR ME) nl) hl Nq op3 hj λ c o e a1 a2 a3=>xg5 (xsM e a1) a1 a2 a3⟩⟩
  |false=>
   show xbd ej h3 hb (Vu rfl) ⟨_,rfl,p,Ce,TK,_,_,rfl,ME,T0.cl,T0.nB,uL _ _ _ _,false,rfl,aS (xju xgo)⟩;have s3:=xLD;show xgk (J l j0 false false _ wt G Y _ (nn Rm (xbR ME) nl) ?_ ⟨⟨TK,xbZ ME⟩,Nu.cr.keep λ c o e _=>xbZ e,xbZ Nu.ws⟩ ⟨op.jn,op.gw,λ _=>hb,λ _=>xf2 ej h3,nofun,nofun⟩ Tl λ c o e a1 _ _=>xbZ (xsM e a1)) (Ω (xpF j0 (64*j0)) [] (GU (by show xs3 xfV))) i'
 clear g;obtain⟨O5,M4⟩:=RV.ob;have last:=xfp j fn XJ g' TM G' W' H' nl hl RV op' hj fr;cases fn with
 |false=>exact⟨_,rfl,p,Ce,O5,_,_,rfl,M4,T0.cl,T0.nF,xBq,false,rfl,xSe last⟩
 |true=>
  have hw':=RV.ws;show π (Ξ (op'.fi rfl)) hw' ⟨_,rfl,p,Ce,O5,_,_,rfl,M4,T0.cl,T0.nF,xBq,true,rfl,cb ⟨_,rfl,p,Ce,O5,_,_,rfl,M4,T0.cl,T0.nW,xjd,TM,rfl,hw',_,rfl,last⟩⟩
def qw (Cp Ce CO CK:LV)(N:xdq LV)(H:Hp)(p:LV)(T:Fr)(Rs:xgd)(fn:Bool)(j:Nat)(rest:Fr):Prop:=∃dx r co ck g wt G W bg,xbF=xfC Cp (fQ r)/\N r/\N co/\N ck/\xS6 H r co ck g wt xuW j G W bg fn/\Op T Rs bg fn j G W rest
def Op.done (h:Op T Rs bg fn j G W [])(hN:xnO):SL fn/\j=xbj:=by
 cases fn with
 |true=>exact xgB (h.fi rfl).1
 |false=>
  exfalso;show xaK e (xkK (h.re rfl)) Fv e;cases bg with
  |false=>
   have:=xbM (h.b0 rfl);rw [ES Fb,EB] at e;have:mk3.length=3:=rfl;lia
  |true=>
   have:=h.b1 rfl rfl;rw [xai] at e;show xbx j Rs.length z z
   ·obtain⟨e1,e2⟩:=mi z;rw [e1,EB] at e;rw [e2] at this;lia
   ·obtain⟨e1,e2⟩:=mv z;rw [e1] at e;rw [e2] at this;lia
def WN.one (hN:xnO)(hb:xi7)(h:xyu m):xO9 Rs[m]/\xcy Rs[m] 69:=by
 have pb:=hN.2 m _ (EI h);have tw:=gB (i:=m) (by rw [xK4] at h;unfold nB at h;lia) hb;refine xSz (EF xNp.2 (Gb tw.le 5));obtain⟨i,ps,Rb,_,_,_,e,_⟩:=pb;rw [e,eE];exact KY 1 _
def Op.wl {rest:Fr}(h:Op T Rs bg false j G W rest)(hN:xnO)(hb:xi7):xMw 69:=by
 cases bg with
 |false=>have:=xbM (h.b0 rfl);lia
 |true=>
  have:=h.b1 rfl rfl;show xbx j Rs.length z z
  ·rw [(mi z).2] at this;have:=(hN.one hb z).2;lia
  ·show xxh (mv z).2 (xJQ this (show 11≤69 by decide))
inductive SW (Cp Ce CO CK:LV) (vs:M2) (H:Hp) (Q:VK) (Ml:XK):Prop
 |mk (p dx:LV) (h0:vs=xbk) (h1:xbF=xfC Cp []) (h2:xez ((∀T Rs,xL8 (λ c=>xsB) H' p T Rs false 0 (mk3++xu7 0))->xdH (∀c o,ω=Id->xaD->xaY=Id))):SW Cp Ce CO CK vs H Q Ml
def xG:xdW mV:=Os
def uK (F:x0L mV)(Z:xsP)(O:Zf K mg Cp):xgJ 8 (SW Cp Ce CO CK):=by
 show xRJ;show xao xG (λ L9 A outer st H vs Q E hr h=>?_);show xeE p dx hp k h;refine xca (xDc (xsr (lQ FI Z.tt Z.pr.R) hr Z.tt.m bI bf));intro x dk nx TN YJ;have s0:=xAq Ce;refine xbI x dk i' (λ co ck g wt H1 XX Uk hR Oo=>xjJ);have s1:xrZ:=λ b o e=>Oo b o (s0 b o e) xum
 have MW:=xpn;refine⟨_,rfl,p,Cp,dx,[],rfl,MW,O.cl,O.nR,Z9,?_⟩;rw [vP];show xtJ Ou RO hw hR;have kp:∀c o,H1 c=Id->xaD->(xdp H1 p Cp dx (fQ x)) c=Id:=λ c o e n=>xh4 e
 have ne:∀{c},xsB->xaD:=λ n z=>by show xbm hp n n
 have hq:∀{xs:M2} {c},H1 c=xdZ->xaD:=λ e=>xAA MW (by show Υ)
 have XX:=xkU XX;have Uk:=xkU Uk;exact xeR (λ T Rs=>⟨dx,x,co,ck,g,wt,[],[],false,i',nx,XX,Uk,⟨⟨Ou,xaX RO (ne nx)⟩,xOH (ne XX) (ne Uk) (hq hC.gr),xaX hw (hq hw)⟩,⟨xan,xhA,xhA,λ _=>xf2 rfl Z9,nofun,nofun⟩⟩) λ c o e n=>xaX xcs n
inductive SX (Cp Ce CO CK:LV) (vs:M2) (H:Hp) (Q:VK) (Ml:XK):Prop
 |mk (p a:LV) (N:xdq LV) (T r rest:Fr) (Rs:xgd) (j:Nat) (h0:vs=xnX) (h1:xL8 N H p T Rs false j (r++rest)) (h2:xi7) (h3:xqS) (h4:xnO) (h5:UF=XL xCE) (h6:xlm r) (h7:r.length≤1900) (h8:∀l j' fn H',Ι->xaz=xah (xpF j' (64*j))->xL8 (λ c=>xsB) H' p T Rs fn j' rest->j≤j'->(∀c o,ω=Id->xaD->xaY=Id)->xat):SX Cp Ce CO CK vs H Q Ml
def OJ:ST ["self","row","come","trial","signs"] Jal oh:=Os
def vI (F:xaL "feed" "Opener.feed" oh)(Z:xsP)(O:Zf K mg Cp):xam 43 Jal (SX Cp Ce CO CK):=by
 have T0:=Z.tt;show xgA N' Z.pr.H.need Tw Z.twin Th Z.thru;show xao OJ (λ L9 A outer st H vs Q E hr h=>?_);obtain⟨p,a,N,T,r,rest,Rs,j,rfl,⟨dx,r0,co,ck,g,wt,G,W,bg,hp,_,_,_,⟨⟨dr,TC⟩,hC,hw⟩,op⟩,hT,O4,hN,ha,hb,hl9,k⟩:=h;have Ru:xAF:=Ty;have hr8:xbr 8:=Ty;show xax (xdD 2 OJ.nd (ci (bU N' Z.pr.H.N) Ru Z7 N'.m N'.F.kp N'.b .nil bf (xcw No)) 3 OJ.nd (bG Ζ T0.cl Tw (vm Tw.F Z) hr8) (xa6 4 OJ.nd (xgS TD T0.cl Th (uR Th.F Z) hr Ps) (xtg PP TD) χ)) (xc0 a _ ha hb (P3 l1 nl1));have s1:=xa1 xCE nl1;have Oq:(xpa xCE) l1=XL xCE:=i';show xbU (xpa xCE) H1 ⟨_,rfl,p,Cp,dx,_,_,rfl,xpn,O.cl,O.nR,DI _,r0,dr,_,rfl,xcR TC,xjc,r0,co,ck,g,wt,_,j,G,W,bg,false,rfl,⟨⟨dr,xcR TC⟩,xzc c o e xcs,xRn⟩,λ q Wu ck2 g2 wt2 H2 nq no nk Nu s2=>?_⟩;obtain⟨dq,hq⟩:=Nu.ob;have s2':=xfz;have Xz:=op.wl hN hT;refine⟨_,rfl,q,dq,_,rfl,hq,xjc,_,rfl,q,Wu,ck2,g2,wt2,l1,T,G,W,r,rest,Rs,j,bg,rfl,Nu,hT,O4,hN,op,xcg Oq,by show xw1,λ l3 j3 fn bg3 g3 wt3 G3 W3 H3 nl3 NS Nq op3 hj fr3=>?_⟩;have kp:∀c o,ω=Id->H3 c=Id:=λ c o e=>fr3 _ _ (s2' _ _ e) (ae xcs nq) (ae xcs no) (ae xcs nk)
 have hp3':=xaX hp;refine⟨_,rfl,_,rfl,p,Cp,dx,_,rfl,hp3',O.cl,O.nR,(by show xdi 1),?_⟩;rw [Ed];have ne:∀{c},xhF c->xaD:=λ n z=>by show xbm xpn n n
 have ML:∀c o,H3 c=Id->xaD->(xdp H3 p Cp dx (fQ q)) c=Id:=λ c o e n=>xh4 e
 have Vp:∀{xs:M2} {c},H3 c=xdZ->xaD:=λ e=>xAA hp3' (by show Υ)
 obtain⟨⟨O5,hx3⟩,VS,X0⟩:=Nq;exact xaJ (k l3 j3 fn _ (none_of s2' nl3) (xct NS (Vp NS)) ⟨dx,q,Wu,ck2,g3,wt3,G3,W3,bg3,i',xjB nq,xjB no,xjB nk,⟨⟨O5,xct hx3 (ne nq)⟩,VS.off ML (ne no) (ne nk) (Vp VS.gr),xct X0 (Vp X0)⟩,op3⟩ hj λ c o e n=>xct (xaX e) n)
inductive SV (Cp Ce CO CK:LV) (vs:M2) (H:Hp) (Q:VK) (Ml:XK):Prop
 |mk (p:LV) (N:xdq LV) (T rest:Fr) (Rs:xgd) (j:Nat) (fn:Bool) (h0:vs=xbk) (h1:xL8 N H p T Rs fn j rest) (h3:xgv fn):SV Cp Ce CO CK vs H Q Ml
def yb:xdW ow:=Os
def uG (F:xaL "over" "Opener.over" ow)(T:CRe K mg Ce)(O:Zf K mg Cp):xh5 (SV Cp Ce CO CK):=by
 show xao yb (λ L9 A outer st H vs Q E hr h=>?_);obtain⟨p,N,T',rest,Rs,j,fn,rfl,⟨dx,r,co,ck,g,wt,G,W,bg,hp,_,_,_,hR,_⟩,k⟩:=h;show xcb dr TC hR.ob ⟨_,xbh (aA Ζ rfl),_,rfl,p,Cp,dx,_,_,rfl,hp,O.cl,O.nR,DI _,r,Ce,dr,_,_,rfl,TC,T.cl,T.nF,xBq,k⟩
inductive UM (Cp Ce CO CK:LV) (vs:M2) (H:Hp) (Q:VK) (Ml:XK):Prop
 |mk (p:LV) (N:xdq LV) (T rest:Fr) (Rs:xgd) (j:Nat) (h0:vs=xbk) (h1:xL8 N H p T Rs true j rest) (h3:xlj H):UM Cp Ce CO CK vs H Q Ml
def yj:xdW rW:=Os
def wJ (F:xaL "finish" "Opener.finish" rW)(T:CRe K mg Ce)(O:Zf K mg Cp):xgJ 2 (UM Cp Ce CO CK):=by
 show xOf Ov O.over yj (λ L9 A outer st H vs Q E hr h=>?_);obtain⟨p,N,T',rest,Rs,j,rfl,ho,k⟩:=h;obtain⟨dx,_,_,_,_,_,_,_,_,hp,_⟩:=id ho;refine xca (ac (xCP (bG PP O.cl Ov (uG (CO:=CO) (CK:=CK) Ov.F T O) hr)));exact⟨_,rfl,p,dx,_,rfl,hp,xV _,p,N,T',rest,Rs,j,true,rfl,ho,_,rfl,aS k⟩
inductive SU (vs:M2) (H:Hp) (Q:VK) (Ml:XK):Prop
 |mk (a:LV) (T:Fr) (Rs:xgd) (h0:vs=xbL) (h1:xi7) (h2:xqS) (h3:xnO) (h4:UF=xah (184::66::1::xA5)) (h5:∀l H',Ι->xaz=xcf->Κ->xat):SU vs H Q Ml
def Qg:ST ["row","opener","text"] xdS om:=Os
theorem WN.facts (hb:xi7)(hl:xqS)(h:xnO):(xlm (xG3 xeK))/\xT5 1300:=by
 have hf:∀j (hj:xyu j),xfd Rs[j]/\xcy Rs[j] 69:=λ j hj=>by
  have tw:=gB (i:=j) (by rw [xb0] at hj;unfold nB at hj;lia) hb;have:=(xeU j _ (EI hj)).facts tw;show xaj xDD (EF this.2 (Gb tw.le 5))
 have MB:∀R∈Rs,xAM/\xyi 69:=λ R hR=>by
  show xeB j hj (List.getElem_of_mem hR);exact hf j hj
 refine xde (P3 x hx)
 ·show xfw (xSW hx)
  ·show xbp R hR hx (List.mem_flatten.1 z) ((MB R hR).1 x hx)
  ·refine oA (P3 b MX) x z;show xbX MX MX MX
   ·show xbX MX MX MX
    ·exact cX Z9 Z9 b MX
    ·exact pF _ b MX
   ·exact il xzD b MX
 ·have h1:∀L:xgd,(∀R∈L,xyi 69)->L.flatten.length≤69*L.length:=λ L=>by
   induction L with
   |nil=>exact λ _=>xan
   |cons R L ih=>
    intro h;have:=ih λ R' RV=>xiP R' RV
    have:=xl7 R;rw [Gu,EB,EV];lia
  have:=h1 Rs λ R hR=>(MB R hR).2
  have h2:=xb0;unfold nB at h2;lia
def vn (F:Δ "opened" om xdS)(Z:xsP)(O:Zf K mg Cp):xam 44 xdS SU:=by
 show xsR O.init;show xbO Fe O.feed Fi O.fin;show xau Qg (λ L9 A outer st H vs Q E hr h=>?_);obtain⟨a,T,Rs,rfl,hT,O4,hN,ha,k⟩:=h;show xks hb hl9 (hN.facts hT O4) ZE (xbr 9) Ty;show xji N3 xnH (xaF 1 Qg.nd (xsr (uK FI Z O) ZE O.m bI bf) (xa6 2 Qg.nd (xgS No O.cl Fe (vI Fe.F Z O) hr PP) (aC (bG No O.cl Fi (wJ (CO:=CO) (CK:=CK) Fi.F Z.tt O) N3)) Ps))
 intro p dp np Vn YI;have s0:=xkY Cp np Vn;refine xbI p dp i' (λ H1 ho Oo=>xjJ);have s1:xrZ:=λ b o e=>Oo b o (s0 b o e) xul
 have ho:=ho T Rs;obtain⟨dx,_,_,_,_,_,_,_,_,hp,_⟩:=id ho;refine⟨_,rfl,p,dx,_,rfl,hp,xV _,_,rfl,p,a,_,T,_,[],Rs,0,rfl,(Fv (mk3++xu7 0)).symm▸ho,hT,O4,hN,xlp,P3 x hx,?_,λ l j fn H2 nl hl ho2 _ fr=>?_⟩
 ·show xfw (xSW (xlf x (mk3++xA5) hx))
  ·exact(by decide:xlm mk3) x z
  ·exact xpJ z
 ·show xcm Rs.flatten xeK+3≤1900;rw [EB];show _+11+3≤1900;lia
 obtain⟨TK,_,_,_,_,_,_,_,_,ME,_,_,_,_,op⟩:=id ho2;show xBs (op.done hN);show π (Ω (xpF xbj (64*0)) T (E8 (by unfold nB;lia))) hl ⟨_,rfl,p,TK,_,rfl,ME,xV _,p,_,T,_,Rs,_,rfl,ho2,_,rfl,xLC (xjB nl) hl λ c o e=>xg5 xcs xul⟩
universe K30.Ck
namespace K30.Ck
open PySem L2 QQ
seal PE PA PS PSs PT PW PG PI
abbrev oi:L7:=top 129
abbrev mw:L7:=top 130
inductive Xj (K:Frag) (vs:M2) (H:Hp) (Q:VK) (Ml:XK):Prop
 |mk (a:LV) (ns:xoJ) (k:Nat) (h0:vs=[Γ,vN k]) (h1:Mm K H a xip) (h2:xku (ns.getD k 0)):Xj K vs H Q Ml
def Bz:ST xHN xHN oi:=Os
def yn (F:Δ "_law_cell_at" oi xHN)(X:xcH):xdl xHN (Xj K):=by
 show xau Bz (λ L9 A outer st H vs Q E hr h=>?_);show xgW a ns k rfl hS q;show xgY (xjM (xuN cH No xug (xbh (xjX No))) ad) ⟨_,rfl,_,rfl,a,_,rfl,.inl hS,_,_,rfl,rfl,_,rfl,?_⟩ xj5
 ·have h2:xIX k:=by show xgb xt8 EA xx2
  refine⟨_,rfl,_,rfl,a,_,_,V.int (ns.getD k 0),rfl,rfl,hS,ax ?_,q⟩;rw [FA,EI h2,E9,EI h2];rfl
 ·have NU:xfK xnw (xmm xip)≠true:=h1;have h2:xIf k:=by
   rw [EA] at NU;by_cases h:xnw<XV ns.length
   ·show xjQ h NU
   ·exact Ld.mp (xUj h)
  try dsimp only
  rw [E9,FE h2] at q;exact q
noncomputable def BN (c k:Int):Int:=((c*48271+16807*k*k+69621*k+11)%2147483647*69621)%2147483629
def mixN (c k:Int):Nat:=(BN c k).toNat
def zK (c k):XV (xRT k)=BN c k:=Int.toNat_of_nonneg (Int.emod_nonneg _ Z9)
inductive UR (vs:M2) (H:Hp) (Q:VK) (Ml:XK):Prop
 |mk (c k:Int) (h0:vs=[xIm,xRV]) (h1:0≤k) (h2:xbC k) (h3:xn2 (xRT k)):UR vs H Q Ml
def yq:ST xCf xCf mw:=Os
def qB (F:Δ "_law_mixed" mw xCf):xdl xCf UR:=by
 show xau yq (λ L9 A outer st H vs Q E hr h=>?_);show xgW c k rfl h0 h1 q;show xgY (xbh (xk4 (xf3 cj (xk4 (xcD (xbv (xbv (xf3 cj PP) (ak cj (xuC No) No)) (xuC No))))))) ⟨_,rfl,_,_,rfl,rfl,xQG,_,rfl,_,_,rfl,rfl,xuj,_,rfl,_,_,rfl,rfl,xei Z5 Z5,_,_,rfl,rfl,?_⟩ ⟨_,rfl,_,_,rfl,rfl,xuj,_,_,rfl,rfl,_,_,rfl,rfl,_,_,rfl,rfl,(by show xeq 2147483647),_,_,rfl,rfl,xQG,_,_,rfl,rfl,(by show xeq 2147483629),?_⟩
 try dsimp only
 show π (Ω (vN (xRT k):V) (V.int (BN c k)) (xB9 (zK c k))) q q
universe K30.Ck
namespace K30.Ck
open PySem L2 QQ W17 W16 BP
seal PE PA PS PSs PT PW PG PI
abbrev wZ:L7:=top 131
def gX (xs)(h:xc1 m):xmN xs (xgw m) (xjp n)=xj6 (xs.drop m) n m:=by
 show xc2 cutV HT.M6 HT.M6;rcases LN m xs.length with h1|h1
 ·rw [FR h1];rcases LN n xs.length with h2|h2
  ·rw [FR h2]
  ·rw [HC h2,E8 (by show LE EN Tl),E8 (by show LE EN (HN h2 _))]
 ·rw [HC h1,HC (EF h1 h),GU h1,Lx];simp
def sk (hx:xCg ([xDK,xqO k,(z,.globalImplicit),xDh y]:xtO)=xf8\/xDI (xCg ([xDK,xqO k,(z,.globalImplicit),xDh y]:xtO))):x=y:=by
 rcases hx with hx|hx
 ·have m':=xvj;simpa using m'
 ·have m':=xvj;simp at m'
def DL:xAx xVq:=Z8
def qy {te:TE}{σ0:St}{R:LV->xe2}(hk:xbC k)(h0:σ0=[none,xaw])(hte:∀(j:Nat) (H':Hp) (Q:VK),xbC j->Κ->(∀b,xAS->xmZ b)->te [UV j,xaw] H' Q)(mt:∀σ H (A B:VK),(∀v H',xBa->xBb)->xi8 A->xi8 B)
  (h:xie l LV S Fr (Ι->Κ->xaz=xgl->xyL k->xfd S->R l H')):∀l,Ι->∃W:xsq,(∃m,W 0 m [] σ0 (xdw H []))/\∀i m ys σ' H',xr7->
   (xoV (Vy 0 k) H'/\R l H')\/(xpC (Vy 0 k) H'/\∀x H2,xo8 (Vy 0 k) H' x H2->xhV x σ' H2 λ σ3 H3=>xzT λ y H4=>
    xh1=xeM/\xjx/\xdo (m'<m/\xsY (i+1))):=λ l nl=>by
 subst h0;refine iP (g:=xhV) (te:=te) (lo:=0) (l:=l) (k:=k) (λ p ys σ H2=>∃(v0:xdu) (S:Fr),σ=[v0,xaw]/\ys=xoi/\xyL p/\xfd S/\xh3=xeM/\xjZ)
  (xdc none [] rfl rfl (xmx h h) i' xtT) ?_ ?_ (λ x σ H A B h z=>xh7) mt
 ·rintro p ys σ H2 hp ⟨v0,S,rfl,rfl,hl,hb,h2,sm⟩;have e:xcU+xlU=xlU:=LO ↑_;show Uf e (hte p H2 _ (xJQ hp hk) sm λ b MX=>⟨h2,bz (by show xaT (xqf [_,_,_] xPO (xtx Φ) IO hk (xgV hp hl))),_,S++xey,rfl,by show xak EO,by rw [EB,hl];rfl,P3 x hx,i',λ d o e=>by show xqg xuB⟩)
  show xbX hx z z
  ·exact xzz z
  ·show xjG z MX
 ·rintro ys σ H2 ⟨v0,S,rfl,rfl,hl,hb,h2,sm⟩;exact h l S H2 nl sm h2 hl hb
inductive W5 (vs:M2) (H:Hp) (Q:VK) (Ml:XK):Prop
 |mk (c:Int) (s:Nat) (h0:vs=[xIm,xcV]) (h1:s≤520) (h2:xie l LV T Fr (Κ->Ι->xaz=xcf->T.length=s->xfd T->xat)):W5 vs H Q Ml
def M1:ST ["_law_cell","_law_size","_law_text_here","_law_turn","_law_number","_law_way","_law_long","_law_begin"] xMX wZ:=Os
def zT (F:Δ "_law_text" wZ xMX)(Mi:xbD "_law_mixed" mw xCf fm fdm)(X:xcH):xpl xMX W5:=by
 have GM:=qB (P:=P) (w:=w) (base:=base) Mi;show xau M1 (λ L9 A outer st H vs Q E hr h=>?_);show xeE c s hs k h;have Mw:xbg:=Ty;show xKr hu (xaF 2 M1.nd xe8 (xa6 3 M1.nd ad (xve cH xJd No (xdD 4 M1.nd (xcQ GM Mw Mi PP TD) 3 M1.nd (xcD TD) (xdD 5 M1.nd (xk4 χ) 6 M1.nd (xbv ad (xCG χ)) (xg3 bd xa9 ad (xtb 2 M1.nd (xLF (xwa (xCG χ) xco))) (xg3 bd xa9 ad (xtb 2 M1.nd (xLF (ic (N:=xVq) (js:=[none,some 4]) (cl:=[("_law_number",xB2 1)]) (g:=xhV) rfl ⟨rfl,Z8,Z8,Z7,λ x c h=>(by show xBs (gN h);rfl),λ x hx=>(by obtain rfl:=sk hx;exact xbs),rfl,λ i x j h1 h2=>?c1⟩ (xsk xco) (λ fp s H=>xA1 DL) (λ fp s H=>xCG (xcQ GM Mw Mi No PP))))) (xg3 bd xa9 ad (xtb 2 M1.nd (xLF (ic (N:=xVq) (js:=[none,some 4]) (cl:=[("_law_number",xB2 1)]) (g:=xhV) rfl ⟨rfl,Z8,Z8,Z7,λ x c h=>(by show xBs (gN h);rfl),λ x hx=>(by obtain rfl:=sk hx;exact xbs),rfl,λ i x j h1 h2=>?c2⟩ (xsk xco) (λ fp s H=>xA1 DL) (λ fp s H=>xbv xJm (xCG (xcQ GM Mw Mi No PP)))))) (ac (aF (xuS (xv7 xa9) (xa5 xyA Ps xe8)) (xaF 7 M1.nd (ak bi (xoO χ) xJd) (xmd M1.nd (xLF (xqo Ps xgi (xbv xgi xco))))) (xLV Ps (xCG χ)))))))))) (xkW a6 Ps bM No)))
 case c1=>show xpU (rP h1 h2) (xMk (λ c h=>h))
 case c2=>show xpU (rP h1 h2) (xMk (λ c h=>h))
 show xcC (ao λ R1 g1=>xju (xdB l0 n0));show xnW;refine xdd (Ψ (λ m σ H2=>∃v4 v5 v6 v7 l A t,m=s-t/\σ=[xAG,xi0,xeu,UV t,v4,v5,v6,v7]/\t≤A.length/\A.length≤s+20/\xfd A/\xh3=XL (A.map vN)/\Ι/\xjZ) ⟨s,none,none,none,none,l0,[],0,rfl,rfl,xan,xan,(xmx h h),i',n0,aj n0⟩)
 rintro m σ H2 ⟨v4,v5,v6,v7,l,A',t,rfl,rfl,ht,hA,hb,hl,nl,sm⟩;refine⟨_,rfl,l,_,rfl,xab hl,_,rfl,_,_,rfl,rfl,_,rfl,?_⟩
 try dsimp only
 show Uf EA xj5
 rotate_left
 ·have Np:s≤A'.length:=by
   have:=Il (LA _▸h1);lia
  refine g1 _ _ ⟨_,rfl,_,rfl,_,rfl,l,_,rfl,xIF,P3 l2 n2⟩
  try dsimp only
  rw [dJ,<-GV];exact k l2 (A'.take s) _ (sm.trans (aj n2)) (none_of sm n2) i' (by show xs3 (FR Np)) λ b MX=>xj4 (FN MX)
 clear g1;have Mb:A'.length<s:=by show xaE xt8 xx2
 show xgt (λ σ' H' z=>z) ⟨_,rfl,_,rfl,c,LT t,rfl,xu5,xj9 (xgQ [_,_,_] xcB (xaZ 520 (xa2 (xlN 20))) IO 1000 hs (Ez ht hA)),xaa⟩;show xjh (xuR _ rfl xaa);generalize xRT (LT t)=n;show xoI g1 (xc0 _ _ rfl (by show xeq 5) xaa) g1 g1 ⟨_,rfl,_,_,rfl,rfl,xeG,_,_,rfl,rfl,(by show xeq 20),_,_,rfl,rfl,xaa⟩ g1;obtain⟨L,PY,Sl,eL⟩:∃L,Ν L/\L≤20/\xcv+xb4/5%20=LT L:=⟨1+n/5%20,Fg 1 (_/5%20),(xfN NE 20 xfL 20 xXy),(xid xfL xfL xfL xfL)⟩;have e256:xb4/100%256=LT (n/100%256):=(xid IO IO IO IO);have Zr:xch (n/100%256):=xls
 try dsimp only
 rw [eL];have J:∀v7 (l2:LV) (S:Fr) (H3:Hp),xdO 1->xIA 20->xfd S->H3 l2=xah (A'++S)->Χ l2->xef H3->xdo (m'<s-t/\∃(v4 v5 v6 v7':xdu) (l':LV) (A2:Fr) (t':Nat),m'=s-t'/\[xAG,xi0,xap l2,xio (LT t+1),xhk,xio (xb4%5),xio (LT L),v7]=[xAG,xi0,xap l',UV t',v4,v5,v6,v7']/\xWY t'/\A2.length≤s+20/\xfd A2/\H3 l'=XL xUJ/\Χ l'/\xef H3):=
  λ v7 l2 S H3 h1 h2 h3 h4 h5 h6=>⟨s-(t+1),xOo (Fq ht Mb),_,_,_,v7,l2,A'++S,t+1,rfl,rfl,by show xhY (Ez ht h1),by show xhY (xae [_,_,_] xmQ (xeW 2 20) Pi (xeW 2 20) Mb h2),λ b MX=>xmk MX xj4 (h3 b),h4,h5,h6⟩
 have one:xe3 [n/100%256]:=λ b MX=>by show xjG MX Zr
 have fin:∀{v7:xdu} {lj:LV} {S:Fr} {H3:Hp},xrW H3->H3 lj=xgl->xdO 1->xIA 20->xfd S->Yk xa0 (.ref lj) H3 λ v H4=>xdo (m'<s-t/\∃(v4 v5 v6 v7':xdu) (l':LV) (A2:Fr) (t':Nat),m'=s-t'/\[xAG,xi0,xaw,xio (LT t+1),xhk,xio (xb4%5),xio (LT L),v7]=[xAG,xi0,xap l',UV t',v4,v5,v6,v7']/\xWY t'/\A2.length≤s+20/\xfd A2/\H4 l'=XL xUJ/\Χ l'/\xLb):=
  λ {v7 lj S H3} s3 h3 h1 h2 hS=>⟨l,lj,_,_,rfl,rfl,xbZ hl,h3,aW (by rw [EA,EA];exact xlR [_,_,_] xPv (xaZ 520 (xa4 (xeW 2 20) 20)) Pi hs (Ez hA h2)),λ l5 n5=>by
   show xba EO (J v7 l5 S _ h1 h2 hS i' (xIy xNi) ((xNi).trans (aj n5)))⟩
 refine xv5 xfA
 ·refine⟨_,rfl,_,rfl,_,_,rfl,rfl,xeG,_,_,rfl,rfl,(by show xz7),(by show xkB),P3 l3 n3⟩
  try dsimp only
  rw [e256];have s3:=xa1 [vN (n/100%256)] n3;refine⟨_,rfl,l3,_,_,rfl,rfl,i',IV (2^63) _,Z5,aW (by show 1*_≤_;lia),P3 l4 n4⟩
  try dsimp only
  rw [E2,ip];have s4:=xbe (List.replicate L (n/100%256)) n4;show xgk (fin xNI i' (by show LE Fd PY) (by show LE Fd Sl) (P3 b MX)) (List.eq_of_mem_replicate MX) Zr
 refine xv5 xfA
 ·refine⟨_,rfl,_,rfl,_,rfl,Z5,xEh Sl,?_⟩
  try dsimp only
  show Uf E2 (qy (v:=xcG) (xlO 20 1000 Sl) rfl (λ j H4 Q4 hj _ h4=>?_) ?_ (λ lj S H4 nj s4 h4 QB hb4=>fin s4 h4 (Ku PY QB.symm) (Hm QB Sl) hb4))
  ·refine⟨_,rfl,_,rfl,_,_,rfl,xd1,xj9 (xlO 1000 1000 hj),_,_,rfl,rfl,xeG,_,_,rfl,rfl,(by show xz7),?_⟩
   try dsimp only
   show LE (Ω (LT xRK/7%256) (LT (xRK/7%256)) (Ih (xY1 rfl))) (h4 _ xls)
  ·rintro σ H A B h ⟨v,e1,v2,e2,c',k',e5,e6,e7,i,j,f1,f2,f3,i2,j2,f4,f5,f6,z⟩;exact⟨v,e1,v2,e2,c',k',e5,e6,e7,i,j,f1,f2,f3,i2,j2,f4,f5,f6,xh7⟩
 refine xv5 xfA
 ·refine⟨_,rfl,_,rfl,_,rfl,IV (2^62) _,xEh Sl,?_⟩
  try dsimp only
  show Uf E2 (qy (v:=xcG) (xdj Sl) rfl (λ j H4 Q4 hj _ h4=>?_) ?_ (λ lj S H4 nj s4 h4 QB hb4=>fin s4 h4 (Ku PY QB.symm) (Hm QB Sl) hb4))
  ·refine⟨_,rfl,_,_,rfl,rfl,xeG,_,_,rfl,rfl,(by show xeq 250),_,rfl,_,rfl,_,_,rfl,xd1,LK rfl rfl hj,_,_,rfl,rfl,xeG,_,_,rfl,rfl,(by show xeq 3),_,_,rfl,rfl,?_⟩
   try dsimp only
   show LE (show xb4/100%250+LT xRK/7%3=LT (n/100%250+xRK/7%3) by exact(xjy [_,_] Pi Pi [_,_] Pi Pi)) (h4 _ (xmg [_,_] xrj (xm4 250 3) xeF 256 xXy xXy))
  ·rintro σ H A B h ⟨v,e1,i,j,f1,f2,f3,i2,j2,f4,f5,f6,v3,e3,v2,e2,c',k',e5,e6,e7,i3,j3,g1,g2,g3,i4,j4,g4,g5,g6,i5,j5,g7,g8,z⟩;exact⟨v,e1,i,j,f1,f2,f3,i2,j2,f4,f5,f6,v3,e3,v2,e2,c',k',e5,e6,e7,i3,j3,g1,g2,g3,i4,j4,g4,g5,g6,i5,j5,g7,g8,xh7⟩
 have app:∀{v7:xdu} {H3:Hp},xrW H3->RG xa0 [vN (n/100%256)] H3 λ v H4=>xdo (m'<s-t/\∃(v4 v5 v6 v7':xdu) (l':LV) (A2:Fr) (t':Nat),m'=s-t'/\[xAG,xi0,xeu,xio (LT t+1),xhk,xio (xb4%5),xio (LT L),v7]=[xAG,xi0,xap l',UV t',v4,v5,v6,v7']/\xWY t'/\A2.length≤s+20/\xfd A2/\H4 l'=XL xUJ/\Χ l'/\xLb):=λ {v7 H3} s3=>xdc l _ _ rfl (xbZ hl) (bz (by show xaT (xlR [_,_] xaR (xaZ 520 (xlN 20)) IO hs hA))) (J v7 l [n/100%256] _ Tl (by show xjz (Ν 20)) one (by rw [i',EO];rfl) nl λ e o z=>by show xjv z nl (xbZ (xhK z)))
 refine xv5 xfA
 rotate_left
 ·refine aS ⟨_,rfl,xhj hl,_,rfl,_,_,rfl,rfl,xeG,_,_,rfl,rfl,(by show xz7),?_⟩
  try dsimp only
  show LE e256 (app (Mf.refl _))
 ·refine xgG rfl Z9 (λ le ne=>⟨l,le,A'.map λ b=>xd4,[],rfl,rfl,?_,xyl,_,rfl,xc9 h h⟩)
  ·show xba gU (Mm.of (aj ne _ _ hl))
  ·have hA0:0<A'.length:=by
    cases A' with
    |nil=>show xbG
    |cons _ _=>exact xrl
   have s3:=xDo ne;have NS:=xbZ hl;show xsV (xjV le []) H3 (xdd ⟨_,rfl,_,_,rfl,rfl,xeG,_,rfl,l,_,rfl,xab NS,_,_,rfl,rfl,(by show xcU<xq0 (A'.map vN);show xaT (KW.mpr hA0)),xaa⟩) g1;have TF:n/100%A'.length<A'.length:=Hf _ hA0;have ebe:xb4/100%xq0 (A'.map vN)=LT (n/100%A'.length):=by rw [EA,Int.natCast_emod,Int.natCast_ediv];rfl
   try dsimp only
   rw [ebe];show xbU (n/100%A'.length) be ⟨_,rfl,_,rfl,_,rfl,_,rfl,_,rfl,_,rfl,_,_,rfl,rfl,_,rfl,l,_,rfl,Mm.of NS,P3 lc nc⟩
   try dsimp only
   rw [Ω (LT be+LT L) (LT (be+L)) (JU _ _),gX _ Z5,Ω (be+L-be) L (Ii _ _),<-G9,<-GV];exact fin (s3.trans (aj nc)) i' (by rw [ER,EN];exact xUn ⟨PY,IW TF⟩) (by show xs3 (EF xfV Sl)) λ b MX=>xj4 (xJM MX)
  ·refine⟨_,rfl,xhj (aj ne _ _ hl),_,rfl,_,_,rfl,rfl,xeG,_,_,rfl,rfl,(by show xz7),?_⟩
   try dsimp only
   show LE e256 (app (aj ne))
universe K30.Ck
namespace CK
def Cs {w s:Nat}(hw:0<w)(hs:s<2^w):xO5 w 1=xhH (2^w) (s*2):=by
 rw [IR];have e:2^w=2^(w-1)*2:=by rw [<-Gj];congr 1;exact xMj hw
 have hp:0<2^(w-1):=xgU;have Mb:s/2^(w-1)<2:=KJ (EW hs e);by_cases h:2^w≤s*2
 ·have:Ν (s/2^(w-1)):=xYK hp Z5;have e1:s/2^(w-1)=1:=Nat.eq_of_le_of_lt_succ this Mb;rw [e1];simp [h]
 ·have:s/2^(w-1)=0:=Ji Z5;rw [this];simp [h]
def D2 {w p s:Nat}(hw:0<w)(hp:p<2^w)(hs:s<2^w):xhr s=if xO5 w 1 then(s*2)^^^(2^w+p) else s*2:=by
 show xci T (Cs hw hs);by_cases h:2^w≤s*2
 ·show xWl h if_true;have e1:s*2%2^w=s*2-2^w:=by
   rw [Nat.mod_eq_sub_mod h,Gx Z4]
  have e2:s*2=(1*2^w)^^^(s*2-2^w):=by
   rw [dS 1 _ w Z4];omega
  have e3:2^w+p=(1*2^w)^^^p:=by
   show xcj (dS 1 _ w hp)
  rw [e1,e3]
  conv=>rhs;rw [e2]
  rw [JX (1*2^w) p,<-HB,JX (1*2^w),HB,HB,JX p,<-HB (1*2^w),Nat.xor_self,Nat.zero_xor]
 ·simp only [h,decide_false,JP,Hj,Nat.xor_zero];exact Gx (Jj h)
noncomputable def lay (w m s V:Nat):Nat:=(s*2^m)^^^((V%2^m)*2^w)
def ll {w m s V:Nat}(hw:0<w):xzH (m+1) s V=((s^^^((V/2^m%2)*2^(w-1)))*2^(m+1))^^^((V%2^m)*2^w):=by
 unfold lay;have e1:V%2^(m+1)=((V/2^m%2)*2^m)^^^(V%2^m):=by
  rw [dS _ _ m xXz,Gj,LS,F2 (2^m),Ix]
 have e2:(V/2^m%2)*2^(w-1)*2^(m+1)=(V/2^m%2)*2^m*2^w:=by
  rw [FV,FV,<-Hh,<-Hh];congr 2;lia
 rw [e1,<-dU,<-dU,e2,HB]
def yR {w m s V:Nat}(hw:0<w)(hs:s<2^w):(xzH (m+1) s V).testBit (w+m)=(s^^^((V/2^m%2)*2^(w-1))).testBit (w-1):=by
 rw [ll hw,LJ,Nat.testBit_mul_two_pow];have h1:Μ (((V%2^m)*2^w).testBit (w+m)):=by
  apply Kk;rw [Hh,F2 (2^w)];exact xIC xgU xXz
 have h2:m+1≤w+m:=Z5;rw [h1,show w+m-(m+1)=w-1 by lia];simp [h2]
def yc {w p m s V:Nat}(hw:0<w)(hp:p<2^w)(hs:s<2^w):
  (xbc ((xzH (m+1) s V)/2^(w+m)%2) 1 (xzH (m+1) s V^^^((2^w+p)*2^m)) (xzH (m+1) s V))=xzH m (xhr (s^^^((V/2^m%2)*2^(w-1)))) V:=by
 show xaK hb (yR (m:=m) (V:=V) hw hs) IR hb;have hs1:s^^^((V/2^m%2)*2^(w-1))<2^w:=by
  refine Lb hs ?_;have e:2^w=2*2^(w-1):=by rw [<-J3];congr 1;lia
  show xfs (xIC xgU xls)
 rw [D2 hw hp hs1,<-hb,ll hw];generalize s^^^((V/2^m%2)*2^(w-1))=u at*;unfold lay;by_cases h:(u*2^(m+1)^^^V%2^m*2^w)/2^(w+m)%2=1
 ·show xWl h if_true;rw [<-dU,J3,<-FV,HB,HB,JX (V%2^m*2^w)]
 ·simp only [h,decide_false,JP,Hj];rw [J3,<-FV]
noncomputable def dv (w p n:Nat):xby xbz
 |0,N=>N
 |k+1,N=>xbc (dv w p n k N/2^(n+w-1-k)%2) 1 (dv w p n k N^^^((2^w+p)*2^(n-1-k))) (dv w p n k N)
theorem D7 {w p:Nat}(hp:p<2^w):∀(m s V:Nat),s<2^w->xma m V<2^w
 |0,s,V,h=>h
 |m+1,s,V,h=>Cv hp
theorem AA {w p n s V:Nat}(hw:0<w)(hp:p<2^w)(hs:s<2^w)(hV:V<2^n):∀k,xwJ->dv w p n k ((V*2^w)^^^(s*2^n))=xzH (n-k) (xma k (V/2^(n-k))) V
 |0,_=>by
  unfold dv lay F;rw [IK,Gx hV,JX]
 |k+1,h=>by
  have ih:=AA hw hp hs hV k (G1 h);have e:n-k=(n-(k+1))+1:=Z5;unfold dv;rw [ih,show n+w-1-k=w+(n-(k+1)) by omega,show n-1-k=n-(k+1) by lia,e];rw [yc hw hp (D7 hp _ _ _ hs)];congr 1;show _=xhr (xma k (V/2^(n-(k+1))/2)^^^_);rw [Kj,<-Gj]
def dv_end {w p n s V:Nat}(hw:0<w)(hp:p<2^w)(hs:s<2^w)(hV:V<2^n):dv w p n n ((V*2^w)^^^(s*2^n))=xma n V:=by
 rw [AA hw hp hs hV n Tl];unfold lay;simp [Nat.mod_one]
universe CK
namespace K30.Ck
open PySem L2 QQ W17 W16 BP
seal PE PA PS PSs PT PW PG PI
abbrev k5:L7:=top 132
abbrev jx:L7:=top 133
abbrev rz:L7:=top 134
abbrev mZ:L7:=top 143
def yZ:xGz .LShift (λ i j=>0≤j/\j≤1000000/\i.natAbs<2^100000) (i*2^j.toNat):=opI λ i j _ _ _ _ _ hc q=>by
 refine PyProof.Rows.lshift_int hc.1 ?_ q;have:=PyProof.Rows.intBits_le (xbM hc);have:=Ξ hc;lia
def De (hw:WP w p)(hb:xAN):chk w p B=CK.F w p xdA (2^w-1) xWj:=by
 show xc2 chk (Ar B.length B rfl hb) (CK.G_F hw.facts.1)
def NN:ST ["_law_row","_law_wide","_law_number","_law_byte","_law_size","_law_divisor","_law_k"] xx0 k5:=Os
inductive W8 (vs:M2) (H:Hp) (Q:VK) (Ml:XK):Prop
 |mk (a:LV) (B:Fr) (n p:Nat) (h0:vs=[Γ,xcG]) (h1:WP n p) (h2:UF=xfQ) (h3:xAO) (h4:xNY) (h5:xez (Κ->xmZ (chk n p B))):W8 vs H Q Ml
def jA (F:Δ "_law_check" k5 xx0)(X:xcH):xdl xx0 W8:=by
 show xau NN (λ L9 A outer st H vs Q E hr h=>?_);obtain⟨a,B,n,p,rfl,hw,ha,hb,hlen,q⟩:=h;obtain⟨h8,VW,hodd,hp⟩:=hw.facts;show xax (xcl 2 NN.nd ad (xnc PP 3 NN.nd (xmd NN.nd (xbv (xf3 cj Ps) TD))) (xdD 4 NN.nd (xuC (xRw eM JI xoQ)) 2 NN.nd (ak ou (ak yZ Ps No) (xLr (xlu (xFO No)) χ)) (xa6 5 NN.nd (xbv (xFO No) (xq2 (aQ (xmU ad)) (xDa iN X.int Jw (dm bd No ad xrz)))) (xg0 (xsk χ) 6 NN.nd (xg3 bd (xk4 (xzJ Ps (xdz (xlu (xbv χ No)) xco))) ad (xtb 2 NN.nd (ak ou Ps (xLr xa9 (xdz (xlu χ) xco)))) az)) Ps))) (xvg a ha (xn4 K a xeC (λ i σ H2=>∃v,σ=[xaQ,xhk,UV (BP.val xqK),v,none,none,none]/\H2=H) xC2 (λ i σ H2 _ z9=>by show xCr e;exact by show xfs xVW) ?_ ?_))
 ·rintro i y σ H2 hi ⟨v,rfl,rfl⟩;show xlv b MR hi;refine⟨_,rfl,_,_,rfl,rfl,xQG,_,rfl,_,_,rfl,rfl,?_⟩;have e:XV (BP.val xqK)*256+xpx=LT (BP.val (B.take (i+1))):=by rw [xFj,BP.NC];lia
  exact xee xhl (xBG z [xqN a,xhk,xU8 z,xhl,none,none,none] e)
 show xwp σ H2 v rfl;rw [EA,Fs];show xaK hV (BP.Oi hb) BP.OY hV;have eL:xkd*xmm xeC=LT xdA:=by show xpO
 have eS:LT xdA+xay=LT (xdA+n):=JU _ _;have e1:xcv*2^(xb4).toNat=LT (2^n):=by have:=eV 1 n;show xmD
 have MW:Ν (2^n):=Nat.one_le_two_pow;have e2:LT (2^n)-1=LT (2^n-1):=xmy MW;refine⟨_,rfl,a,_,rfl,xab ha,_,_,rfl,rfl,xuj,?_⟩
 try dsimp only
 show Uf eL ⟨_,rfl,_,rfl,_,_,rfl,rfl,Ψ xd1 (xqu (xdj VW)),_,rfl,_,_,rfl,rfl,⟨xd1,xqu (xdj VW),Z9⟩,?_⟩
 ·show LE Lf (EM hV (xiT Z5))
 try dsimp only
 show xs5 xJ3
 try dsimp only
 rw [e2];have h216:2^n≤2^16:=xiT VW;refine xc0 _ _ rfl ⟨xd1,Z5,by show LE Lf (Fq xet (xo1 h216))⟩ ?_
 try dsimp only
 rw [eV,eV];refine xJ3
 try dsimp only
 rw [iy];generalize hN0:(xWj*2^n)^^^((2^n-1)*2^(xdA))=N0;refine xc0 _ _ rfl ⟨xd1,xqu (xdj VW),Z9⟩ ?_
 try dsimp only
 show xs5 (xih (by show xdn) l1 Oq (xc8 _ rfl (.inr xxJ)));have s1:xrW (xjV l1 [.int 29,.int 45]):=aj Oq;have hdiv:∃j:Nat,(xcA (xIH xcG 16) xcv 0)=xE7/\xfZ ([V.int 29,V.int 45]:M2)=xnE:=by
  show xOq hw rfl rfl rfl
  ·exact xrc 0
  ·exact xrc 1
 obtain⟨j,ej,hj⟩:=hdiv
 try dsimp only
 show Uf ej ⟨l1,_,_,xke,rfl,rfl,xyl,ax hj,_,_,rfl,rfl,?_⟩;have eD:LT (2^n)+xAC=LT (2^n+p):=JU _ _
 try dsimp only
 show Uf eD (xoF _ _ rfl Z5 Z5 (xnN 0 (xCF xdA) (λ i σ H3=>∃v6,σ=[xaQ,xhk,UV (CK.dv n p xdA i N0),v,UV xdA,UV (2^n+p),v6]/\H3=xjV l1 [.int 29,.int 45]) xC2 ?_ ?_))
 ·rintro i σ H3 hi ⟨v6,rfl,rfl⟩;rw [E2] at hi;have e0:xcU+xer=xer:=Z5;rw [e0];have ea:LT xdA+xay-1-xer=LT (xdA+n-1-i):=Z5;have eb:LT xdA-1-xer=LT (xdA-1-i):=Z5;refine⟨_,rfl,_,rfl,_,rfl,_,_,rfl,rfl,_,_,rfl,rfl,_,rfl,_,_,rfl,rfl,?_⟩
  try dsimp only
  show Uf ea (xeO _ _ rfl Z4 ?_)
  try dsimp only
  rw [gk];generalize hM:CK.dv n p xdA i N0=M at*;have eS2:CK.dv n p xdA (i+1) N0=xbc (M/2^(xdA+n-1-i)%2) 1 (M^^^((2^n+p)*2^(xdA-1-i))) M:=by rw [<-hM];rfl
  refine⟨_,_,rfl,rfl,(by show xeq 2),rfl,_,rfl,xj5⟩
  ·have NU:M/2^(xdA+n-1-i)%2=1:=by show xaE (xCd h1) (Ih ((xTY) this.symm))
   rw [E5 NU] at eS2;refine⟨_,rfl,_,rfl,_,rfl,_,_,rfl,rfl,_,rfl,_,_,rfl,rfl,?_⟩
   try dsimp only
   show Uf eb (xeO _ _ rfl (Ψ (Fu (8*_-1-_)) Z5) ?_)
   ·show xcj Lf
   try dsimp only
   show Uf eV xJ3
   try dsimp only
   rw [iy,<-eS2];exact xPm
  ·have NU:¬M/2^(xdA+n-1-i)%2=1:=λ e=>h1 (EJ (xB9 (Ih (Nat.ToInt.of_eq rfl rfl e.symm))))
   rw [ES NU] at eS2;show LE eS2 xPm
 ·show xwp σ H3 v6 rfl;refine xxJ;rw [E2,<-hN0,CK.dv_end (Lm h8) hp Z5 hV,<-De hw hb];exact q _ s1
def ui (h:n<65536): [V.int (xb4/256),xsd xb4 256]=Ρ (two n):=by
 have e1:xb4/256=LT (n/256):=Ih (xY0 rfl);have e2:xb4%256=LT (n%256):=Z5;rw [e1,e2];rfl
def S8:ST ["_law_row","_law_check_here"] xqL jx:=Os
def iS {f fC:LV}(F:Δ "_law_sealed" jx xqL)(Ch:xT1 k5 xx0 fC fdC)(X:xcH):xsA xqL N1:=by
 show xau S8 (λ L9 A outer st H vs Q E hr h=>?_);show xiN a R rfl ha hb hl k;show xgt (xaF 1 S8.nd (xwk (jA Ch X) Ch.m Ch.F.kp Ch.b bf (xmU PP)) (xy8 PP (xE2 (xoO No) xPS))) ⟨_,rfl,a,R,16,45,rfl,iM,ha,hb,hl,xdB H1 s1⟩;have hc:xmu R<65536:=xzD;refine⟨_,rfl,_,rfl,_,_,rfl,rfl,xeG,_,rfl,_,_,rfl,rfl,(by show xz7),(by show xdn),xnl⟩
 try dsimp only
 rw [ui hc];have s2:=xbe xrH n1;have PZ:xd8 H1 l1 xrH l1=xah xrH:=i';have Of:=xcg xlp;have NJ:=xfz;show xiV H1 l1 xrH H2 ⟨a,l1,_,_,rfl,rfl,Of,PZ,aW (by rw [EA];show xiX (R.length+2);lia),xgo⟩;exact xp8 (xoG NJ) xUe (by rw [i',<-EO];rfl)
inductive UW (vs:M2) (H:Hp) (Q:VK) (Ml:XK):Prop
 |mk (a b c:Nat) (h0:vs=[xAD,xd6,xi1]) (h1:a<4) (h2:xcJ) (h3:xfY b) (h4:xch c) (h5:∀l H',Ι->Κ->xaz=xah (Md (64*a+b-1) c)->xat):UW vs H Q Ml
def U9:ST ["_law_way","_law_count","_law_inside","_law_row"] xOJ rz:=Os
def xc {f fC:LV}(F:Δ "_law_head" rz xOJ)(Ch:xT1 k5 xx0 fC fdC)(X:xcH):xsA xOJ UW:=by
 show xau U9 (λ L9 A outer st H vs Q E hr h=>?_);obtain⟨a,b,c,rfl,ha,MR,hb,hc,k⟩:=h;refine xca (xaF 3 U9.nd (xE2 (xlu (xRC PP No)) Ps) (xy8 TD (xCe (xwk (jA Ch X) Ch.m Ch.F.kp Ch.b bf (xmU TD)))))
 have e1:XV 64*LT a+xd4-1=LT (64*a+b-1):=xmy (Jv MR);show xfD (ao λ R g=>⟨_,rfl,_,_,rfl,rfl,xuj,_,rfl,_,_,rfl,rfl,_,_,rfl,rfl,_,rfl,(by show xdn),λ l hn=>xaB⟩) g
 try dsimp only
 rw [e1];have s1:=xbe [64*a+b-1,c] hn;have h1:xd8 H l [64*a+b-1,c] l=xah [64*a+b-1,c]:=i';refine⟨_,rfl,_,rfl,l,[64*a+b-1,c],8,29,rfl,wp8,h1,λ x hx=>by simp at hx;lia,by show xjz (xbC 2),λ H2 s2=>xen (by show xkB) l2 n2⟩;have s3:=xa1 [vN (xLZ [64*a+b-1,c])] n2;refine⟨l,l2,_,_,rfl,rfl,xyR h1,i',(by show xe7 3),P3 l3 n3⟩;have VJ:=xLm;exact k l3 _ (xO4 VJ) (VJ.trans (aj n3)) i'
def PN:ST ["_law_text_here","_law_size","_law_check_here","_law_row"] xG4 mZ:=Os
inductive UT (vs:M2) (H:Hp) (Q:VK) (Ml:XK):Prop
 |mk (a:LV) (T:Fr) (h0:vs=xbL) (h1:UF=xcf) (h2:xe3 T) (h3:xqS) (h4:∀l H',Ι->Κ->xaz=xah xeK->xat):UT vs H Q Ml
def qd (F:Δ "_law_tail" mZ xG4)(Se:xbD "_law_sealed" jx xqL fS fdS)(Ch:xT1 k5 xx0 fc fdC)(X:xcH):xam 3 xG4 UT:=by
 have GS:=iS (P:=P) (w:=w) (base:=base) Se Ch X;have GR:=jA (P:=P) (w:=w) (base:=base) Ch X;show xau PN (λ L9 A outer st H vs Q E hr h=>?_);show xiN a T rfl ha hb hl k;have Mw:xbg:=Ty;have N3:xnH:=Ty;show xax (xdD 1 PN.nd xug 2 PN.nd (xrv GR Ch PP) (xaF 3 PN.nd (aQ (aa ad (aa ad (aa (xrv GR Ch (aQ (xmU ad))) (xvN ad ad (xoO No) xPS))))) (xbh (xcO GS N3 Se (xfb TD (xE2 (xoO Ps) (xk4 Ps))))))) (xbA (xrQ a ha xaB));clear g;rw [EA];show xd9 ⟨_,rfl,a,T,16,45,rfl,iM,ha,hb,hl,λ H1 s1=>xaB⟩;have hc:xmu T<65536:=xzD;refine xbA (xen (by show xdn) l1 n1)
 have s2:=xbe [0,0] n1;show xlx ⟨l1,[0,0],8,29,rfl,wp8,i',λ x hx=>by simp at hx;lia,by show xjz (xbC 2),P3 H3 s3⟩ ⟨_,rfl,_,_,rfl,rfl,xeG,_,rfl,_,_,rfl,rfl,(by show xz7),(by show xe7 7),λ l4 n4=>xaB⟩ g;have VJ:=xLm;have e7:([xek,xek,vN (xLZ [0,0]),xek,xek,V.int (xVf/256),xsd xVf 256]:M2)=Ρ (xho++xxD):=by
  have e1:T.length/65536%65536=0:=by lia
  have e2:T.length%65536=T.length:=by lia
  show xc2 four e1 e2;rfl
 try dsimp only
 rw [e7];have s4:=xbe (xho++xxD) n4;have Sa:xd8 H3 l4 (xho++xxD) l4=xkx xho xxD:=i';show xiV H3 l4 (xho++xxD) H4 ⟨_,rfl,_,rfl,_,_,rfl,rfl,xeG,_,rfl,_,_,rfl,rfl,(by show xz7),(by show xdn),xvX⟩
 try dsimp only
 rw [ui hc];have s5:=xbe (xxv T) n5;refine⟨l4,l5,_,_,rfl,rfl,xbb Sa,i',aW (by show xjz (xiX (7+2))),P3 l6 n6⟩;rw [<-EO];have s6:=(xNw).trans (xbe (xho++xxD++xxv T) n6);refine⟨l6,xho++xxD++xxv T,rfl,i',P3 b MX,(by show xjz (xbC 9)),λ l7 H7 n7 s7 h7=>?_⟩
 ·show xbX MX MX MX
  ·show xbX MX MX MX
   ·exact cX Z9 Z9 b MX
   ·simp [four,two] at MX;lia
  ·simp [two] at MX;lia
 ·have sF:=VJ.trans s6;exact k l7 H7 (none_of sF n7) (sF.trans s7) h7
universe K30.Ck
namespace L2
open PySem PySem.Spec PyProof.Rows QQ
theorem kY:∀{ys:xaO} {us:xa3},xqG xTZ->∃l:xtj Tok,us=strValues l/\l.map (·.1)=ys
 | [],us,r=>by
  cases r;exact xrc []
 |y::ys,us,r=>by
  obtain⟨u,us',rfl,ru,r'⟩:∃u us',us=u::us'/\xGN (V.str y)/\Vals xTZ us':=by
   cases r with
   |cons a b=>exact xnV a b
  show xc4 t ru;show xbp l rfl e (kY r') (xf2 ((y,t)::l) (by simp [e]))
inductive rJoin (x:V) (vs:M2) (H:Hp) (Q:VK):Prop
 |mk (sep:Str) (l:LV) (ys:xaO) (h0:x=.str sep) (h1:vs=[xa0]) (h2:xjm=XL xTZ) (h3:SL (JoinOk sep ys)) (h4:xXK (Txt.join sep ys)):rJoin x vs H Q
def yz {X:Cx}:MtR X "str.join" rJoin:=by
 intro L8 s σ H x vs v us Q I rx rv h;obtain⟨sep,l,ys,rfl,rfl,hH,ok,q⟩:=h;show xjU;show xlL u ru (fK rv) ru;show xyI z its n r hl e hH;show xbd l2 rfl e2 (kY r) (SC.join (D:=l) (l:=l2) (xbI _ e _ rfl) e2 ok (P3 t' k))
 exact xgu (.str (Txt.join sep ys)) xcS xbs q
inductive Zq (x:V) (vs:M2) (H:Hp) (Q:VK):Prop
 |mk (a:LV) (Mn:xuU) (k:Key) (d v:V) (h0:x=Γ) (h1:vs=[xE6,d]) (h2:xsg a) (h3:xpc=xaw) (h4:xf0 v):Zq x vs H Q
def yG {X:Cx}:MtR X "dict.get" Zq:=by
 intro L8 s σ H x vs v us Q I rx rv h;obtain⟨a,Mn,k,d,v',rfl,rfl,e,l,q⟩:=h;show xeE u u2 ry rd (sL rv);show xsa z hd vs dd (Au I.hok e);obtain⟨w',hw,Vm⟩:=NX.some_of (v:=v') (o:=xI0 vs) (by show xba l xMM);cases(Ω v xfB rx);show xgk (call_meetsIn PySem.F.slot_dict_get dd.typeIs PySem.F.entry_dict_get (PySem.F.args_dict_get_3 _ _ _) (meets_dict_get_default (bX X.prog X.w) a xI8 hd u2) (xca dd.mapOf)) hw (xgu v' xcS Vm q)
def vt (L:List Θ):Txt.join xHa (L.map txt)=txt L.flatten:=by
 have e0:(xHa)=xIs:=by decide+kernel
 show Builtin.Str.glued _ _=_;rw [StrLaws.glued_eq_join,e0];have key:∀(L:List Θ) (b:Θ),Str.join xIs ((b::L).map txt)=txt (b::L).flatten:=by
  intro L
  induction L with
  |nil=>
   intro b;have:(b::([]:List Θ)).flatten=b:=by simp
   show xak this
  |cons a L ih=>
   intro b;show xEX++xIs++Str.join xIs ((a::L).map txt)=_;rw [ih a];have e:xEX++xcx xIs=xEX:=Str.append_right_empty rfl;rw [e,L2.Ol];rfl
 cases L with
 |nil=>rfl
 |cons b L=>exact key L b
def A3 (bs:Θ):(!(Builtin.Str.occurrences xoD (txt [true]) 0 (xoD).length 1).isEmpty)=xIP true bs:=by
 rw [xce (txt [true]) ⟨#[sgn true]⟩,StrLaws.found_one,dn];congr 1;show Uf Hk (propext ⟨xc5 z9,λ h=>xee true h⟩);obtain⟨b,h,e⟩:=z9;cases b with
 |true=>exact h
 |false=>show xaq e (by decide)
section
variable {X:Cx}
inductive Ux (i j m:Nat) (D:Ends) (σ:St) (vs:M2) (H1:Hp):Prop
 |mk (v w z:V) (h0:vs=[v,w,z]) (h1:D.nx (((σ.set m (some z)).set j (some w)).set i xaw) H1):Ux i j m D σ vs H1
def CV (i j m:Nat)(ta:TA):TS:=λ D σ H=>xFV vs (Ux i j m D σ vs H1)
def zX {i j m:Nat}{x y z:Str}{a b c:L5}{ta:TA}{px py pz pt pos:Pos}{kt k2 pt2}(hN:X.N.Nodup)(hi:xuT=xas)(hj:xbS X.N j y)(hm:xbS X.N m z)
    (hx:xqz=xf5) (hy:x0E y xf5) (hz:x0E z xf5) (ha:xjT [a,b,c] ta)
    (hw:swappedStores [.Tuple [xCc px,.Name y py,.Name z pz] kt pt] (.Tuple [a,b,c] k2 pt2) X.env=pure (some [x,y,z]))
    (hs:xal (swapsWithSole [.Tuple [xCc px,.Name y py,.Name z pz] kt pt] (.Tuple [a,b,c] k2 pt2) pos.line X.env=xCH)):
    xIp [.Tuple [xCc px,.Name y py,.Name z pz] kt pt] (.Tuple [a,b,c] k2 pt2) pos (CV i j m ta):=by
  intro L8 s σ H D I h
  show Uf exec_Assign_arm (xMQ ?_)
  show Uf hs xuv
  show xrT Z9 (EG (Tuple_ (xk0 (ha _ L8 s σ H _ I h) us)))
  show xm0 vs
  obtain⟨v,w,y3,e1,q1⟩:=q1
  subst e1
  obtain⟨u1,u2,u3,rfl,rv,Vm,r3⟩:∃u1 u2 u3,us=[u1,u2,u3]/\xRX u1/\RelV w u2/\RelV y3 u3:=by
    cases r1 with
    |cons p q=>
      cases q with
      |cons p' q'=>
        cases q' with
        |cons p2 q2=>
          cases q2
          exact xjj _ _ _ p p' p2
  refine IA ?_ (by show xe7 3)
  have I2:xij H1 {s1 with heap:=s1.heap.push (xXW (xBR [u1,u2,u3]))}:=xV0 (λ b o e=>xd0)
  show Uf hw xuv
  show xjt (do rule "assign.swapped-stores";let items<-unpackItems xTa 3 none;assignInOrder [λ v=>xCb z v,λ v=>xCb y v,λ v=>xCb x v] items.reverse;x02) _ _ _
  refine EG (Ij (EG (QQ.Oc (items:=#[u1,u2,u3]) I2.hq (xWU s1.heap) (P3 h' ZD))))
  have I3:=I2.kept (h':=h') (t':=s1.toks) λ b o e=>ZD b o xDt e
  show xtB (assignInOrder [λ v=>xCb z v,λ v=>xCb y v,λ v=>xCb x v] [u3,u2,u1]>>= λ _=>x02) _
  show xxq (xTy (fZ I3 hN hm (.inl hz) r3 (P3 s2 I4) (.inr hz))) (xTy (fZ I4 hN hj (.inl hy) Vm (P3 s3 I5) (.inr hy)))
  refine xTy (fZ I5 hN hi (.inl hx) rv (λ s4 I6=>assignInOrder_nil xjC) (.inr hx))
  exact xgG H1 I6 q1
universe s
universe L2
namespace K30.Ck
open PySem L2 QQ W17 W16 BP K30.M
seal PE PA PS PSs PT PW PG PI
abbrev mO:L7:=top 135
abbrev kh:L7:=top 136
abbrev jg:L7:=top 137
theorem jS (n):∀k j,j<k->xqU n k (j+1)=xqU n k j++[xnZ (n/2^(k-1-j)%2)]
 |0,j,h=>nomatch h
 |k+1,0,_=>rfl
 |k+1,j+1,h=>by
  show xnZ (n/2^k%2)::xqU n k (j+1)=xnZ (n/2^k%2)::(xqU n k j++[xnZ (n/2^(k+1-1-(j+1))%2)]);rw [jS n k j (Nat.lt_of_succ_lt_succ h),show k+1-1-(j+1)=k-1-j by lia]
def uc:xcx xHa=txt []:=by decide+kernel
def CI:xTL "01"=txt [false,true]:=by decide+kernel
def AB:xTL "1"=txt [true]:=by decide+kernel
def tP (n:Nat):Tm (Wv (xTL "01").cps.toList (xay%2)) (sgn (xnZ (n%2))):=by
 rw [CI,xce (xay%2) (LT (n%2))];refine ax ?_;rcases JE n with e|e<;>rw [e]<;>rfl
def Bm (b):xdt (V.str xDA) (xTm "1")=b:=by
 rw [AB];cases b with
 |true=>exact xdT
 |false=>exact FZ (xmj e (RE.mp (V.str.inj e)) (by decide))
def ze (A:Fr)(h:xAS):K30.C.bt (A++xey)=K30.C.bt A++dig b 8:=by
 show xc2 K30.C.bt EB NC;refine C10.PV (by rw [EB,Mp,Mp,Mp];rfl) ?_;rw [cR,dg,dg,dg,Mp,Gx (show b<2^8 from h)];have e:2^(8*xcm A xey)=2^(8*A.length)*256:=by rw [EB,EV,J6,Iq,Hh]
 rw [EB] at e;rw [e];generalize 2^(8*A.length)=M;show(xu9*256+b)%(M*256)=xu9%M*256+b;rw [F2 M,LS,F2 xu9,LI,Gx h,JY Z9,Ji h];lia
inductive S5 (vs:M2) (H:Hp) (Q:VK) (Ml:XK):Prop
 |mk (a:LV) (B:Fr) (h0:vs=xbL) (h1:UF=xfQ) (h2:xAN) (h3:xmF 100) (h4:xf0 (xSQ (K30.C.bt B))):S5 vs H Q Ml
def NZ:ST ["_law_row","_law_found","_law_byte","_law_k"] xqL mO:=Os
def u5 (F:Δ "_law_digits" mO xqL)(X:xcH):xdl xqL S5:=by
 show xau NZ (λ L9 A outer st H vs Q E hr h=>?_);show xiN a B rfl ha hb hl k;show xax (xa6 1 NZ.nd de (xnc PP 2 NZ.nd (ac (xg0 (xsk ad) 3 NZ.nd (xhx 1 NZ.nd (ak jV No (aJ xg de (xk4 (xzJ Ps (xdz ad TD))) xkF)))))) No) (xbA xaB);clear g;refine xbA (xvg a ha (xn4 K a xeC (λ i σ H2=>∃v2 v3,σ=[xaQ,xXV xNM,v2,v3]/\H2=H) ⟨none,none,xBG z [xqN a,xVa z,none,none] uc,rfl⟩ (λ i σ H2 _ z9=>by show xtz e z9 (by show xfs xVW)) ?_ ?_))
 ·rintro i y σ H2 hi ⟨v2,v3,rfl,rfl⟩;show xlv b MR hi;have QM:=xSF;have Ny:i<B.length:=xKm MR;refine⟨8,rfl,Z9,Z9,xnN 0 8 (λ j σ H3=>∃v3,σ=[xaQ,xXV (xNM++xqU b 8 j),xhl,v3]/\H3=H2) (xee v3 (by rw [Hx,Fv];rfl)) ?_ ?_⟩
  ·rintro j σ H3 hj ⟨v3,rfl,rfl⟩;have e1:XV 7-(xcU+xE7)=LT (8-1-j):=by lia
   show xcr ⟨_,rfl,_,rfl,_,rfl,_,_,rfl,rfl,?_⟩ e1 (xeO _ _ rfl xd1 ?_);show Uf gk ⟨_,_,rfl,rfl,(by show xeq 2),_,_,_,rfl,rfl,(by show xdn),tP _,_,_,rfl,rfl,?_,?_⟩
   ·show xcN ((txt _).length+1);rw [bj,EB,K30.C.Mu,ER,ER];exact aW (by lia)
   ·have e4:txt (xNM++xqU b 8 j)++xcx ⟨#[sgn (xnZ (b/2^(8-1-j)%2))]⟩=txt (xNM++xqU b 8 (j+1)):=by
     rw [jS _ _ _ hj,<-EE];exact Ol _ [xnZ (b/2^(8-1-j)%2)]
    try dsimp only
    show LE e4 xPm
  ·show xwp σ H3 v3 rfl;exact⟨xhl,v3,by rw [E8 (l:=dig b 8) (by show LE Mp Tl),<-ze _ QM,<-xFj],rfl⟩
 ·rintro σ H2 ⟨v2,v3,rfl,rfl⟩;rw [EA,Fs];exact g _ _ (xaJ k)
inductive UD (vs:M2) (H:Hp) (Q:VK) (Ml:XK):Prop
 |mk (a:LV) (bs:Θ) (p s:Nat) (h0:vs=[Γ,xcV]) (h1:UF=XL [xbE,xke]) (h2:xhz (p+s)) (h3:xND) (h4:Q (vN (xs6 s)) (xfS a [xbE,xia s])):UD vs H Q Ml
def PH:ST ["_law_spot","_law_size","_law_number","_law_digit"] xBX kh:=Os
def o8 (F:Δ "_law_taken" kh xBX)(X:xcH):xdl xBX UD:=by
 show xau PH (λ L9 A outer st H vs Q E hr h=>?_);obtain⟨a,bs,p,s,rfl,ha,hp,hl,k⟩:=h;show xax (xcl 2 PH.nd ad (xg0 (Cg (xkW qG xle (aO xle) (xbv xle No))) 3 PH.nd (xmd PH.nd (xRC Ps (xDa iN X.int Jw (dm bd TD de xrz))))) (xjM (kb (xbv xle No) (jB PP ad gh)) Ps)) (xbA xaB);clear g;have hS:=xO6 K ha;refine xbA ⟨_,rfl,a,_,_,_,rfl,rfl,hS,xev,_,rfl,a,_,_,_,rfl,rfl,hS,xdk,_,rfl,_,rfl,a,_,_,_,rfl,rfl,hS,xdk,_,rfl,_,_,rfl,rfl,_,rfl,_,rfl,aW (by show xcj bj),?_⟩
 have e0:xlU+XV s=xjg s:=rfl
 try dsimp only
 rw [e0,iC xes hp,F3];have hlen:xaI (xp3 s) s:=by rw [ER,EN];lia
 show xbU (xp3 s) u (xaJ (yk (D:=xxX) (λ j σ H3=>∃v3,σ=[xaQ,xi0,UV (xHG j),v3]/\H3=H)
  xC2 ?_ ?_))
 ·rintro j ch σ H3 hj ⟨v3,rfl,rfl⟩;obtain⟨b,hb,ech⟩:=yt hj;show Uf ech ⟨_,rfl,_,_,rfl,rfl,.inl ⟨by decide,by decide⟩,_,rfl,rfl,.inr xxJ⟩;show Uf (Bm b) (xjj _ _ rfl (xVa xDA) ?_ rfl);have e1:XV 2*LT (xHG j)+(xcA b 1 0)=LT (xHG (j+1)):=by
   rw [Ga,hb];show _=LT (num (u.take j++xey));rw [Tq];cases b<;>simp<;>lia
  try dsimp only
  show xak e1
 ·show xwp σ H3 v3 rfl;rw [wg,Fs];refine g _ _ ⟨_,rfl,a,_,_,_,rfl,rfl,hS,xdk,_,rfl,_,_,rfl,rfl,_,rfl,a,_,_,1,rfl,rfl,ha,rfl,?_⟩;exact xaJ k
inductive Qe (vs:M2) (H:Hp) (Q:VK) (Ml:XK):Prop
 |mk (a:LV) (S:Fr) (st b n:Nat) (h0:vs=[Γ,vN st,xd6,xcG]) (h1:UF=xgl) (h2:xcJ) (h3:xdO (st+b)) (h4:n≤100) (h5:xbC S.length) (h6:xez ((∀c o,ω=Id->xcd a->xaY=Id)->(∀c,xac xaY->xsB)->xAw=xah (xwB n)->xcP Γ)):Qe vs H Q Ml
def Tj:ST ["_law_text_here","_law_start","_law_back","_law_size","_law_k"] Jah jg:=Os
def vy (F:Δ "_law_copied" jg Jah)(X:xcH):xdl Jah Qe:=by
 show xau Tj (λ L9 A outer XQ H vs Q E hr h=>?_);obtain⟨a,S,st,b,n,rfl,ha,MR,hb,hn,hl,k⟩:=h;show xax (ab (xzf (xlk cH Ps) (xa5 cF Ps (xdz xug No)))
  (xjM (xg0 (xsk TD) 4 Tj.nd (xLV PP (xjX (xdz xug Ps)))) PP)) (xbA ⟨_,rfl,_,_,rfl,rfl,_,rfl,?_⟩)
 show Uf (FZ (show¬xd4<1 by lia)) (aS ⟨_,rfl,_,rfl,a,_,rfl,xab ha,_,rfl,_,_,rfl,rfl,_,_,rfl,rfl,_,rfl,?_⟩);rw [EA,FZ (show¬xVi-XV st<xpx by lia)];show xfD xqJ g;show xcr (xbA (xoF _ _ rfl (by lia) (by lia) ?_)) E2 (xnN 0 n (λ i σ H2=>∃v4,σ=[xaQ,UV st,xhl,xhk,v4]/\H2 a=xah (xwB i)/\(∀c o,ω=Id->xcd a->xh2=Id)/\(∀c,xac xh2->xsB)) ⟨none,rfl,ha,λ c o e _=>e,λ c e=>e⟩ ?_ ?_)
 ·rintro i σ H2 hi ⟨v4,rfl,h2,fr,nn⟩;have hlen:=bV S b i;have e1:xmm (Ρ (xwB i))-xpx=LT (xxW S i-b):=by show xpO
  show xcr ⟨_,rfl,xhj h2,_,rfl,_,rfl,a,_,rfl,xab h2,_,rfl,_,_,rfl,rfl,?_⟩ e1 ⟨a,_,_,vN ((xwB i).getD (xxW S i-b) 0),rfl,rfl,Mm.of h2,ax ?_,a,_,_,rfl,rfl,h2,bz (by show xpO),_,rfl,?_,λ c o e n=>xh4 (xsE n),P3 c e⟩
  ·rw [FA,E9,EI (by lia)];rfl
  ·rw [i',cpy,EO];rfl
  ·by_cases z:c=a
   ·show xbm i' e e
   ·show π (ai z) e (nn c e)
 ·rintro σ H2 ⟨v4,rfl,h2,fr,nn⟩;exact g _ _ (xaJ (k H2 fr nn h2))
universe K30.Ck
namespace K30.Ck
open PySem L2 QQ W17 W16 BP K30.M C9 C10
seal PE PA PS PSs PT PW PG PI
abbrev on:L7:=top 138
def xq (h:xsf L b L' b')(h1:xb6 L (x≤6))(h2:ah≤6):xb6 L' (x≤6):=by
 induction h with
 |done _=>exact h1
 | @one L L' ah b b' _ _ h7 _ ih=>
  have h8:=Nd (b.take 3);have:2^(b.take 3).length≤2^3:=xiT (Je _ _);have h6:xpz≤6:=by lia
  exact ih (λ x hx=>xOz hx (h1 x) (On (by show LE (List.mem_singleton.1 z) h6))) h6
 |rep _ _ _ _ ih=>exact ih (λ x hx=>xOz hx (h1 x) (On (by show LE (List.eq_of_mem_replicate z) h2))) h2
structure TL (L:Fr)(m q:Nat)(Mn:xuU):Prop where
 len:Mn.length≤272*m+q
 yes:∀u r,xpX r->(xyM m\/xyN m/\r<q)->xtC (xx8 u)=UV r
 no:∀u,(∀r,xpX r->¬(xyM m\/xyN m/\r<q))->xac (xtC (xx8 u))
def TL.skip (h:xsW m q)(hq:xvT L[q]? m):xsW m (q+1):=by
 have key:∀u r,xpX r->(xyM m\/xyN m/\r<q+1)->(xyM m\/xyN m/\r<q):=λ u r c z=>by
  show xKN z z z2
  ·show xa8 z
  ·refine xei z (xJK z2 (λ e=>hq ?_));rw [<-e,<-z];exact xg6
 exact⟨Ln h.len,λ u r c z=>h.yes u r c (key u r c z),λ u z=>h.no u λ r c y=>z r c (x03 id ⟨y1,HY y2⟩)⟩
def TL.put (h:xsW m q)(g:xiK)(hq:xha q m)(hm:Ν m):TL L m (q+1) (xCh (xx8 xAY) (vN q)):=by
 have hn:num xAY=xoS m:=WX g hq hm;have hl:xaI xAY m:=Mp _ _;have hc:xBP xAY q:=⟨by show LE hl hq,by show LE hl hm,by rw [hl,hn]⟩;have hu:∀{u},xpX q->xyN m->u=xAY:=λ {u} c e=>PV (by rw [hl,e]) (by rw [hn,<-xbM c,e])
 refine⟨EF (c6 _ _ _) (HS h.len),λ u r c z=>?_,P3 u z⟩
 ·rw [fE];by_cases e:(Sum.inr (txt u):Key)=xx8 xAY
  ·rw [xAz];show xaK e (RE.1 xZP) e c;rw [jU c hc]
  ·show xrT e (h.yes u r c (z.imp id λ⟨z,z2⟩=>⟨z,xJK z2 (λ y=>e ?_)⟩));rw [hu (y▸c) z]
 ·rw [fE,ES λ e=>by
   have e:u=xAY:=RE.1 xZP;exact z q (e▸hc) (xei (e▸hl) xna)]
  exact h.no u λ r c y=>z r c (x03 id ⟨y1,HY y2⟩)
def TL.next (h:xsW m L.length)(hL:xmq 272):xsW (m+1) 0:=by
 have key:∀u r,xpX r->((xyM (m+1)\/xyN (m+1)/\r<0)<->(xyM m\/xyN m/\xmn r)):=λ u r c=>by
  have:=xKm xg6;lia
 exact⟨xLS h.len hL,λ u r c z=>h.yes u r c ((key u r c).1 z),λ u z=>h.no u λ r c y=>z r c ((key u r c).2 y)⟩
def ue (h:xnQ):xjs (q+1) m=xoS m+(xbc s m 1 0):=by
 unfold cdAt;rw [Ga,h,Iz,<-FK];show _+List.count m [s]=_;rw [List.count_singleton];by_cases e:s=m
 ·rw [xAz,e,E5 (beq_self_eq_true _)]
 ·rw [xsJ,ES (by show xuX)]
def yJ (L:Fr)(m:Nat):2*xjs L.length (m+1)=xjs 0 (m+2):=by
 show xc2 cdAt Fs Hx;rfl
theorem lJ:∀u:Θ,(xRU b xey).flatten=u
 | []=>rfl
 |b::u=>congrArg (b::·) (lJ u)
def zy (u:Θ)(h:xbC u.length):SL (JoinOk xHa (xRU b xDA)):=by
 have e:∀u:Θ,((u.map λ b=>txt [b]).map (·.length)).sum=u.length:=λ u=>by
  induction u with
  |nil=>rfl
  |cons b u ih=>rw [Gp,Gp,Jc,ih,bj,EV];exact Ix _ _
 refine PyProof.Rows.joinOk_of_weight ?_ (by decide+kernel);rw [e,EA];lia
def uF (u:Θ):Txt.join xHa (xRU b xDA)=txt u:=by
 have:=vt (xRU b xey)
 rwa [lJ,GQ] at this
def AN (hx:xCg ([xDK,xqO "_law_k",x08,x09]:xtO)=xf8\/xDI (xCg ([xDK,xqO "_law_k",x08,x09]:xtO))):x="_law_code"\/x="_law_size":=by
 rcases hx with hx|hx
 ·have m':=xvj;simpa using m'
 ·have m':=xvj;simp at m'
def DM:xAx ["_law_k","_law_code","_law_size"]:=Z8
inductive S7 (vs:M2) (H:Hp) (Q:VK) (Ml:XK):Prop
 |mk (a:LV) (bs:Θ) (p:Nat) (L:Fr) (b1:Θ) (h0:vs=xbL) (h1:UF=XL [xbE,xke]) (h2:xND) (h3:xwI xiu L b1) (h4:xiM) (h5:xiK) (h6:∀d Mn p' H',xAJ->b1=xVb->xAw=XL [xbE,vN p']->Tm (H' d) xot->xsW 7 0->(∀c o,ω=Id->xcd a->xaY=Id)->xcP xlg):S7 vs H Q Ml
abbrev nCo:xaO:=["_law_spot","_law_lengths","_law_ahead","_law_item","_law_many","_law_found","_law_code","_law_size","_law_thing_here"]
def Mx:ST nCo xNq on:=Os
def uH (F:Δ "_law_codes" on xNq)(Tk:x0F kh xBX ft fdt)(X:xcH):xsA xNq S7:=by
 have GT:=o8 (P:=P) (w:=w) (base:=base) Tk X;show xau Mx (λ L9 A outer st H vs Q E hr h=>?_);obtain⟨a,bs,p0,L,b1,rfl,ha,QM,hI,hL,hG,k⟩:=h;show xji Mw xbg (xaF 1 Mx.nd xe8 (xcl 2 Mx.nd ad (xoP (xlk cH xuh) (xaF 3 Mx.nd xpH (xcl 4 Mx.nd ad (aF (xa5 bd TD ad) (ac (xtb 4 Mx.nd (xcD xpH))) (xmd Mx.nd TD)) (xhx 1 Mx.nd (xfb No (xwa Ps χ)))))) (xaF 5 Mx.nd o5 (xa6 6 Mx.nd ad (xg0 (gl Z7 X.range (xmU ad)) 7 Mx.nd (xaF 6 Mx.nd (xuC xco) (ac (xg0 (xsk ad) 8 Mx.nd (ac (xqq (xq2 No xjN) xgi (ab (mE x0C xa9 (cM PySem.F.plainAttrs_str PySem.F.slot_str_join PySem.F.type_str_join yz de (xcw (ic (N:=["_law_k","_law_code","_law_size"]) (js:=[none,some 6,some 7]) (cl:=[("_law_size",xB2 1+1),("_law_code",xB2 1)]) (g:=xhV) rfl
       ⟨rfl,Z8,Z8,Z7,λ x c h=>?c0,λ x hx=>?c1,rfl,λ i x j h1 h2=>?c2⟩
       (xsk xgi) (λ fp s H=>xA1 DM)
       (λ fp s H=>aJ xg de (xk4 (xzJ No (xdz xP1 PP))) xkF)))) xjN rfl)
     (xhx 6 Mx.nd (xcD xco))))))))) xa9))))
 case c0=>rcases ke h with⟨rfl,rfl⟩|⟨rfl,rfl⟩<;>rfl
 case c1=>rcases AN hx with rfl|rfl<;>exact xbs
 case c2=>rcases slots3 h1 h2 with⟨rfl,rfl⟩|⟨rfl,rfl⟩<;>exact xMk (λ c h=>h)
 have h6:=xq hI (xmx h h) xan;show xoI g (xju (λ l0 n0=>xaB)) g g xaB g;have na:∀{x},Χ x->x≠a:=λ n z=>by show xbm ha n n
 refine xbA (Ψ (λ m σ H2=>∃v3 v4 l L1 ah p,m=272-L1.length/\σ=[xaQ,xeu,xvk,v3,v4,none,none,none,none]/\xsf L1 xiu L b1/\L1.length≤400/\xh3=XL xUK/\H2 a=XL [xbE,xke]/\Ι/\∀c o,ω=Id->xcd a->xh2=Id) ⟨_,none,none,l0,[],0,p0,rfl,rfl,hI,xan,i',xeb (na n0).symm ha,n0,λ c o e _=>aj n0 _ _ e⟩)
 rintro m σ H2 ⟨v3,v4,l,L1,ah,p,rfl,rfl,it,hL4,MD,Of,nl,fr⟩;show xcr ⟨_,rfl,l,_,rfl,xab MD,_,_,rfl,rfl,_,rfl,?_⟩ EA (xc9 hd hd)
 ·have Mb:L1.length<272:=xxf (EL hd);clear g;refine xuF;have XU:xex a:=na nl;have tk:∀{s},xro s xiu->xpW->xhz (p+s):=λ {s} h h1=>by rw [EN] at h;lia
  have h3:xro 3 xiu:=by cases it with
   |done z=>lia
   |one _ z=>exact z
   |rep _ z=>lia
  have M4:=tk h3 Z9;show xoI g ⟨_,rfl,a,bs,p,3,rfl,Of,M4,QM,xaB⟩ g g xaB g;have h1l:(xjV a [xbE,xia 3]) l=XL xUK:=xeb XU MD;have h1a:(xjV a [xbE,xia 3]) a=XL [xbE,xia 3]:=i';have fr1:∀c o,ω=Id->xcd a->(xjV a [xbE,xia 3]) c=Id:=λ c o e n=>xh4 (xsE n)
  have hnm:xs6 3≤7:=by
   have:=Nd (xp3 3);have:2^(xp3 3).length≤2^3:=xiT (Je _ _);lia
  show xbU (xjV a [xbE,xia 3]) H3 (xoh R3 g)
  have J:∀x Ur n p' H4,n≤100->Ν n->xh1=XL xUK->H4 a=XL [xbE,vN p']->(∀c o,ω=Id->xcd a->H4 c=Id)->P1 (L1++xyQ) Ur xVb L b1->R3 [xaQ,xeu,UV Ur,x,xhk,none,none,none,none] H4:=λ x Ur n p' H4 hn RS QB YY XH it'=>g _ _ (by
   refine xkr _ (by show xkB) xvX;have s5:=xAn [vN Ur];refine⟨_,rfl,l5,_,_,rfl,rfl,i',by lia,by lia,aW (by rw [E2];show 1*_≤_;lia),P3 l6 n6⟩;rw [E2,ip];have s6:=s5.trans (xbe xyQ n6);have h66:xd8 (xhb [vN Ur]) l6 xyQ l6=xah xyQ:=i';show xiV (xhb [vN Ur]) l6 xyQ H6 ⟨l,l6,_,_,rfl,rfl,xJR,h66,aW (by rw [EA,EA,Fd];lia),P3 l7 n7⟩;rw [<-EO];have s7:=s6.trans (xbe (L1++xyQ) n7);have nl7:Χ l7:=by
    cases e:H l7 with
    |none=>rfl
    |some o=>
     by_cases z:l7=a
     ·show xbm (xcE YY) n7 n7
     ·show W1 (xcE (XH _ _ e z)) n7 n7
   have el:xcm L1 xyQ=L1.length+n:=by rw [EB,Fd]
   exact⟨_,by show xcj el,_,_,l7,_,Ur,p',rfl,rfl,it',by lia,i',xBk YY,nl7,λ c o e n=>xBk (XH _ _ e n)⟩)
  clear g;refine xdy (xc9 he he)
  ·have h7:xs6 3=7:=KP (xCd he);obtain⟨h9,it9⟩:xro 9 xiu/\xsf (L1++xou (num (xBw xiu 3 6)) 3 ah) ((xiu).drop 9) L b1:=by
    cases it with
    |done z=>lia
    |one _ _ z=>show xaq h7 z
    |rep _ z _ y=>show xaj z y
   rw [Gg] at it9;rw [Gg] at it9;have hn6:num (xxc (p+3) 6)<64:=by
    have:=Nd (xxc (p+3) 6);have:2^(xxc (p+3) 6).length≤2^6:=xiT (Je _ _);lia
   have hp9:=tk h9 Z9;refine⟨_,rfl,a,bs,p+3,6,rfl,h1a,by lia,QM,_,_,rfl,rfl,J _ ah _ (p+9) _ (by lia) (by lia) (xeb XU h1l) i' (λ c o e n=>xh4 (fr1 _ _ e n)) it9⟩
  ·have h7:xs6 3≠7:=On (he (EJ (by show xak z)))
   obtain it3:P1 (L1++[xs6 3]) (xs6 3) ((xiu).drop 3) L b1:=by
    cases it with
    |done z=>lia
    |one _ _ _ y=>exact y
    |rep _ _ z=>show xaq z h7
   show π Gg it3 (xaJ (J _ _ 1 (p+3) H3 Z9 Z9 h1l h1a fr1 it3))
 ·have Np:272≤L1.length:=by
   have:=Il (LA _▸hd);lia
  show xfD xaB g;obtain⟨rfl,eb⟩:L1=L/\xiu=b1:=by
   cases it with
   |done _=>exact xkP
   |one z=>lia
   |rep z=>lia
  show xd9 (λ d nd=>xaB);have s3:=xSP (.dK []) nd;have nd0:xAJ:=by
   cases e:H d with
   |none=>rfl
   |some o=>
    by_cases z:d=a
    ·show xbm Of nd nd
    ·show W1 (xsE z) nd nd
  have ndl:xlZ:=ae MD nd;have nda:a≠d:=ae Of nd;show xd9 xaB;have w0:TL L1 1 0 []:=⟨xan,λ u r c z=>by
   have:=Ξ c;lia,xkF⟩
  show ρ (xbA (xbI 1 7 ⟨by decide,by decide,by decide,by decide⟩ ?_)) (xnN 1 6 (λ i σ H4=>∃c Mn v7 v8,σ=[xaQ,xeu,xvk,v3,v4,xhd,UV c,v7,v8]/\2*c=xDH 0 (i+1)/\TL L1 (i+1) 0 Mn/\Tm (H4 d) xot/\∀x o,H2 x=Id->x≠d->H4 x=Id) ⟨0,[],none,none,rfl,rfl,w0,i',λ x o e _=>xbZ e⟩ ?_ ?_)
  ·rintro i σ H4 hi ⟨c,Mn,v7,v8,rfl,hc,wk,h4d,XH⟩;have e1:xcv+xhT=xgq:=by lia
   rw [e1];show xol g2 (xc0 _ _ rfl xuj xcX) g2;show Uf (show XV 2*LT c=LT (xDH 0 (i+1)) by rw [<-hc];rfl) (xeQ rfl Z9 Z9 (xnN 0 272 (λ q σ H5=>∃Mn v8,σ=[xaQ,xeu,xvk,v3,v4,xhd,UV (xDH q (i+1)),xA9,v8]/\TL L1 (i+1) q Mn/\Tm (H5 d) xot/\∀x o,H2 x=Id->x≠d->H5 x=Id) ⟨Mn,v8,rfl,wk,h4d,XH⟩ ?_ ?_))
   ·rintro q σ H5 hq ⟨Mn,v8,rfl,wk,h5d,RK⟩;have eq0:xcU+xnG=xnG:=LO _;rw [eq0];have ZF:q<L1.length:=by lia
    show xty s hs s (xbS L1 q s) (xbR (EI ZF));have h5l:=xBj MD ndl;refine⟨_,rfl,_,rfl,l,_,_,xcV,rfl,rfl,Mm.of h5l,ax (by rw [FA,hs];rfl),_,rfl,rfl,_,rfl,xc9 he he⟩
    ·have es:s=i+1:=KP (xCd he);subst es;have Wg:=Uu hG hs xrl;show xcr (xmf g2 ⟨_,rfl,_,rfl,rfl,_,rfl,LT (xgw (i+1)),rfl,by lia,by lia,P3 lj nlj⟩) E2 (iP (lo:=0) (l:=lj) (k:=i+1) (g:=xhV) (λ j ys σ' H'=>∃v0:xdu,ys=(xhJ (xqU (xDH q (i+1)) (i+1) j) b xDA).map V.str/\σ'=[v0,UV (xDH q (i+1)),xA9]/\H' lj=xeM/\Mf H5 H')
      (xbI none rfl i' (aj nlj)) ?_ ?_ (λ x σ H A B h z=>xh7) ?_)
     ·rintro j ys σ' H' hj ⟨v0,rfl,rfl,hlj,s6⟩;have en:xcU+xrG=xrG:=LO _;have es:xgq-1-xrG=LT (i+1-1-j):=by lia
      try dsimp only
      show Uf en ⟨_,rfl,_,rfl,_,_,rfl,rfl,_,rfl,_,_,rfl,rfl,?_⟩
      try dsimp only
      show Uf es (xeO _ _ rfl xd1 ?_)
      try dsimp only
      show Uf gk ⟨_,_,rfl,rfl,(by show xeq 2),_,_,_,rfl,rfl,(by show xdn),tP _,hlj,bz (by rw [EA,EA,ER,Mp];lia),_,?_,rfl,i',λ x o e=>by show xgr nlj (xcE e)⟩;rw [jS _ _ _ hj,EO,EO];rfl
     ·rintro ys σ' H6 ⟨v0,rfl,rfl,hlj,s6⟩;rw [E8 (EC (Mp _ _))] at hlj;refine xdc _ lj _ rfl hlj (zy _ (by show xcj Mp)) ?_;show xhO uF (xbI d _ (RC.k (k:=xx8 (dig (xDH q (i+1)) (i+1))) (xcE h5d) (bz (by have:=wk.len;lia))) xcX) xwc;refine⟨_,xwv,?_,wk.put hG hs xrl,i',λ x o e n=>xh4 (xcE (xBj e n))⟩;rw [ue hs,xai];rfl
     ·rintro σ H A B h ⟨v,e1,v2,e2,i1,j1,f1,f2,v3,e3,i2,j2,f3,f4,i3,j3,f5,f6,f7,i4,j4,f8,f9,f10,z0,i5,c5,g1,g2,g3,g4,z⟩;exact⟨v,e1,v2,e2,i1,j1,f1,f2,v3,e3,i2,j2,f3,f4,i3,j3,f5,f6,f7,i4,j4,f8,f9,f10,z0,i5,c5,g1,g2,g3,g4,xh7⟩
    ·have Oe:s≠i+1:=On (he (EJ (by rw [z])))
     refine⟨Mn,xwv,?_,wk.skip (by show LE hs (On (Oe (Fx z)))),h5d,RK⟩;rw [ue hs,ES Oe];rfl
   ·rintro σ H5 ⟨Mn,v8,rfl,wk,h5d,RK⟩;rw [<-hL] at wk ⊢;exact⟨_,Mn,_,_,rfl,yJ L1 i,wk.next (EC hL),h5d,RK⟩
  ·rintro σ H4 ⟨c,Mn,v7,v8,rfl,hc,wk,h4d,XH⟩;exact g _ _ (xaJ (k d Mn p H4 nd0 eb.symm (XH _ _ Of nda) h4d wk λ x o e n=>XH _ _ (xsE n) (xmX nd0)))
abbrev fV:L7:=top 139
abbrev qE:L7:=top 140
def fw (s:xmS a H')(h:xAw=Id)(n:xac xaY):xsB:=by
 cases e:ω with
 |none=>rfl
 |some o=>
  by_cases z:c=a
  ·show xbm h n n
  ·show W1 (xft e z) n n
abbrev At (bs:Θ)(p s:Nat):Nat:=xs6 s
inductive LR (bs:Θ) (L:Fr) (st e:Nat):xmK (Fr->xux Fr)
 |done {u p:Nat} {S:Fr}:xyL e->xym u p S p S
 |raw {p p':Nat} {S S':Fr}:xki->xhz (p+8)->xje 0 (p+8) (S++[xIG 8])->xje 0 p S
 |run {p p':Nat} {S S':Fr}:xki->xhz (p+14)->xje 1 (p+14) (S++xou xyV 1 xFa)->xje 1 p S
 |sg {p p':Nat} {S S':Fr}:xki->xhz (p+9)->xIG 1=0->xje 2 (p+9) (S++[xwg 1])->xje 2 p S
 |cp {p p':Nat} {S S':Fr}:xki->xhz (p+13)->xIG 1≠0->Ν (xwg 1)->xdO (st+xwg 1)->xje 2 (p+13) (cpy S (xwg 1) (At bs (p+9) 4+3))->xje 2 p S
 |tg {p p' q s:Nat} {S S':Fr}:xki->xkS L xiu q s->xch q->xje 3 (p+s) (S++[q])->xje 3 p S
 |tp {p p' q s:Nat} {S S':Fr}:xki->xkS L xiu q s->256≤q->xkD->xhz (p+s+8)->Ν (xwg s)->xdO (st+xwg s)->xje 3 (p+s+8) (cpy S (xwg s) (q-253))->xje 3 p S
def Ap (bs)(p s):xIG s<2^s:=EM (Nd _) (xiT (Je _ _))
def LR.le (h:xje u p S):xIA e:=by
 cases h with
 |done z=>exact EC z
 |raw z=>exact E4 z
 |run z=>exact E4 z
 |sg z=>exact E4 z
 |cp z=>exact E4 z
 |tg z=>exact E4 z
 |tp z=>exact E4 z
inductive spThing (vs:M2) (H:Hp) (Q:VK) (Ml:XK):Prop
 |mk (a d:LV) (bs:Θ) (p q s:Nat) (L:Fr) (Mn:xuU) (h0:vs=[Γ,xlg]) (h1:UF=XL [xbE,xke]) (h2:xsg d) (h3:xsW 7 0) (h4:xkS L xiu q s) (h5:s≤6) (h6:xND) (h7:xez (xmS a H'->xAw=XL [xbE,xia s]->xmZ q)):spThing vs H Q Ml
def scThing:ST ["_law_spot","_law_codes_here","_law_word"] xGX fV:=Os
def ok_thing (F:Δ "_law_thing" fV xGX)(X:xcH):xdl xGX spThing:=by
 show xau scThing (λ L9 A outer st H vs Q E hr h=>?_);obtain⟨a,d,bs,p,q,s,L,Mn,rfl,ha,hd,wk,⟨hs,hc,hj⟩,hs6,QM,k⟩:=h;refine xca (xa6 2 scThing.nd de (xoP (xuS (og (lO x0C Ps No)) (xlk cH (xRw eN JI (xcw Ps)))) (xaF 2 scThing.nd (ak jV Ps (xkW qG xle (aO xle) (xcD xle))) (ac (kb (xcD xle) (jB PP ad gh))))) (cM PySem.F.plainAttrs_dict PySem.F.slot_dict_get PySem.F.type_dict_get yG No (xfy Ps bP)))
 have nda:d≠a:=aH hd ha nofun;rw [EN] at hs;have hle:∀{j},j≤s->xaI (xp3 j) j:=λ {j} h=>by rw [ER,EN];lia
 have hp:xhz p:=by show xg7 (Ξ hc) (hle Tl);lia
 show xd9 xaB;refine xbA (Ψ (λ m σ H2=>∃j,m=s-j/\j≤s/\σ=[xaQ,xhd,xXV (xp3 j)]/\H2 a=XL [xbE,xia j]/\xmS a H2) ⟨_,0,rfl,xan,xBG z [xqN a,xqN d,xVa z] uc,ha,λ _ _ e _=>e⟩)
 rintro m σ H2 ⟨j,rfl,hjs,rfl,Of,fr⟩;have hd2:=xg5 hd nda;have hS:=xO6 K Of;refine⟨_,rfl,_,rfl,d,_,rfl,Oh.k (k:=xx8 (xp3 j)) hd2,_,rfl,?_⟩;show xbx j s Mb Np
 ·clear g;show Uf (wk.no _ λ r c _=>gT c (hj j Mb)) (cb ⟨_,rfl,_,rfl,aW (by rw [bj,xQC];lia),_,_,rfl,rfl,_,rfl,?_⟩);rw [bj,xQC,EJ (show xrG<7 by lia)];refine cb xuF;have e0:xjg j+1=xiH (p+j):=rfl;refine xbA ⟨_,rfl,_,rfl,a,_,_,_,rfl,rfl,hS,xev,_,rfl,a,_,_,_,rfl,rfl,hS,xdk,_,rfl,_,rfl,a,_,_,_,rfl,rfl,hS,xdk,_,_,rfl,rfl,_,rfl,_,rfl,aW (by show xcj bj),?_⟩
  try dsimp only
  rw [e0,iC (Fg (p+j) 1) (by lia),F3];have e1:xp3 j++xxc (p+j) 1=xp3 (j+1):=by rw [KO,Gg]
  refine xeO _ _ rfl (aW (by rw [bj,bj,xQC,ER];lia)) ?_;rw [Ol,e1];refine g _ _ ⟨_,rfl,a,_,_,_,rfl,rfl,hS,xdk,_,_,rfl,rfl,_,rfl,a,_,_,1,rfl,rfl,Of,rfl,?_⟩;exact⟨_,xzE (Gs j),j+1,rfl,Mb,rfl,i',λ c o e n=>xh4 (xsE n)⟩
 ·obtain rfl:=ED hjs Np;have hv:=wk.yes _ _ hc (.inl (by show xcj xQC));show Uf hv xqJ;exact⟨_,rfl,.inr (xV4 (xgB (.inl (xbR hd2)))),_,rfl,d,_,xx8 (xp3 j),_,_,rfl,rfl,hd2,hv,xeR fr Of⟩
inductive UI (vs:M2) (H:Hp) (Q:VK) (Ml:XK):Prop
 |mk (a d x:LV) (bs:Θ) (p u st e:Nat) (L S:Fr) (Mn:xuU) (pf:Nat) (Sf:Fr) (h0:vs=[Γ,vN u,xlg,xcn,vN st]) (h1:UF=XL [xbE,xke]) (h2:xND) (h3:u=3->xsg d/\xsW 7 0/\xb6 L (x≤6)) (h4:xgx=xgl) (h5:xym u p S pf Sf) (h6:xki) (h7:xbC e) (h8:∀l p1 S1 H',xym u p1 S1 pf Sf->xBH S1.length->Ι->xaz=XL (S1.map vN)->xAw=XL [xbE,xK5]->xmS a H'->xat):UI vs H Q Ml
abbrev nPc:xaO:=["_law_spot","_law_way","_law_codes_here","_law_text_here","_law_start","_law_many","_law_back","_law_thing_here"]
def PJ:ST nPc Jak qE:=Os
def wf (F:Δ "_law_piece" qE Jak)(Tk:x0F kh xBX ft fdt)(Co:xbD "_law_copied" jg Jah fo fdo)(Th:xbD "_law_thing" fV xGX fh fdh)(X:xcH):xsA Jak UI:=by
 have GT:=o8 (P:=P) (w:=w) (base:=base) Tk X;have GC:=vy (P:=P) (w:=w) (base:=base) Co X;have GH:=ok_thing (P:=P) (w:=w) (base:=base) Th X;show xau PJ (λ L9 A outer XQ H vs Q E hr h=>?_);obtain⟨a,d,x,bs,p,u,st,e,L,S,Mn,pf,Sf,rfl,ha,QM,hd,hx,hL,Mb,he,k⟩:=h;show xji Mw xbg (ab (xqq No ad (xy8 TD (xCe xpH)))
  (ab (xqq No ad (xaF 5 PJ.nd (xcD xpH) (xy8 TD (xwa xpH xa9))))
  (ab (xqq No ad (ab (xqq xpH ad (xy8 TD (xCe xpH)))
   (xaF 6 PJ.nd xpH (xbh (ay GC Mw Co (xvN (xEJ bp Gh TD) χ xco (xcD xpH)))))))
  (xa6 7 PJ.nd (xcQ GH Mw Th PP Ps) (xE1 (xTs (xa5 dW xgi bP) (xlk cH xgi)) (dC (xa5 dW xgi bP) bP (xfb TD (xCe xgi))) az) (ay GC Mw Co (xvN (xEJ bp Gh TD) χ xpH (xlu xgi)))))))
 have Zv:x≠a:=aH hx ha (by intro z;have:=congrArg (λ o:HO=>match o with| .lst (.str _::_)=>true|_=>false) z;cases S<;>cases this);have cat:∀{p1 y H1},xym u p1 (S++[y]) pf Sf->xmS a H1->H1 a=XL [xbE,xK5]->∀l1,xhF l1->Yk xcn (.ref l1) (xbP H1 l1 [xsx]) Q:=λ {p1 y H1} PY fr h1 l1 n1=>by
  have s1:=xv0 [xsx];refine⟨x,l1,_,_,rfl,rfl,xcR (xg5 hx Zv),i',aW (by rw [EA];show _+1≤_;lia),P3 l2 n2⟩;have s2:=s1.trans (xa1 (xoi++[xsx]) n2);exact k l2 p1 (S++[y]) _ PY (by show xhY xna) (fw fr h1 (xjB n2)) (by rw [i',EO];rfl) (xcg h1) λ c o z n=>xcg (xg5 z n)
 have cpd:∀{p1 b n H1 l1},xym u p1 (xwB n) pf Sf->Ν n->n≤100->xcJ->xdO (st+b)->xmS a H1->H1 a=XL [xbE,xK5]->Χ l1->H1 l1=xgl->Qe [.ref l1,vN st,xd6,xcG] H1 Q E0:=λ {p1 b n H1 l1} PY n1 n2 b1 b2 fr h1 nl Oq=>by
  have XU:l1≠a:=On (by show xbm ha nl nl)
  refine⟨l1,S,st,b,n,rfl,Oq,b1,b2,n2,by lia,λ H2 fr2 nn h2=>?_⟩;exact k l1 p1 _ _ PY (by show xcj bV) nl h2 (fr2 _ _ h1 XU.symm) λ c o z n=>fr2 _ _ (xg5 z n) (ae z nl)
 have tk:∀{H1 p1 s},xmS a H1->H1 a=XL [xbE,xK5]->xmS a (xbP H1 a [xbE,xhg p1 s]):=λ fr h1 c o z n=>xh4 (xg5 z n)
 have b0:xmS a H:=λ _ _ z _=>z
 cases hL with
 |done z=>show xaq z (FL Mb)
 |raw _ hp PY=>
  refine xbA (xdy (cb ⟨_,rfl,_,rfl,a,bs,p,8,rfl,ha,hp,QM,(by show xkB),xnl⟩))
  exact cat PY (tk b0 ha) i' l1 n1
 |run _ hp PY=>
  show xoI g xk9 g g (xdy xjY) g;show xd9 ⟨_,rfl,a,bs,p,6,rfl,ha,by lia,QM,_,_,rfl,rfl,xaB⟩;have h6:=Ap bs p 6;refine⟨_,rfl,_,rfl,a,bs,p+6,8,rfl,i',by lia,QM,(by show xkB),xnl⟩;have fr:=tk (s:=8) (tk (s:=6) b0 ha) i';show xdg h1 ((xbP (xfS a [xbE,xia 6]) a [xbE,xhg (p+6) 8]) a=XL [xbE,xia 14]) i' (xbP (xfS a [xbE,xia 6]) a [xbE,xhg (p+6) 8]) H1;have s1:=xv0 [vN xFa];refine⟨_,rfl,l1,_,_,rfl,rfl,i',by show-(2^63)≤xRF+1;lia,by show xRF+1<2^63;lia,aW (by show 1*(xiH xyV).toNat≤_;show xcj E2),P3 l2 n2⟩;have e1:xjn (xhP xRF 1) [vN xFa]=Ρ (xou xyV 1 xFa):=by
   rw [xce (xhP xRF 1) (xyV+1),ip]
  try dsimp only
  rw [e1];have s2:=s1.trans (xbe (xou xyV 1 xFa) n2);refine⟨x,l2,_,_,rfl,rfl,xcg (xg5 hx Zv),i',aW (by rw [EA,EA,Fd];lia),P3 l3 n3⟩;rw [<-EO];have s3:=s2.trans (xbe (S++xou xyV 1 xFa) n3);exact k l3 (p+14) _ _ PY (by rw [EB,Fd];lia) (fw fr h1 (xO4 s2)) i' (xbZ h1) λ c o z n=>xbZ (xg5 z n)
 |sg _ hp hb PY=>
  show xoI g xk9 g g xk9 g;show xd9 (xdy xjY);show xcr (xbA ⟨_,rfl,a,bs,p,1,rfl,ha,by lia,QM,?_⟩) (Ω (xs6 1) 0 hb) (xc8 rfl _ (cb ⟨_,rfl,_,rfl,a,bs,p+1,8,rfl,i',by lia,QM,(by show xkB),xnl⟩));exact cat PY (tk (tk b0 ha) i') i' l1 n1
 |cp _ hp hb MR Pn PY=>
  show xoI g xk9 g g xk9 g;show xd9 (xdy xjY);refine xbA ⟨_,rfl,a,bs,p,1,rfl,ha,by lia,QM,rfl,_,rfl,?_⟩
  rw [FZ (show¬vN (xs6 1)=xek from xuw (KP x0A))];show xfD xqJ g;show xd9 ⟨_,rfl,a,bs,p+1,8,rfl,i',by lia,QM,xaB⟩;have fr:=tk (s:=8) (tk (s:=1) b0 ha) i';have h1:(xbP (xfS a [xbE,xia 1]) a [xbE,xhg (p+1) 8]) a=XL [xbE,xia 9]:=i';show xbU (xbP (xfS a [xbE,xia 1]) a [xbE,xhg (p+1) 8]) H1 (xrQ x (xg5 hx Zv) (λ l1 n1=>xbY _ rfl _ ?_));have s1:=xv0 xoi;have nl:=fw fr h1 n1;have XU:l1≠a:=On (by show xbm ha nl nl)
  have h4:=Ap bs (p+9) 4;refine⟨_,rfl,a,bs,p+9,4,rfl,xcR h1,by lia,QM,_,_,rfl,rfl,?_⟩;exact cpd PY xrl (by lia) MR Pn (λ c o z n=>xh4 (xcR (xg5 z n))) i' nl (xeb XU i')
 | @tg _ _ q s _ _ _ hD hq PY=>
  show xbd hd wk h6 (hd rfl) (xbA xk9)
  clear g;show xoI g xk9 g g xk9 g;have hs6:s≤6:=by
   show xhS (Ξ hD).1 ER (FR hD.1);exact h6 s (FO this)
  show xd9 ⟨_,rfl,_,rfl,a,d,bs,p,q,s,L,Mn,rfl,ha,hd,wk,hD,hs6,QM,λ H1 fr h1=>xaB⟩;show xcr (xbA (xD3 ⟨_,rfl,_,_,rfl,rfl,_,rfl,?_⟩)) (EJ (show xch xnG by lia)) (cb (xD3 (xkr _ (by show xkB) xnl)));exact cat PY fr h1 l1 n1
 | @tp _ _ q s _ _ _ hD hq QE hp MR Pn PY=>
  show xbd hd wk h6 (hd rfl) (xbA xk9)
  clear g;show xoI g xk9 g g xk9 g;have hs6:s≤6:=by
   show xhS (Ξ hD).1 ER (FR hD.1);exact h6 s (FO this)
  show xd9 ⟨_,rfl,_,rfl,a,d,bs,p,q,s,L,Mn,rfl,ha,hd,wk,hD,hs6,QM,λ H1 fr h1=>xaB⟩;refine xbA (xD3 ⟨_,rfl,_,_,rfl,rfl,_,rfl,?_⟩)
  rw [FZ (show¬xch xnG by lia)];show xfD xqJ g;refine xrQ x (xg5 hx Zv) (λ l1 n1=>xxJ);have s1:=xv0 xoi;have nl:=fw fr h1 n1;have XU:l1≠a:=On (by show xbm ha nl nl)
  show xgk ⟨_,rfl,a,bs,p+s,8,rfl,xcR h1,hp,QM,_,rfl,_,_,rfl,rfl,?_⟩ (show xnG-253=LT (q-253) by lia) (cpd PY (by lia) (by lia) MR Pn (λ c o z n=>xh4 (xcR (xg5 z n))) i' nl (xeb XU i'))
theorem mH (Pre:Fr)(h1:xcJ)(h:xdO b):∀n,cpy xQ5 b n=Pre++xwB n
 |0=>rfl
 |n+1=>by
  have hl:=bV S b n;rw [cpy,cpy,mH Pre h1 h n,EE,EB,JD (by lia),E9,Fj xes,F3,E9]
theorem xB (hb:xi4)(S:Fr):∀n i,i+n=R.length->LR xil L st (xor R.length) 0 (8*i) (S++xxt) Ο (S++R)
 |0,i,h=>by
  obtain rfl:i=R.length:=h;show LE Fs (.done (EB))
 |n+1,i,h=>by
  have hi:xJ5 i:=by lia
  refine .raw (by rw [EB,ER];lia) (by show xcj K30.C.Mu) ?_;have e:At xil (8*i) 8=R[i]:=by rw [<-bt8 hb hi,xrX (by lia)]
  rw [e,EE,<-bO (EI hi)];exact xB hb S n (i+1) (by lia)
def Be (hb:xi4)(S0:Fr)(h:xwt v t S t' S'):LR xil L st (S0.length+v) 1 t (S0++S) t' (S0++S'):=by
 induction h with
 |done z=>exact .done (by rw [EB,z])
 |run h1 h2 h3 _ ih=>
  rw [xrX (by lia),xrX (by lia),<-EE] at ih;exact .run (by show xw1) (by show xQY h2) ih
def DP (hb:xi4)(Pre:Fr)(h:xnD v t S t' S'):LR xil L Pre.length (xIz v) 2 t xQ5 t' (Pre++S'):=by
 induction h with
 |done z=>exact .done (by rw [EB,z])
 |sg h1 h2 h3 _ ih=>
  rw [xrX (by lia)] at h3;rw [xrX (by lia),<-EE] at ih;exact .sg (by show xw1) (by show xQY h2) h3 ih
 |cp h1 h2 h3 h4 h5 h6 _ ih=>
  rw [<-mH Pre h5 h6,xrX (by lia),xrX (by lia)] at ih;rw [xrX (by lia)] at h3 h5 h6;exact .cp (by show xw1) (by show xQY h2) (by show num _≠0;show xqb h3) h5 (by show xhY (Hb h6 _)) ih
def Dp (hL:xiM)(Pre:Fr)(h:V0 L v S b S' b'):∀p,b=xiu->(xBH v\/xhz p)->∃p',b'=xVb/\xhz p'/\LR bs L Pre.length (xIz v) 3 p xQ5 p' (Pre++S'):=by
 have hd:∀{p q s},xkS L xiu q s->xhz (p+s)/\xkD:=λ {p q s} h=>by
  have h1:=xb0;have h2:=Ξ xng;have h3:=xKm xng.1;rw [ER,EN] at h2;rw [EN] at h1;lia
 induction h with
 |done z=>exact λ p e h=>⟨p,e,h.resolve_left λ y=>FL y z,.done (by rw [EB,z])⟩
 |sg h1 h2 h3 _ ih=>
  intro p e _;subst e;obtain⟨p',e',X3,l⟩:=ih _ (Gg) (.inr (hd h2).1);rw [<-EE] at l;exact⟨p',e',X3,.tg (by show xw1) h2 h3 l⟩
 | @cp S T q s b b' h1 h2 h3 h4 h5 h6 h7 _ ih=>
  intro p e _;subst e;simp only [Gg,<-FK] at h4 h5 h6 ih;have hp8:xhz (p+s+8):=by rw [EN] at h4;lia
  obtain⟨p',e',X3,l⟩:=ih _ rfl (.inr hp8);rw [<-mH Pre h5 h6,show q-256+3=q-253 by lia] at l;exact⟨p',e',X3,.tp (by show xw1) h2 h3 (hd h2).2 hp8 h5 (by show xhY (Hb h6 _)) l⟩
theorem mn (S:Fr)(b):∀n,S<+:xwB n
 |0=>List.prefix_rfl
 |n+1=>(mn S b n).trans (Jt _ _)
def LR.pre (h:xje u p S):S<+:S':=by
 induction h with
 |done=>exact List.prefix_rfl
 |raw _ _ _ ih=>exact xDi (Jt _ _)
 |run _ _ _ ih=>exact xDi (Jt _ _)
 |sg _ _ _ _ ih=>exact xDi (Jt _ _)
 |cp _ _ _ _ _ _ ih=>exact xDi (mn _ _ _)
 |tg _ _ _ _ ih=>exact xDi (Jt _ _)
 |tp _ _ _ _ _ _ _ _ ih=>exact xDi (mn _ _ _)
def LRs (bs:Θ)(L:Fr)(st e u p:Nat)(S Sf:Fr):Prop:=∃pf x,x<8/\xhz pf/\bs.drop pf=xpj x/\xym u p S pf Sf
def zP (h:xnT)(t:xi9)(r:xL1 R)(Pre:Fr):(u≠3->LRs xil [] Pre.length (xIz (xBU T.length)) u 0 xJ1 (Pre++(W++T)))/\(u=3->∃L b1,xwI xil L b1/\xiM/\xiK/\∀p,b1=xHd p->LRs xil L Pre.length (xIz (xBU T.length)) 3 p xJ1 (Pre++(W++T))):=by
 obtain⟨e,he,hl,hbt,hv⟩:=qh (h.good t).1 r;have hx:=(tZ h t r).1;have hpf:xro xdb xil:=by show xcj K30.C.Mu
 have hdr:xHd xdb=xpj e:=by rw [hbt,<-cI,Iy]
 have h1:=t.one;show xqB T.length n xdb m;have fin:∀{L S u p p'},LR xil L Pre.length (xIz (xrS)) u p xJ1 p' xQ5->S=W++xMT:=λ q=>by
  obtain⟨Y,hY⟩:=(List.prefix_append_right_inj Pre).1 q.pre;rw [<-hY,Iy]
 cases hx with
 |raw=>
  refine⟨λ _=>⟨_,e,he,hpf,hdr,?_⟩,nofun⟩;have:=xB (L:=[]) (st:=Pre.length) r.byt xJ1 _ 0 (Ge _);rw [Hx,Fv,EB,FK,EE] at this;exact this
 |run q=>
  refine⟨λ _=>⟨_,e,he,hpf,hdr,?_⟩,nofun⟩;have:=Be (L:=[]) (st:=Pre.length) r.byt xJ1 q;rw [Fv,EB,FK,EE] at this;exact this
 |cpy q=>
  have:=DP (L:=[]) r.byt Pre q;show xba (fin this) ⟨λ _=>⟨_,e,he,hpf,hdr,this⟩,nofun⟩
 |shr hI hL hG q ht=>
  refine⟨xmj z rfl z,λ _=>⟨_,_,hI,hL,hG,P3 p ep⟩⟩;obtain⟨p',e',X3,l⟩:=Dp hL Pre q p ep (.inl (by lia));show xba (fin l) ⟨p',e,he,X3,by rw [<-e',hdr],l⟩
abbrev jr:L7:=top 141
theorem xU:∀z,¬true∈xpj z
 |0=>nofun
 |z+1=>λ h=>by
  rcases List.mem_cons.1 h with h|h
  ·show W1 Nat.zero_div h h
  ·exact xU z h
structure Lr (K:Frag)(mg:Α):Prop where
 X:xcH
 check:Wp "_law_check" k5 xx0
 seal':Wp "_law_sealed" jx xqL
 digits:Wp "_law_digits" mO xqL
 taken:Wp "_law_taken" kh xBX
 copied:Wp "_law_copied" jg Jah
 codes:Wp "_law_codes" on xNq
 thing:Wp "_law_thing" fV xGX
 piece:Wp "_law_piece" qE Jak
inductive SY (vs:M2) (H:Hp) (Q:VK) (Ml:XK):Prop
 |mk (r x:LV) (st:Nat) (S T R:Fr) (h0:vs=[xjO,xcn,vN st]) (h1:H r=xlD) (h2:xgx=xgl) (h3:PQ (S.drop st) T R) (h4:TW T (S.drop st)) (h5:xdO st) (h6:xbC xov) (h7:∀l H',Ι->xaz=xkx S T->Κ->xat):SY vs H Q Ml
abbrev nLB:xaO:=["_law_row","_law_text_here","_law_start","_law_way","_law_count","_law_inside","_law_spot","_law_codes_here","_law_goal"]
def NG:ST nLB Jan jr:=Os
def vA (F:Δ "_law_block" jr Jan)(Z:Lr K mg):xam 3 Jan SY:=by
 show xhe X Z.X Ch Z.check Se Z.seal';show xbO Di Z.digits Tk Z.taken;show xbO Co Z.copied Cd Z.codes;show xbO Th Z.thing Pc Z.piece;have GR:=jA (P:=P) (w:=w) (base:=base) Ch X;have GS:=iS (P:=P) (w:=w) (base:=base) Se Ch X;have GD:=u5 (P:=P) (w:=w) (base:=base) Di X;have GC:=uH (P:=P) (w:=w) (base:=base) Cd Tk X;have GP:=wf (P:=P) (w:=w) (base:=base) Pc Tk Co Th X;show xau NG (λ L9 A outer XQ H vs Q E hr h=>?_);obtain⟨r,x,st,S,T,R,rfl,hR,hx,pq,tw,OR,hlen,k⟩:=h;have Mw:xbg:=Ty;have N3:xnH:=Ty;show xKr hu (ab (zX (i:=3) (j:=4) (m:=5) NG.nd rfl rfl rfl rfl rfl rfl (xin (xoO xle) (xcD (xk4 xle)) xle) rfl)
  (ab (xzf (xa5 kJ (xrv GR Ch (xkW a6 PP bM ad)) xle) (xa5 xyA (xcO GS N3 Se (xkW a6 PP bM (xcD xa9))) PP))
  (xdD 6 NG.nd (aQ (xmU (xl5 GD Di (xqo PP ad (xcD xa9))))) 7 NG.nd (dC (xv7 TD) (xcO GC N3 Cd xco) o5) (xcl 8 NG.nd (xbv xuh χ) (xoP (xuS (xa5 tx No bP) (xa5 cH xuh xjN)) (xhx 1 NG.nd (ay GP N3 Pc (aa xco (xvN TD xgi No Ps))))) (xjM (xCm (PW.pt (dH (xa5 dW No bP) (dH (xa5 kJ xuh xjN) (dH (aq uI de (xzO qG xDw xDw bM) Z7) (dD (xlk cF (xdz (xRw eN JI (xcw xDw)) xDw)))))))) (dC (xuS (xa5 kX xa9 χ) (xa5 lH (xRw eN JI (xcw xDw)) xDw)) No bP))))))
 have hb:=(pq.facts tw).1;obtain⟨i,ps,Rb,hi,hp,QR,rfl,Oq,MD⟩:=pq;have ht1:=tw.one;have ht2:=tw.le;have hbk:=zP hp tw QR (S.take st);have RW:xaI (S.take st) st:=Ko OR;rw [RW,EN,<-EE,Ft,show st+(xrg st+T.length)=xov by lia] at hbk;have QM:xbC (x1t).length:=by show xcj K30.C.Mu
 have hRb:=QR.byt;clear hp QR tw;generalize X9:x1t=bs at*;generalize ha0:xob-1=a0 at*;have hX3:xcm xvb Rb=xyq 3:=by show xhY (Ix 3 _)
 have hS:=xO6 K hR;show xd9 ⟨_,rfl,r,_,_,vN a0,rfl,rfl,hS,xev,_,_,rfl,rfl,xeG,_,rfl,r,_,_,vN a0,rfl,rfl,hS,xev,_,_,rfl,rfl,(by show xeq 64),_,_,rfl,rfl,_,rfl,r,_,_,vN Rb.length,rfl,rfl,hS,xdk,_,_,_,rfl,xaB⟩;rw [show LT a0/64=xer by lia,show LT a0%64+1=xVf by lia];refine xbA ⟨_,rfl,_,rfl,r,_,rfl,hS,xnl⟩
 have s1:=xv0 (xzk (xyy (xvb++Rb)) 2);have h1:(xpa (xzk (xyy (xvb++Rb)) 2)) l1=xah [a0,Rb.length]:=by show LE i' (xyw z xU3 (dJ _ 2))
 show xbU (xpa (xzk (xyy (xvb++Rb)) 2)) H1 ⟨l1,[a0,Rb.length],8,29,rfl,wp8,h1,λ y hy=>by simp at hy;lia,by show xjz (xbC 2),P3 H2 s2⟩;have NJ:=xfz;have Nu:=xsN hR;show xcr ⟨_,rfl,r,_,_,vN (xLZ [a0,Rb.length]),rfl,rfl,Mm.of Nu,xxe 2,rfl,_,rfl,?_⟩ xdT (aS ⟨_,rfl,_,rfl,_,_,rfl,rfl,_,rfl,r,_,rfl,Mm.of Nu,P3 l3 n3⟩);have e3:LT Rb.length+3=LT (Rb.length+3):=rfl;have ec:cutV (xyy (xvb++Rb)) none (xr8 (xyq 3))=Ρ (xvb++Rb):=by rw [dJ,<-GV,<-hX3];congr 1;exact Jq
 try dsimp only
 rw [e3,ec];have s3:=NJ.trans (xbe (xvb++Rb) n3);refine⟨l3,_,rfl,i',λ b q=>xj4 (xpP q),by lia,λ l4 H4 n4 s4 h4=>?_⟩;have s4:=xNI;have M8:=xfj hR;have hR4':=M8;rw [gU] at h4 hR4';show xcr ⟨_,rfl,l4,r,_,_,rfl,rfl,Mm.of h4,Mm.of hR4',_,rfl,?_⟩ xdT xqJ;clear g h4 hR4' n4 n3 n1 h1 s3 NJ Nu;refine xbA ⟨_,rfl,_,rfl,_,rfl,_,_,rfl,rfl,_,rfl,r,_,rfl,Mm.of M8,xvX⟩
 have ec:cutV (xyy (xvb++Rb)) (some 3) (xr8 (xyq 3))=xmw:=by
  show xmN _ (xgw 3) _=_;rw [gX _ (KY 3 _),Lg,<-G9,<-GV];congr 1;show(Rb++_).take Rb.length=Rb;exact Jq
 try dsimp only
 rw [e3,ec];have s5:=s4.trans (xAn xmw);have h5:(xhb xmw) l5=XL xmw:=i';show xsV (xhb xmw) H5 ⟨l5,Rb,rfl,h5,hRb,by lia,(by show xdn),λ a na=>xaB⟩ g;rw [X9];have XY:=none_of s5 na;have s6:=s5.trans (xa1 [xXr,xek] na);show xdg ha6 ((xbP H5 a [xXr,xek]) a=XL [xbE,xut]) i' (xbP H5 a [xXr,xek]) H6;clear s5 h5 n5 s4 M8 hR hS;have hx6:=xcE hx;have Zv:x≠a:=ae hx XY;refine xoh R7 g
 have J:∀d Mn L p H7,(i=3->Tm (H7 d) xot/\xsW 7 0/\xb6 L (x≤6))->LRs bs L st xov i p S (S++T)->H7 a=XL [xbE,xke]->NQ a H6 H7->R7 [xsw,xap x,UV st,UV i,UV T.length,UV Rb.length,xaQ,xhd,none] H7:=λ d Mn L p H7 hd ⟨pf,z,hz,hpf,hdz,hL⟩ h7a VX=>g _ _ (by
  clear g hbk;have h7x:=VX _ _ hx6 Zv;show xd9 ⟨_,rfl,x,_,rfl,xab h7x,_,rfl,_,_,rfl,rfl,xaB⟩;rw [EA];have eg:xVi+LT T.length=LT xov:=rfl;show Uf eg (xbA (Ψ (λ m σ H8=>∃l S1 p1,m=xov-S1.length/\σ=[xsw,xeu,UV st,UV i,UV T.length,UV Rb.length,xaQ,xhd,UV xov]/\LR bs L st xov i p1 S1 pf (S++T)/\(xBH S1.length->Ι)/\H8 l=XL (S1.map vN)/\xex a/\H8 a=XL [xbE,xK5]/\NQ a H7 H8) ⟨_,x,S,p,rfl,rfl,hL,xmj z z xli,h7x,Zv,h7a,λ _ _ e _=>e⟩))
  rintro m σ H8 ⟨l,S1,p1,rfl,rfl,PY,RS,h8l,XU,h8a,fr8⟩;have fr6:NQ a H6 H8:=λ c o e n=>fr8 _ _ (VX _ _ e n) n
  show xcr (xdy (cb ⟨_,rfl,l,_,rfl,xab h8l,_,rfl,_,_,rfl,rfl,_,rfl,?_⟩)) EA (xc9 X8 X8)
  ·have Mb:S1.length<xov:=xxf (EL X8);show xax xCo ⟨_,rfl,_,rfl,_,rfl,_,rfl,_,rfl,a,d,l,bs,p1,i,st,xov,L,S1,Mn,pf,S++T,rfl,h8a,QM,xc5 e3,h8l,PY,Mb,hlen,λ l9 p9 S9 H9 hL9 hlt9 n9 h9l h9a fr9=>?_⟩
   ·show xbp q1 q2 q3 (hd e3) ⟨fr8 _ _ q1 (On (by show xbm h7a q1 q1)),q2,q3⟩
   ·exact⟨_,by have:=hL9.le;lia,l9,S9,p9,rfl,rfl,hL9,λ _=>none_of s6 (fw fr6 h8a n9),h9l,(On (by show xbm h8a n9 n9)),h9a,λ c o e n=>fr9 _ _ (fr8 _ _ e n) n⟩
  ·have Np:xov≤S1.length:=by
    have:=Il (LA _▸X8);lia
   obtain⟨rfl,rfl⟩:S1=S++T/\p1=pf:=by
    cases PY with
    |done=>exact xkP
    |raw z=>lia
    |run z=>lia
    |sg z=>lia
    |cp z=>lia
    |tg z=>lia
    |tp z=>lia
   show xfD xaB g;have hS:=xO6 K h8a;have hbl2:xO7 xoD:=aW (by show xcj bj);have hzl:bs.length-p1<8:=by rw [<-EN,hdz,Mp];exact hz
   have hnl:=RS (by show xw1);refine xbA (xD3 ⟨_,rfl,l,_,rfl,xab h8l,_,rfl,rfl,_,rfl,?_⟩)
   rw [EA,EB,xdT];refine aS ⟨_,rfl,a,_,_,_,rfl,rfl,hS,xev,_,rfl,a,_,_,_,rfl,rfl,hS,xdk,_,rfl,_,rfl,hbl2,_,_,rfl,rfl,_,rfl,?_⟩;rw [rV hpf,AB,A3,hdz,FZ (xU z)];refine aS ⟨_,rfl,a,_,_,_,rfl,rfl,hS,xev,_,rfl,hbl2,_,rfl,a,_,_,_,rfl,rfl,hS,xdk,_,_,rfl,rfl,_,_,rfl,rfl,_,rfl,?_⟩;rw [bj,FZ (show¬XV 7<LT bs.length-LT p1 by lia)];show xfD xqJ g;show xcr ⟨_,rfl,_,rfl,_,_,rfl,rfl,_,rfl,?_⟩ (EJ (show LT Rb.length≤LT T.length by lia)) (cb ⟨_,rfl,a,_,_,_,rfl,rfl,hS,xev,_,rfl,hbl2,_,rfl,a,_,_,_,rfl,rfl,hS,xdk,_,_,rfl,rfl,_,rfl,?_⟩);rw [bj,EJ (show LT p1≤LT bs.length by lia)];exact cb (xaJ (xfp H8 hnl h8l λ c o e=>fr6 _ _ (xcE e) (xmX XY))))
 clear g;refine xdy (xc9 hd hd)
 ·obtain rfl:i=3:=KP (xCd hd);obtain⟨L,b1,hI,hL,hG,hbk⟩:=hbk.2 rfl;refine⟨_,rfl,a,bs,0,L,b1,rfl,ha6,QM,hI,hL,hG,λ d Mn p' H7 nd eb h7a h7d wk VX=>?_⟩;exact J d Mn L p' H7 (λ _=>⟨h7d,wk,xq hI (xmx h h) xan⟩) (hbk p' eb) h7a VX
 ·have h3:i≠3:=On (hd (EJ (by show xak z)))
  refine λ d nd=>J d [] [] 0 _ (xmj z z h3) (hbk.1 h3) (aj nd _ _ ha6) λ c o e _=>aj nd _ _ e
universe K30.Ck
namespace K30.Ck
open PySem L2 QQ W17 W16 BP
seal PE PA PS PSs PT PW PG PI
abbrev xp:L7:=top 142
inductive UU (vs:M2) (H:Hp) (Q:VK) (Ml:XK):Prop
 |mk (a:LV) (T:Fr) (Rs:xgd) (h0:vs=xbL) (h1:UF=xah (184::66::1::xA5)) (h2:xnO) (h3:xi7) (h4:xqS) (h5:∀l H',Ι->xaz=xcf->Κ->xat):UU vs H Q Ml
def OX:ST ["_law_bale","_law_text_here","_law_at","_law_row"] xNr xp:=Os
def xT (F:Δ "_law_read" xp xNr)(Bl:xbD "_law_block" jr Jan fb fdb)(Ta:xbD "_law_tail" mZ xG4 ft fdt)(Z:Lr K mg):xam 4 xNr UU:=by
 show xhe X Z.X Ch Z.check Se Z.seal';have GB:=vA (P:=P) (w:=w) (base:=base) Bl Z;have GT:=qd (P:=P) (w:=w) (base:=base) Ta Se Ch X;show xau OX (λ L9 A outer st H vs Q E hr h=>?_);obtain⟨a,T,Rs,rfl,ha,hN,hT,O4,k⟩:=h;have NO:xnI:=Ty;show xKr hu (xaF 1 OX.nd xe8 (xa6 2 OX.nd ad (xoP (PW.pt (dY (xa5 xPu (xkW a6 PP bM ad) (aQ (xin ad ad ad))) (dY (xv7 (xk4 xuh)) (di (xlk cF (xjX xPK)))))) (xaF 3 OX.nd (xqo PP Ps (xcD (xbv Ps (xjX xPK)))) (xcl 1 OX.nd (xfe GB NO Bl TD No (xf3 cj (xoO xuh))) (xkC dW No bP aM) (xmd OX.nd (xbv Ps (xjq TD)))))) (dC (xa5 xPu (xzO a6 PP Ps bM) (xcO GT NO Ta No)) No bP)))
 have hnB:xMC (64*xbj)/\64*xbj<xRm 64:=by unfold nB;lia
 generalize hZ:184::66::1::xA5=Z at*;show xoI g (xju (λ l0 n0=>xaB)) g g xaB g;have h0:Z.drop 3=xu7 0:=by rw [<-hZ];rfl
 have h3:Z.take 3=xig:=by rw [<-hZ];rfl
 refine xbA (Ψ (λ m σ H2=>∃j l at' v3,m=xbj-j/\j≤xbj/\σ=[xaQ,xeu,UV at',v3]/\Z.drop at'=xGw/\Ι/\xh3=xah xuW/\xjZ) ⟨_,0,l0,3,none,rfl,xan,rfl,h0,n0,by rw [Nat.mul_zero,Hx];exact i',aj n0⟩)
 rintro m σ H2 ⟨j,l,at',v3,rfl,hj,rfl,hd,nl,MD,s2⟩;have Of:=xcg ha;have lst:∀{n y},xbS (xGw) n y->(xOy)[at'+n]?=UV y:=λ {n y} e=>by rw [FA,<-Ik,hd,e];rfl
 refine⟨_,rfl,_,rfl,a,_,rfl,xDj,P3 l3 n3⟩;have ec:xzk xOy 3=Ρ xig:=by
  show cutV _ none (xr8 3)=_;rw [dJ,<-GV,h3]
 try dsimp only
 rw [ec];have s3:=s2.trans (xbe xig n3);refine xih (by show xe7 3) l4 n4 ⟨l3,l4,xig,xig,rfl,rfl,Mm.of (aj n4 _ _ i'),xyl,_,rfl,?_⟩;rw [xdT];have s23:=(xbe xig n3).trans (xa1 ([xWo,xXk,V.int 1]) n4);have s4:=s2.trans s23;show xpd QB (s23 _ _ MD) (xbP (xgz H2 l3 xig) l4 ([xWo,xXk,V.int 1])) H4;have YY:=xfj ha;refine cb ⟨_,rfl,l,_,rfl,xab QB,_,_,rfl,rfl,(by show xeq 64),rfl,_,rfl,?_⟩;rw [EA];show xbx j xbj Wd Wd
 ·clear g;have MG:64*j<T.length:=by lia
  have hjR:xyu j:=by show LE xK4 Wd
  have pq:=hN.2 j _ (EI hjR);have tw:=gB MG hT;obtain⟨er,_⟩:=mi (T:=T) hjR;rw [er] at hd lst;generalize Rs[j]=R at*;have V':xaI xuW (64*j):=Ko (E4 MG);obtain⟨n,RS,hnR,eR,QL⟩:∃n,Ν n/\xEY (n+5)/\xbS R 1 n/\xfY n:=by
   obtain⟨i,ps,Rb,_,_,_,rfl,h1,h2⟩:=id pq;exact xbY Rb.length h1 (by rw [eE,EB];show 3+_+2=_;lia) (EF h2 tw.le)
  have h1:(xOy)[at'+1]?=xhk:=lst (by show LE (F1 (by lia)) eR);rw [V',EJ (Ω (xsd xwh 64) xek (xB9 (by lia)))];refine cb ⟨_,rfl,_,rfl,_,_,rfl,rfl,a,_,_,xcG,rfl,rfl,xIN,xGI (at'+1) h1,_,_,rfl,rfl,_,rfl,?_⟩;show xhO (EJ (show xcU<xb4 by lia)) (cb xuF) (xbA ⟨_,rfl,_,rfl,_,rfl,_,rfl,_,rfl,_,rfl,_,_,rfl,rfl,a,_,_,xcG,rfl,rfl,xIN,xGI (at'+1) h1,_,_,rfl,rfl,_,_,rfl,rfl,_,rfl,a,_,rfl,xIN,xvX⟩)
  have ec:xBM xOy (xr8 at') (LT at'+xb4+5)=xgC:=by
   rw [xce (LT at'+xb4+5) (LT (at'+n+5)),gX _ (by lia),<-G9,<-GV,hd,show at'+n+5-at'=R.length by lia,Jq]
  try dsimp only
  rw [ec];have s5:=xAn xgC;have Wt:(xhb xgC) l5=xlD:=i';have XB:=xbb QB;have s5:=xNw;show xsV (xhb xgC) H5 xaB g;refine xbA ⟨_,rfl,_,rfl,_,rfl,l,_,rfl,xab XB,_,_,rfl,rfl,xeG,_,_,rfl,rfl,xQG,?_⟩
  rw [EA,V',show xwh/256*256=LT (j/4*256) by lia];show xfD ⟨l5,l,j/4*256,xuW,xj0,R,rfl,Wt,XB,pq,tw,by lia,by rw [V',<-V',<-EB,d5,ER];lia,λ l6 H6 n6 h6 s6=>xaB⟩ g;rw [d5] at h6;show xd9 xk9;show ρ ⟨_,rfl,_,rfl,l5,_,rfl,xab (xcE Wt),_,_,rfl,rfl,?_⟩ ⟨_,Gv Wd (Gs j),j+1,l6,xJH at',xFq,rfl,Wd,?_,?_,none_of s5 n6,h6,xNW⟩
  ·show xak EA
  ·rw [<-Gg,hd,Iy]
 ·obtain rfl:j=xbj:=ED hj Wd;have eT:xIv xbj=T:=E8 hnB.1;rw [eT] at QB ⊢;have er:=(mv (T:=T) (j:=xbj) (EC xK4)).1;rw [er] at hd lst;have fin:=g [xaQ,xeu,UV at',v3] H4 (by
   refine⟨_,rfl,_,rfl,_,rfl,a,_,rfl,xIN,P3 l6 n6⟩;rw [eu,<-G9,hd];have s6:=xbe xeK n6;refine⟨_,rfl,l,T,rfl,xJR,hT,O4,λ l7 H7 n7 s7 h7=>?_⟩;have h6:=xBk (Ω (xd8 H4 l6 xeK l6) (xah xeK) i');rw [gU] at h6 h7;show xgk ⟨l6,l7,_,_,rfl,rfl,Mm.of h6,Mm.of h7,_,rfl,?_⟩ xdT (cb (xaJ (xfp H7 nl (xBk xJR) (s4.trans (s6.trans s7))))))
  clear g;show ρ (aT xfA (λ _=>aS fin)) ⟨_,rfl,_,rfl,_,_,rfl,rfl,a,_,_,xut,rfl,rfl,xIN,xGI (at'+1) (lst rfl),_,_,rfl,rfl,_,rfl,aS fin⟩
abbrev mr:L7:=top 144
structure All (K:Frag)(mg:Α)(B D G0 CW C0 C1 C2 C3 c CK Mz CO Cq C G Ce Cp:LV):Prop where
 Z:Y8 K mg B D G0 CW C0 C1 C2 C3 c CK Mz CO Cq
 R:V1 K mg B D G0 CW C0 C1 C2 C3 CK Mz CO C G Ce
 O:Zf K mg Cp
 L:Lr K mg
 pressed:Wp "pressed" kl xPg
 opened:Wp "opened" om xdS
 cell:Wp "_law_cell_at" oi xHN
 mixed:Wp "_law_mixed" mw xCf
 text:Wp "_law_text" wZ xMX
 lhead:Wp "_law_head" rz xOJ
 block:Wp "_law_block" jr Jan
 read:Wp "_law_read" xp xNr
 ltail:Wp "_law_tail" mZ xG4
def uk (m)(h:xiX m):xTo 0 xjW 64/\xMD 0 m 64=LT ((m+63)/64):=by
 have e:xMD 0 m 64=LT ((m+63)/64):=by
  show x1F Z9
  split<;>lia
 refine xSz e;have f:∀i,0≤i->i<100000->xYv i:=λ i h0 h1=>by
  show xZb;rw [xrR,xrR];rfl
 show xci Builtin.Range.small e
 try dsimp only
 rw [f 0 Z9 Z9,f xjW Z5 (xEh h),f 64 Z9 Z9,f (LT ((m+63)/64)) xd1 (by lia),E5 Z9,f (xjW+(64-1)) Z5 (by lia)];simp
def Zu (T:Fr)(j:Nat):Fr:=sld (Md (64*0+xn0-1) xn0++xj0)
abbrev Rr (T:Fr)(n:Nat):xgd:=xqt n (Zu T)
def nO (T j):xaI xK6 (xn0+5):=by
 show xc2 Zu eE EB;show 3+_+2=_;lia
def nL (T j):xCs T (j+1)=xCs T j++xK6:=by
 unfold Rr;rw [KS,EO,IE];show _++(xK6++[])=_;rw [Fv]
def CG (hb:xi7):WN T (Rr T xbj):=by
 show xjH ⟨by rw [EA,HZ],xdm j R⟩ hj e (xX7 e);rw [EA,HZ] at hj;rw [Lz,List.getElem_range] at e;have tw:=gB (F:=T) (i:=j) (by unfold nB at hj;lia) hb;refine⟨0,xGV xj0,xj0,Z9,rfl,Ψ (by show xcj cy) tw.tb,e.symm,tw.one,Tl⟩;rw [cy,IM,LM,Nat.mul_one];exact((kA _ 0).trans (by rw [Ju,Ge])).symm
theorem Az (hN:xnO)(hb:xi7):∀n,n≤xbj->(Rs.take n).flatten.length≤(Rr T n).flatten.length
 |0,_=>Tl
 |n+1,h=>by
  have hn:xyu n:=by show LE xK4 h
  have tw:=gB (F:=T) (i:=n) (by unfold nB at h;lia) hb;have h1:=((hN.2 n _ (EI hn)).facts tw).2;have ih:=Az hN hb n (G1 h);have e:=nO T n;rw [<-List.take_append_getElem hn,IE,EB,nL,EB];show _+xcm Rs[n] []≤_;show LE Fv (Ez ih (e▸h1))
inductive Sq (K:Frag) (Tb:LV) (vs:M2) (H:Hp) (Q:VK) (Ml:XK):Prop
 |mk (a:LV) (ns:xoJ) (h0:vs=xbL) (h1:Mm K H a xip) (h2:xjw Tb xCD) (h3:xrU a) (h4:xez (xcP xCR)):Sq K Tb vs H Q Ml
abbrev Eg:xaO:=["_law_script","_law_cell","_law_text_here","_law_begin","_law_handed","_law_bale","_law_plain","_law_at","_law_part"]
def NP:ST Eg xNc mr:=Os
def A6 (F:xaL "law" "law" mr)(Y:All K mg B D G0 CW C0 C1 C2 C3 c CK Mz CO Cq C G Ce Cp)(hC:xnP)(VT:xns)(hK:xpr):xam 45 xNc (Sq K Tb):=by
 show xhe X Y.L.X Pr Y.pressed Op Y.opened;show xbO Ca Y.cell Mi Y.mixed;show xbO Tx Y.text He Y.lhead;show xbO Bl Y.block Re Y.read;show xgA Ta Y.ltail Ch Y.L.check Se Y.L.seal';have GC:=yn (P:=P) (w:=w) (base:=base) Ca X;have GM:=qB (P:=P) (w:=w) (base:=base) Mi;have GT:=zT (P:=P) (w:=w) (base:=base) Tx Mi X;have GX:=rG (P:=P) (w:=w) (base:=base) Pr Y.Z hC VT hK;have GO:=vn (P:=P) (w:=w) (base:=base) Op Y.R Y.O;have GR:=xT (P:=P) (w:=w) (base:=base) Re Bl Ta Y.L;have GS:=iS (P:=P) (w:=w) (base:=base) Se Ch X;have GH:=xc (P:=P) (w:=w) (base:=base) He Ch X;have GA:=qd (P:=P) (w:=w) (base:=base) Ta Se Ch X;show xao NP (λ L9 A outer st H vs Q E hr h=>?_);show xiN a ns rfl hS Rw haT k;have Mw:xbg:=Ty;have N3:xnH:=Ty;have NO:xnI:=Ty;have Ru:xAF:=Ty;have P2:xbr 31:=Ty;have hr43:xbr 43:=Ty;show xKr hu (xaF 1 NP.nd (xrv GM Mi (xrv GC Ca PP)) (xcl 2 NP.nd (xcQ GT P2 Tx (xrv GC Ca PP) (xq2 (xE2 xJm xJm) (xDa iN X.int Jw (dm bd xPS ad xrz)))) (xqq xPS ad (xdD 2 NP.nd (xcQ GT P2 Tx (xrv GC Ca PP) ad) 3 NP.nd (xbv ad xJm) (xmd NP.nd (xLF (xqo Ps TD (xbv (xcD TD) xJm)))))) (xaF 4 NP.nd (xEJ bp Gh Ps) (xcl 5 NP.nd (xcO GX hr43 Pr χ) (xCm (PW.pt (dH (xa5 xyA χ Ps) (dH (xqM (xw3 gW X.isi Iw xa9 (jq (v:=.ty "list") Z7 X.list Gh rfl))) (dH (xa5 xyA (xcO GR Ru Re xa9) Ps) (dD (xa5 xyA (xd2 GO Op xa9) Ps))))))) (xa6 6 NP.nd (aQ (xin ad ad ad)) (xg0 (lN Z7 X.range (xin ad xJd ad)) 7 NP.nd (xaF 8 NP.nd (xqo Ps xgi (xcD xgi)) (xhx 6 NP.nd (xfb xco (xcO GS N3 Se (xfb (xfe GH N3 He ad (xjq xjN) (xjq xjN)) xjN)))))) (xKM (dm xPu (xd2 GO Op (xfb xco (xcO GA NO Ta Ps))) Ps xrz) (dm kX (xjq xa9) (xcD (xjq xco)) xrz)))))))
 have tb0:xsD:=xbu Rw xec;show xd9 ⟨_,rfl,a,ns,0,rfl,hS,_,_,rfl,Z9,Z9,xaB⟩;generalize mixN (ns.getD 0 0) 0=n;refine xbA ⟨_,rfl,a,ns,1,rfl,hS,_,rfl,_,_,rfl,rfl,xeG,_,_,rfl,rfl,(by show xeq 71),_,rfl,_,_,rfl,rfl,xeG,_,_,rfl,rfl,(by show xeq 151),(by show xdn),xnl⟩
 obtain⟨sz,hsz,hat⟩:∃sz,sz≤150/\Wv [xsd (xay/8) 71,xsd (xay/8) 151] (xcA (xIH (xsd xay 8) 1) 1 0)=UV sz:=by
  cases xIH (xsd xay 8) 1
  ·exact xee (n/8%71) (by lia)
  ·exact xee (n/8%151) (by lia)
 have s1:=xv0 [xsd (xb4/8) 71,xsd (xb4/8) 151];show xfD ⟨_,rfl,_,_,rfl,rfl,(by show xeq 8),rfl,.inr ⟨_,rfl,l1,_,_,vN sz,rfl,rfl,xyl,hat,_,sz,rfl,by lia,λ lt T H2 s2 _ Mb hTl OO=>xaB⟩⟩ g;have s2:=xfz;clear s1 hat n1;show ρ (xoh R3 g) ((λ(J:∀(lt:LV) (T:List Nat) (v3:Option V) (H2:Hp),Mf H H2->H2 lt=some (.lst (T.map vN))->T.length≤560->(∀b∈T,b<256)->R3 [some (.ref a),some (vN n),some (.ref lt),v3,none,none,none,none,none] H2)=>?_) (λ lt T v3 H2 s2 Mb hTl OO=>xaB))
 ·clear g;show ρ ⟨_,rfl,_,_,rfl,rfl,(by show xeq 16),rfl,_,rfl,xEb z (J lt T none H2 s2 Mb (by lia) OO)⟩ ⟨_,rfl,a,ns,1,rfl,s2.seq hS,_,512,rfl,by lia,λ l3 U H3 s3 _ h3 hUl hUb=>?_⟩;show ρ ⟨_,rfl,_,_,rfl,rfl,xeG,_,_,rfl,rfl,(by show xeq 136),_,_,rfl,rfl,?_⟩ ⟨_,rfl,_,rfl,_,rfl,_,rfl,_,rfl,_,_,rfl,rfl,_,rfl,_,_,rfl,rfl,xeG,_,_,rfl,rfl,(by show xeq 40),_,_,rfl,rfl,_,rfl,l3,_,rfl,Mm.of h3,P3 l4 n4⟩;have ec:xBM (U.map vN) (some (XV 312+xb4/16%136)) (XV 312+xb4/16%136+1+xb4/2176%40)=Ρ ((U.drop (312+n/16%136)).take (1+n/2176%40)):=by
   rw [xce (XV 312+xb4/16%136) (LT (312+n/16%136)),xce (LT (312+n/16%136)+1+xb4/2176%40) (LT (312+n/16%136+1+n/2176%40)),gX _ (by lia),GV,G9];congr 1;lia
  try dsimp only
  rw [ec];generalize eD:(U.drop (312+n/16%136)).take (1+n/2176%40)=D';have hDl:D'.length≤40:=by rw [<-eD,ER];lia
  have hDb:xe3 D':=xbo (hUb b (xJM (eD▸hb)))
  have s4:=xa1 (D'.map vN) n4;refine⟨l3,l4,_,_,rfl,rfl,xfj h3,i',aW (by rw [EA,EA];lia),xvX⟩;show xba EO (J l5 (U++D') _ _ (((xUo).trans s4).trans (aj n5)) i' (by show xw1) (xbo (xOz hb (hUb b) (hDb b))))
 clear g;show xd9 (xrQ lt Mb (λ lh nh=>xaB));have s3:=xa1 xkJ nh;have h3h:(xjV lh xkJ) lh=xcf:=i';have h3t:=xbZ Mb;show xpd s3 xUo (xjV lh xkJ) H3;have tb3:=tb0.same s3;have nlt:=tb3.ne h3t (by intro ps z;cases z);have nlh:=tb3.ne h3h (by intro ps z;cases z);show xd9 ⟨_,rfl,lh,T,rfl,h3h,OO,by lia,tb3,λ lb Z H4 _ hW h4b fr _=>xaB⟩;have h4h:=xg5 nlh h3h;have h4t:=xg5 nlt h3t;clear fr nlt nlh tb3 tb0 s3 h3h h3t nh Mb s2;show xeB Rs hN (hW.all OO);have O4:xqS:=by lia
 have e4h:=h4h;have e4t:=h4t;rw [gU] at e4h e4t;refine xbA ⟨_,rfl,_,rfl,lh,lt,_,_,rfl,rfl,Mm.of e4h,Mm.of e4t,_,rfl,?_⟩
 show xhO xdT (aS ⟨_,rfl,_,_,_,_,rfl,.lst h4b,wa _,true,rfl,xiS⟩) ⟨_,rfl,lb,T,Rs,rfl,h4b,hN,OO,O4,λ l5 H5 _ h5 s5=>?_⟩;have e5t:=xbb h4t;rw [gU] at h5 e5t;show xcr ⟨_,rfl,l5,lt,_,_,rfl,rfl,Mm.of h5,Mm.of e5t,_,rfl,?_⟩ xdT (aS ⟨_,rfl,lb,T,Rs,rfl,OO,O4,hN,xbb h4b,λ l6 H6 _ h6 s6=>?_⟩);have s6:=xNW;have e6t:=xcE h4t;rw [gU] at h6 e6t;show xcr ⟨_,rfl,l6,lt,_,_,rfl,rfl,Mm.of h6,Mm.of e6t,_,rfl,?_⟩ xdT xqJ;clear g e4h e4t h5 e5t s5 h6 e6t;have h6t:=xcE h4t;have h6b:=xcE h4b;clear s6 h4t h4b h4h;show xd9 (xih (by show xe7 3) lp np xaB);have s7:=xa1 ([xWo,xXk,V.int 1]) np;show xaK hle (Az hN OO xbj Tl) (E8 (EC xK4)) hle;have hraw:=CG OO;have hfl:∀j,j≤xbj->(Rr T j).flatten.length≤69*j:=λ j=>by
  induction j with
  |zero=>exact λ _=>Tl
  |succ j ih=>
   intro h;have e:=nO T j;have:xcy xj0 64:=Je _ _;rw [nL,EB];have:=ih (G1 h);lia
 have hn9:xbj≤9:=by unfold nB;lia
 refine xbA ⟨_,rfl,lt,_,rfl,xab (xBk h6t),0,_,64,xbj,rfl,Z9,?_,?_,Km Z9,kF (D:=xxX) (lo:=0) (c:=64) (n:=xbj)
  (λ j σ H4=>∃lp v7 v8,σ=[xaQ,xhk,xap lt,v3,xap lh,xap lb,xap lp,v7,v8]/\H4 lp=xkx xig (xCs T j)/\H4 lt=xcf/\H4 lb=xah (184::66::1::xA5)) (xjj lp none none i' (xBk h6t) (xBk h6b)) ?_ ?_⟩
 ·show xaT (uk T.length (by lia)).1
 ·show xaT (uk T.length (by lia)).2
 ·clear g;rintro j σ H7 hj ⟨lp,v7,v8,rfl,h7p,h7t,h7b⟩;have e0:xcU+xrG*64=xwh:=by lia
  rw [e0];have tw:=gB (F:=T) (i:=j) (by unfold nB at hj;lia) OO;have h1:=tw.one;have h2:=tw.le;refine xbA ⟨_,rfl,_,rfl,_,rfl,_,rfl,_,_,rfl,rfl,_,rfl,lt,_,rfl,Mm.of h7t,P3 lq nq⟩
  have ec:xBM xkJ (xr8 (64*j)) (xwh+64)=Ρ xj0:=by
   rw [xce (xwh+64) (LT (64*j+64)),gX _ xes,F3,<-G9,<-GV];rfl
  try dsimp only
  rw [ec];have s8:=xbe xj0 nq;have h8q:xd8 H7 lq xj0 lq=xah xj0:=i';show xiV H7 lq xj0 H8 xaB;clear g;refine⟨_,rfl,_,rfl,lq,_,rfl,xab h8q,_,rfl,lq,_,rfl,xab h8q,?_⟩;show xhO EA ⟨0,xn0,xn0,rfl,Z9,h1,h2,by lia,λ l9 H9 _ s9 h9=>?_⟩ ⟨_,rfl,l9,lq,_,_,rfl,rfl,h9,s9 _ _ h8q,aW (by rw [EA,EA];show 3+_≤_;lia),P3 l10 n10⟩;rw [<-EO];have YF:=xbe (Md (64*0+xn0-1) xn0++xj0) n10;refine⟨l10,_,rfl,i',xbo (xOz hb (cX (by lia) (by lia) b) (tw.tb b)),by rw [EB];show 3+_≤_;lia,λ l11 H11 _ s11 PZ=>?_⟩;have s11:=s8.trans (s9.trans (YF.trans s11));have hj9:=hfl j (E4 hj);have RQ:=nO T j;refine⟨lp,l11,_,_,rfl,rfl,s11 _ _ h7p,PZ,aW (by rw [EA,EA,EB];show xGs (3+_) xK6≤_;lia),P3 l12 n12⟩;show xmc NJ (s11.trans (xa1 (Ρ (xig++xCs T j)++Ρ xK6) n12)) (xjj l12 _ _ ?_ (xsN h7t) (xsN h7b)) (i'.trans ?_);exact xyw z xU3 (by rw [nL,<-EE];exact(EO).symm)
 ·rintro σ H7 ⟨lp,v7,v8,rfl,h7p,h7t,h7b⟩;show xfD xaB g;show xmc hj9 (hfl xbj Tl) ⟨_,rfl,_,rfl,lt,T,rfl,h7t,OO,O4,λ l8 H8 _ s8 h8=>?_⟩ ⟨lp,l8,_,_,rfl,rfl,s8 _ _ h7p,h8,aW (by rw [EA,EA,EB];show 3+_+11≤_;lia),P3 l9 n9⟩;rw [<-EO];have s9:=s8.trans (xbe (xig++xCs T xbj++xeK) n9);refine⟨l9,T,Rr T xbj,rfl,OO,O4,hraw,i',λ l10 H10 _ Ye YF=>?_⟩;have YF:=s9.trans YF;have e10:=YF _ _ h7t;rw [gU] at Ye e10;show xcr ⟨_,rfl,l10,lt,_,_,rfl,rfl,Mm.of Ye,Mm.of e10,?_⟩ xdT (xaJ (cb ⟨_,rfl,lb,_,rfl,xab (YF _ _ h7b),_,rfl,lp,_,rfl,xab (YF _ _ h7p),_,_,rfl,rfl,_,_,rfl,rfl,?_⟩));have hfin:xcy (184::66::1::xA5) (xcm xig (xCs T xbj)+11):=by
   rw [EV,EV,EV,EB,EB];show _+11+1+1+1≤3+_+11;lia
  rw [EA,EA];exact(xBG b (Q (V.bl b) H10) (EJ (xqu hfin))).mpr (k H10)
universe K30.Ck
namespace K30.Ck
open PySem L2 QQ
section
variable {K:Frag}{mg:Α}{h:L4}
def NB.i {x qu:Str}{st:L7}{f:LV}{oc dV:LW}{od an:xiy}{sl:xoK}{kV dc pm cd ct:LW}(l:xBf (xuE x qu cd) sl)(c:xxs K cd qu)(k:xiU):xA2 qu f (xuE x qu cd):=⟨⟨oc,od,kV,dc,pm,an,cd,ct,sl,rfl,l,c⟩,k⟩
def Sn.i {x qu:Str}{st:L7}{f cd:LV}{oc dV:LW}{od an:xiy}{sl:xoK}{kV dc pm ct:LW}(l:xBf (xuE x qu xyd) sl)(c:xxs K xyd qu)(k:xiU):Sn K x qu st dV cd f (xuE x qu xyd):=⟨⟨oc,od,kV,dc,pm,an,ct,sl,rfl,l,c⟩,k⟩
def tabI {x:Str}{d:LV}{p q:Int}{t1 t2 t3 t4:Tok}{ep:Nat}(X:xy4)(G:xvq)(a:xGq K x xhd)(l:xqD d (some ⟨xNm,none,xRa #[⟨8,xQS t1,.int p t2⟩,⟨16,.int 16 t3,.int q t4⟩],#[]⟩))(s:Μ (xSY d)):∃d,xwo=xhd/\T6 K d p q:=⟨d,xwR,s,t1,t2,t3,t4,ep,l⟩
def markI {x:Str}{d:LV}{t1 t2 t3:Tok}{od:xiy}{n:Nat}{sl:xoK}(X:xy4)(G:xvq)(a:xGq K x xhd)(l:xqD d (some ⟨xHi,od,.seq #[.int 184 t1,.int 66 t2,xuz t3] n,sl⟩)):∃d,xwo=xhd/\∀H,xp9 d [xEz,xFp,vN 1]:=⟨d,xwR,λ _=>.inr (xdc _ _ _ l rfl (by show xe7 3) (xXq (xXq (xmA xbs))))⟩
def nI {x:Str}{n:Int}{t:Tok}(X:xy4)(G:xvq)(a:xGq K x (xcz n)):∃t,xwo=xcz n:=⟨t,xwR⟩
section
variable {x qu:Str}{st:L7}{ps:xaO}{f C:LV}{oc dV:LW}{od an:xiy}{sl:xoK}{kV dc pm cd ct:LW}(l9:xBf (xuE x qu cd) sl)(c9:xxs K cd qu)(k9:xiU)
include l9 c9 k9
def inI (e:dV=.none)(b:xrP x qu cd ps [])(m:xxU K C)(a:xxP K xeL)(i:xDm K xeD)(q:xLg):∃f fd,xaL x qu st/\xps/\xsL:=by
 show xc3 (xeQ _ (fun_mk l9 c9 k9) b ⟨m,a,i,q⟩)
def ciI (b:xrP x qu cd ps [])(m:xxU K C)(a:xxP K xeL)(i:xDm K xeD)(q:xLg):∃f fd dV,xA2 qu f fd/\xps/\xsL:=⟨_,_,_,xLH,b,⟨m,a,i,q⟩⟩
def cdI {n:Int}{t:Tok}(d:xrP x qu cd ps [xdK n])(m:xxU K C)(a:xxP K xeL)(i:xDm K xeD)(q:xLg):∃f fd t,(∃dV,xA2 qu f fd)/\xDb K [xdK n]/\xsL:=⟨_,_,_,xbR xLH,d,⟨m,a,i,q⟩⟩
universe s
section
variable {x:Str}{st:L7}{ps:xaO}{f:LV}{oc dV:LW}{od an:xiy}{sl:xoK}{kV dc pm cd ct:LW}(X:xy4)(G:xvq)(a:xGq K x xeL)(l9:xBf (xuE x x cd) sl)(c9:xxs K cd x)(k9:xiU)(b:xrP x x cd ps [])
include X G a l9 c9 k9 b
def fdI (d:xrP x x cd ps xJv):∃f fd,xKA x st ps f fd:=⟨_,_,xbR xLH,xwR,b,d⟩
def flI {t:Tok}(d:xrP x x cd ps [xdK 6]):∃f fd,K30.S.FnL K mg x st ps f fd:=⟨_,_,xbR xLH,xwR,b,_,d⟩
def fkI {t:Tok}(d:xrP x x cd ps [xdK 16]):∃f fd,FnK K mg x st ps f fd:=⟨_,_,xbR xLH,xwR,b,_,d⟩
universe s
def fcI {x:Str}{st:L7}{ps:xaO}{f cd:LV}{oc dV:LW}{od an:xiy}{sl:xoK}{kV dc pm ct:LW}(X:xy4)(G:xvq)(a:xGq K x xeL)(l:xBf (xuE x x xyd) sl)(c:xxs K xyd x)(k:xiU)(b:xrP x x xyd ps [])(d:xrP x x xyd ps xJv):∃f fd dV,Sn K x x st dV cd f fd/\xwo=xeL/\xps/\xDb K xJv:=⟨_,_,_,Sn.i l c k,xwR,b,d⟩
def m0 {P:xdq xa3}(h:P []):∀us:xa3,xyx 0->P us:=λ us hl=>by
 cases us with
 |nil=>exact h
 |cons a us=>cases hl
def mS {n:Nat}{P:xdq xa3}(h:∀a (us:xa3),xyx n->P (a::us)):∀us:xa3,xyx (n+1)->P us:=λ us hl=>by
 cases us with
 |nil=>cases hl
 |cons a us=>exact h a us (Nat.succ.inj hl)
def e1 {us:xa3}(h:xyx 1):∃a,us=xfv:=mS (P:=λ us=>∃a,us=xfv) (λ a=>m0 (xcM a)) us h
def e2 {us:xa3}(h:xyx 2):∃a b,us=[a,b]:=mS (P:=λ us=>∃a b,us=[a,b]) (λ a=>mS λ b=>m0 (xee a b)) us h
def b2 {fd:L0}{p q:Str}(h:∀(s:LX) (a b:LW),xox->xze s [a,b] [(p,a),(q,b)]):xlh [p,q]:=λ s us hX hl=>by
 show xeB a b (e2 (show xyx 2 by simpa using hl));exact h s a b hX
def b1 {fd:L0}{p q:Str}{v:LW}(h:∀(s:LX) (a:LW),xox->xze s xfv [(p,a),(q,v)]):xBx K [p,q] [v]:=λ s us hX hl=>by
 show xgK a (e1 (show xyx 1 by simpa using hl)) (h s a hX)
universe s
def hd {l:PySem.W.OpenLaw}{w:LZ}{K:Frag}{h:L4}{mg:Α}{fa f B C0 C1 C2 C3 c CK Mz cO cQ cA cG cE cV Tb:LV}{od an:xiy}{sl:xoK}{oc kV dc pm cd ct:LW}(hKT:xpr)(X:xy4)(G:xvq)(hfa:mg "law"=xap fa)
  (a:xGq K "law" xeL) (lk:xBf (fnOf "law" "law" (a7 mr) (aY mr) (ag mr) .none kV dc pm an cd ct) sl) (cc:xxs K cd "law") (kk:xiU) (R0':xcH) (R1':xcH->xFP) (R2':xFP->K30.YD K mg) (R3':K30.YD K mg->xWp mg) (R4':K30.CB K mg B) (R5':xFP->K30.CB K mg B->xXl mg B) (R6':xcH->xWq mg) (R7':xcH->xOl mg) (R8':xcH->xOl mg->xLv 0) (R9':xLv 0->xOK mg 0 0) (R10':xWp mg->xXl mg B->xWq mg->xOK mg 0 0->xPi mg B 0 0) (R11':xwC C0 0) (R12':xwC C0 0->xWr mg C0 0) (R13':xwC C1 0) (R14':xwC C1 0->xWs mg C1 0) (R15':xwC C2 0) (R16':xwC C2 0->xWt mg C2 0) (R17':xwC C3 0) (R18':xwC C3 0->xWu mg C3 0) (R19':xPi mg B 0 0->xWr mg C0 0->xWs mg C1 0->xWt mg C2 0->xWu mg C3 0->xPj mg B 0 0 0 C0 C1 C2 C3) (R20':xFP->K30.Ck.Txt K mg) (R21':K30.Ck.CC K mg CK) (R22':K30.Ck.Txt K mg->K30.Ck.CC K mg CK->K30.Ck.Chk K mg CK) (R23':K30.Ck.Chk K mg CK->xNX mg CK) (R24':xVc mg Mz) (R25':xPj mg B 0 0 0 C0 C1 C2 C3->xNX mg CK->xVc mg Mz->K30.Ck.Bks K mg B 0 0 0 C0 C1 C2 C3 c CK Mz) (R26':xNX mg CK->xVd mg CK cO) (R27':K30.Ck.CP K mg cQ) (R28':K30.Ck.Bks K mg B 0 0 0 C0 C1 C2 C3 c CK Mz->xVd mg CK cO->K30.Ck.CP K mg cQ->K30.Ck.Y8 K mg B 0 0 0 C0 C1 C2 C3 c CK Mz cO cQ) (R29':xNX mg CK->xVc mg Mz->xFP->xVe mg CK Mz) (R30':xVe mg CK Mz->xVd mg CK cO->K30.Ck.Y9 K mg CK Mz cO) (R31':K30.Yh K mg cA) (R32':xFP->K30.Yh K mg cA->K30.Ck.Ww K mg cA) (R33':xcH->K30.Ck.Rds K mg) (R34':K30.C.CRc K mg cG) (R35':xcH->xOl mg->K30.C.CRc K mg cG->xU9 mg cG) (R36':K30.Ck.Ww K mg cA->K30.Ck.Rds K mg->xU9 mg cG->K30.Ck.Tbs K mg cA cG) (R37':K30.Ck.Tbs K mg cA cG->K30.Ck.VG K mg cA cG C0 C1 C2 C3) (R38':xVe mg CK Mz->K30.Ck.VG K mg cA cG C0 C1 C2 C3->K30.Ck.Tbk K mg CK Mz cA cG C0 C1 C2 C3) (R39':xcH->xOl mg->xLv G') (R40':xLv G'->xOK mg 0 G') (R41':xWp mg->xXl mg B->xWq mg->xOK mg 0 G'->xPi mg B 0 G') (R42':xPi mg B 0 G'->xWr mg C0 0->xWs mg C1 0->xWt mg C2 0->xWu mg C3 0->xPj mg B 0 G' 0 C0 C1 C2 C3) (R43':K30.Ck.CRe K mg cE) (R44':K30.Ck.Y9 K mg CK Mz cO->K30.Ck.Tbk K mg CK Mz cA cG C0 C1 C2 C3->xPj mg B 0 G' 0 C0 C1 C2 C3->K30.Ck.CRe K mg cE->K30.Ck.V1 K mg B 0 0 0 C0 C1 C2 C3 CK Mz cO cA cG cE) (R45':K30.Ck.Zf K mg cV) (R46':xcH->K30.Ck.Lr K mg) (R47':K30.Ck.Y8 K mg B 0 0 0 C0 C1 C2 C3 c CK Mz cO cQ->K30.Ck.V1 K mg B 0 0 0 C0 C1 C2 C3 CK Mz cO cA cG cE->K30.Ck.Zf K mg cV->K30.Ck.Lr K mg->K30.Ck.All K mg B 0 0 0 C0 C1 C2 C3 c CK Mz cO cQ cA cG cE cV):
  ∃fd:L0,(∀(s:LX) (v:LW),xze s [v] [("_law_script",v)])/\∀base:L4,xWg->xLi->xnP->xns->xii l.prog w K Mq 45 fa fd xNc (Sq K Tb):=by
 have e:=hfa.symm.trans xwR;cases e;have R0:=R0';have R1:=R1' R0;have R2:=R2' R1;have R3:=R3' R2;have R4:=R4';have R5:=R5' R1 R4;have R6:=R6' R0;have R7:=R7' R0;have R8:=R8' R0 R7;have R9:=R9' R8;have R10:=R10' R3 R5 R6 R9;have R11:=R11';have R12:=R12' R11;have R13:=R13';have R14:=R14' R13;have R15:=R15';have R16:=R16' R15;have R17:=R17';have R18:=R18' R17;have R19:=R19' R10 R12 R14 R16 R18;have R20:=R20' R1;have R21:=R21';have R22:=R22' R20 R21;have R23:=R23' R22;have R24:=R24';have R25:=R25' R19 R23 R24;have R26:=R26' R23;have R27:=R27';have R28:=R28' R25 R26 R27;have R29:=R29' R23 R24 R1;have R30:=R30' R29 R26;have R31:=R31';have R32:=R32' R1 R31;have R33:=R33' R0;have R34:=R34';have R35:=R35' R0 R7 R34;have R36:=R36' R32 R33 R35;have R37:=R37' R36;have R38:=R38' R29 R37;have R39:=R39' R0 R7;have R40:=R40' R39;have R41:=R41' R3 R5 R6 R40;have R42:=R42' R41 R12 R14 R16 R18;have R43:=R43';have R44:=R44' R30 R38 R42 R43;have R45:=R45';have R46:=R46' R0;have R47:=R47' R28 R44 R45 R46;exact⟨fnOf "law" "law" (a7 mr) (aY mr) (ag mr) .none kV dc pm an cd ct,λ s v=>.of_eq rfl,λ base _ _ hC hB=>A6 (fun_mk (st:=mr) lk cc kk) R47 hC hB hKT⟩
def walk {l:PySem.W.OpenLaw}{q:LY}{loose:xaO}{XP:xea (Α) L4}{YP:xea LZ L4}{d:DefRec}{K:Params->Frag}{Tb c:LV}(hn:xQq 63)(hdf:xT4 [])
  (hY:∀(w:LZ) (h:L4),YP w h->xEB h/\xBE Tb (PySem.W.tabObj #[])) (hKT:∀w:LZ,xmt xop Tb)
  (F:∀(w:LZ) (mg:Α) (fa:LV) (h:L4),xEB h->xvq->xWi=xap fa->
   ∃fd:L0,(∀(s:LX) (u:LW),xze s xky [("_law_script",u)])/\∀base:L4,xEB base->xLi->xnP->xns->xii l.prog w xop Mq 45 fa fd xNc (Sq xop Tb))
  (hC:∀w:LZ,SL (PySem.W.codeHdIn xop c Tb)):
  x0z loose XP YP l.row.toRowW d [] (λ f vs=>xUD vs):=
 L2.Xt (n:=63) (k:=45) (x:="_law_script") (sp:=λ w=>Sq xop Tb) hn (by decide) hdf ⟨xhA,by decide,by decide,rfl⟩ hY hC hKT F λ _ H a ns hl hS hT na=>⟨a,ns,rfl,hS,hT,na,xhA⟩
universe K30.Ck
end
end
open PySem PySem.W PyProof.Rows
section
local macro_rules|`(example:=[$x,*])=>return Lean.mkNullNode (← x.getElems.flatMapM λ x=>do
 let s:=x.raw
 let k:=s[0].getId.toString
 let a:=s[1].getArgs.map (·.isNatLit?.getD 0)
 let a:=if k=="o" then (List.range (a[1]!-a[0]!+1)).toArray.map (·+a[0]!) else a
 (match s.isNatLit? with|some h=>#[h]|_=>a.map λ i=>(Lean.Name.mkStr `PySem.Challenge.cw_balepress_k30_whole_read_by_the_document_holds s!"{k}_{i}").hash.toNat).mapM λ h=>return (← `(command|def $(Lean.mkIdent (.mkStr `PySem.W.Fast s!"tw{h}")):ident:=True)).raw)
example:=[env 41,heap 39 46 1456,o 43 46,o 49 466,o 469 1455,sts 49 64 79 94 109 124 139 154 169 184 199 214 229 244 259 274 324 347 398 456 469 529 603 647 720 785 829 863 899 935 984 1043 1082 1133 1191 1228 1293 1351 1433,tree 47 63 78 93 108 123 138 153 168 183 198 213 228 243 258 273 323 346 397 455 466 528 602 646 719 784 828 862 898 934 983 1042 1081 1132 1190 1227 1292 1350 1432 1455,view 39,11671492197801897206,5866378982007532906]
end
theorem Hk4.cut {α β γ:Type}{f:α->γ}{g:β->γ}(k:Nat){a:List α}{b:List β}(x:(List.take k a).map f=(List.take k b).map g)(y:(List.drop k a).map f=(List.drop k b).map g):a.map f=b.map g:=by
 rw[← List.take_append_drop k a,← List.take_append_drop k b,List.map_append,List.map_append,x,y]
theorem Hk4.of {K:PySem.Params->PySem.W.Frag}{as:List PySem.Addr}(e:∀P,as=(K P).map (·.1))(ts:List PySem.Addr)(w:PySem.World)(s:PySem.Shared)(z:((List.take 190 as).map s.heap.get?,(List.take 190 (List.drop 190 as)).map s.heap.get?,(List.take 190 (List.drop 190 (List.drop 190 as))).map s.heap.get?,(List.drop 190 (List.drop 190 (List.drop 190 as))).map s.heap.get?,ts.map s.heap.get?)=((List.take 190 (K w.params)).map (fun p=>some p.2),(List.take 190 (List.drop 190 (K w.params))).map (fun p=>some p.2),(List.take 190 (List.drop 190 (List.drop 190 (K w.params)))).map (fun p=>some p.2),(List.drop 190 (List.drop 190 (List.drop 190 (K w.params)))).map (fun p=>some p.2),ts.map (fun _=>some (PySem.W.tabObj #[])))):PySem.W.InK K w s.heap/\∀P∈ts,s.heap.get? P=some (PySem.W.tabObj #[]):=by
 simp only[Prod.mk.injEq] at z
 exact ⟨.of e w s (Hk4.cut 190 z.1 (Hk4.cut 190 z.2.1 (Hk4.cut 190 z.2.2.1 z.2.2.2.1))),List.map_inj_left.mp z.2.2.2.2⟩
local macro_rules|`(tactic|refine $f:ident $a1 $a2 $a3 $a4 $y $v $yp $n $hl ($o:ident ($h:ident $k $a $p $ts)) $t*)=>`(tactic|refine' $f $a1 $a2 $a3 $a4 (Yf:=fun s=>((List.take 190 $a).map s.heap.get?,(List.take 190 (List.drop 190 $a)).map s.heap.get?,(List.take 190 (List.drop 190 (List.drop 190 $a))).map s.heap.get?,(List.drop 190 (List.drop 190 (List.drop 190 $a))).map s.heap.get?,($ts).map s.heap.get?)) (Ya:=fun w=>((List.take 190 ($k w.params)).map (fun p=>some p.2),(List.take 190 (List.drop 190 ($k w.params))).map (fun p=>some p.2),(List.take 190 (List.drop 190 (List.drop 190 ($k w.params)))).map (fun p=>some p.2),(List.drop 190 (List.drop 190 (List.drop 190 ($k w.params)))).map (fun p=>some p.2),($ts).map (fun _=>some (PySem.W.tabObj #[])))) $yp $n $hl (Hk4.of $p $ts) $t*)
set_option maxRecDepth 100000 in
set_option maxHeartbeats 0 in
theorem PySem.Challenge.cw_balepress_k30_whole_read_by_the_document_holds : PySem.Challenge.rw_balepress_k30_whole_read_by_the_document.Holds := by
 w_on;o_law;k_head;(case hw=>w_witness2)
 k_fill
 refine' K30.Ck.walk (l:=PySem.Challenge.rw_balepress_k30_whole_read_by_the_document) rfl rfl (λ w h Y=>⟨PySem.W.km_in_of Y,PySem.W.km_tabs_of Y _ List.mem_cons_self⟩) ?hKT ?F ?hC
 case hKT=>intro w;kernel_rfl
 case F=>
  intro w mg fa h KX G hmg
  refine' K30.Ck.hd (by kernel_rfl) KX G hmg ?a ?l ?c ?k ⟨?_,?_,?_,?_,?_,?_,?_,?_,?_,?_,?_,?_,?_,?_,?_,?_,?_,?_,?_,?_,?_,?_,?_,?_,?_,?_,?_,?_⟩ (λ R0=>⟨R0,?_,?_,?_⟩) (λ R1=>⟨R1,?_,?_,?_,?_⟩) (λ R2=>⟨R2,?_,?_,?_⟩) ⟨?_,?_,?_,?_⟩ (λ R1 R4=>⟨R1,R4,?_,?_,?_,?_,?_,?_,?_,?_⟩) (λ R0=>⟨R0,?_,?_,?_,?_,?_,?_,?_,?_⟩) (λ R0=>⟨R0,?_,?_,?_,?_⟩) (λ R0 R7=>⟨R0,R7,?_,?_⟩) (λ R8=>⟨R8⟩) (λ R3 R5 R6 R9=>⟨R3,R5,R6,R9,?_,?_,?_,?_,?_⟩) ⟨?_,?_,?_⟩ (λ R11=>⟨R11,?_,?_,?_⟩) ⟨?_,?_,?_⟩ (λ R13=>⟨R13,?_,?_,?_⟩) ⟨?_,?_,?_⟩ (λ R15=>⟨R15,?_,?_,?_⟩) ⟨?_,?_,?_⟩ (λ R17=>⟨R17,?_,?_,?_⟩) (λ R10 R12 R14 R16 R18=>⟨R10,?_,R12,R14,R16,R18,?_⟩) (λ R1=>⟨R1,?_,?_⟩) ⟨?_,?_,?_,?_⟩ (λ R20 R21=>⟨R20,R21,?_,?_,?_,?_,?_,?_,?_⟩) (λ R22=>⟨R22,?_,?_,?_,?_⟩) ⟨?_,?_,?_,?_,?_,?_,?_⟩ (λ R19 R23 R24=>⟨R19,R23,R24,?_,?_⟩) (λ R23=>⟨R23,?_,?_,?_,?_,?_,?_,?_,?_,?_,?_,?_,?_,?_,?_⟩) ⟨?_,?_,?_,?_,?_,?_,?_⟩ (λ R25 R26 R27=>⟨R25,R26,R27,?_,?_,?_,?_,?_,?_,?_,?_⟩) (λ R23 R24 R1=>⟨R23,R24,R1,?_,?_,?_,?_,?_⟩) (λ R29 R26=>⟨R29,R26,?_,?_,?_,?_,?_,?_,?_,?_,?_,?_,?_,?_⟩) ⟨?_,?_,?_⟩ (λ R1 R31=>⟨R1,R31,?_,?_,?_,?_,?_,?_,?_,?_,?_⟩) (λ R0=>⟨R0,?_,?_,?_,?_⟩) ⟨?_,?_,?_⟩ (λ R0 R7 R34=>⟨R0,R7,?_,?_,?_,R34⟩) (λ R32 R33 R35=>⟨R32,R33,?_,?_,?_,R35,?_,?_,?_,?_,?_⟩) (λ R36=>⟨R36,?_,?_,?_,?_⟩) (λ R29 R37=>⟨R29,R37,?_,?_,?_,?_,?_,?_,?_,?_⟩) (λ R0 R7=>⟨R0,R7,?_,?_⟩) (λ R39=>⟨R39⟩) (λ R3 R5 R6 R40=>⟨R3,R5,R6,R40,?_,?_,?_,?_,?_⟩) (λ R41 R12 R14 R16 R18=>⟨R41,?_,R12,R14,R16,R18,?_⟩) ⟨?_,?_,?_,?_,?_,?_⟩ (λ R30 R38 R42 R43=>⟨R30,R38,R42,R43,?_,?_,?_,?_,?_,?_,?_,?_⟩) ⟨?_,?_,?_,?_,?_,?_,?_⟩ (λ R0=>⟨R0,?_,?_,?_,?_,?_,?_,?_,?_⟩) (λ R28 R44 R45 R46=>⟨R28,R44,R45,R46,?_,?_,?_,?_,?_,?_,?_,?_,?_⟩)
  (case a=>k_is);(case l=>k_is);(case c=>k_is);(case k=>k_is)
  all_goals try (refine' mg_of KX G ?_;k_is)
  all_goals try (refine' PySem.W.mg_none_of KX G ?_;k_is)
  all_goals try (refine' K30.Ck.nI KX G ?a;case a=>k_is)
  all_goals try ((first|(refine' ⟨_,_,L2.fun_mk ?l ?c ?k,mg_of KX G ?a,.all ?b⟩;case a=>k_is)|(refine' ⟨_,_,L2.fun_mk ?l ?c ?k,⟨?a,?i,?k⟩,.all ?b⟩;(case a=>k_is);case i=>k_is));(case l=>k_is);(case c=>k_is);(case k=>k_is);(case b=>((repeat refine' K30.Ck.mS λ _=>?_);exact K30.Ck.m0 rfl)))
  all_goals try (refine' K30.Ck.inI ?l1 ?c1 ?k1 ?e1 (.all ?b1) ?m1 ?a1 ?i1 ?q1;(case a1=>k_is);(case l1=>k_is);(case c1=>k_is);(case k1=>k_is);(case m1=>k_is);(case i1=>k_is);(case q1=>k_is);(case e1=>rfl);(case b1=>((repeat refine' K30.Ck.mS λ _=>?_);exact K30.Ck.m0 rfl)))
  all_goals try ((first|refine' K30.Ck.fdI KX G ?a ?l ?c ?k ?b ?d|refine' K30.Ck.flI KX G ?a ?l ?c ?k ?b ?d|refine' K30.Ck.fkI KX G ?a ?l ?c ?k ?b ?d|refine' K30.Ck.fcI KX G ?a ?l ?c ?k ?b ?d);(case a=>k_is);(case l=>k_is);(case c=>k_is);(case k=>k_is);(case b=>refine' K30.Ck.b2 λ s _ _ hX=>binds_K hX ?x ?t ?y ?z ?w;(case x=>rfl);(case t=>k_is);(case y=>rfl);(case z=>rfl);case w=>rfl);(case d=>refine' K30.Ck.b1 λ s _ hX=>binds_K hX ?x ?t ?y ?z ?w;(case x=>rfl);(case t=>k_is);(case y=>rfl);(case z=>rfl);case w=>rfl))
  all_goals try (refine' K30.Ck.ciI ?l2 ?c2 ?k2 ?d2 ?m2 ?a2 ?i2 ?q2;(case a2=>k_is);(case l2=>k_is);(case c2=>k_is);(case k2=>k_is);(case m2=>k_is);(case i2=>k_is);(case q2=>k_is);(case d2=>refine' K30.Ck.b2 λ s _ _ hX=>binds_K hX ?x ?t ?y ?z ?w;(case x=>rfl);(case t=>k_is);(case y=>rfl);(case z=>rfl);case w=>rfl))
  all_goals try (refine' K30.Ck.cdI ?l3 ?c3 ?k3 ?d3 ?m3 ?a3 ?i3 ?q3;(case a3=>k_is);(case l3=>k_is);(case c3=>k_is);(case k3=>k_is);(case m3=>k_is);(case i3=>k_is);(case q3=>k_is);(case d3=>refine' K30.Ck.b1 λ s _ hX=>binds_K hX ?x ?t ?y ?z ?w;(case x=>rfl);(case t=>k_is);(case y=>rfl);(case z=>rfl);case w=>rfl))
  all_goals try (refine' K30.Ck.markI KX G ?a ?l;(case a=>k_is);case l=>k_is)
  all_goals try k_is
  all_goals try (refine' K30.Ck.tabI KX G ?a ?l ?s;(case a=>k_is);(case l=>k_is);case s=>rfl)
  all_goals try (first|refine' L2.Cls.mk ?_ ?_ ?_ ?_|refine' L2.MkB.mk ?_ ?_ ?_|refine' L2.ExI.mk ?_ ?_ ?_ ?_ ?_ ?_ ?_ ?_|unfold L2.NoAttr)
  all_goals try k_is
  all_goals try ((first|refine' K30.Ck.b2 λ s _ _ hX=>binds_K hX ?x ?t ?y ?z ?w|refine' K30.Ck.b1 λ s _ hX=>binds_K hX ?x ?t ?y ?z ?w);(case x=>rfl);(case t=>k_is);(case y=>rfl);(case z=>rfl);case w=>rfl)
  all_goals try ((repeat refine' K30.Ck.mS λ _=>?_);exact K30.Ck.m0 rfl)
  all_goals try unfold L2.ExC
  all_goals try kernel_rfl
  all_goals decide
 case hC=>intro w;kernel_rfl

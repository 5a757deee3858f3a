import PyProof.Rows.All
import KE.KFromBytes
import KE.KIsAll
import Wide.FinOn
import Open.Pieces
import OpenK.KLine
import PyProof.EqAt
import PyProof.EqKinds
import PyProof.TupleCall
import PyProof.Seq
import PyProof.RangeIter
import PyProof.TupleIter
import PyProof.Rows.TupIter
import PyProof.StationsW
import PyProof.ExcClass2
import PyProof.NeKinds
import PyProof.Rows.TupMore
import PyProof.AutoSeq1
import PyProof.ZipIter
import PyProof.StrWalks
import PyProof.StrBlock2
import PyProof.StrBlockI
import PyProof.StrLaws
import PyProof.SliceStr2
import PyProof.Rows.Range3
import PyProof.Rows.StrRev
import PyProof.ConsumeWalk
import PyProof.Rows.SortShellK
import PyProof.Rows.SortRev
import PyProof.SeqI3
import PyProof.Rows.SeqGen
import PyProof.Rows.SortRunsK
import KE.KEqDict
import KE.KLam
import KE.KMinKey
import KE.KNestM
import PyProof.ListRange
import Lean
import PySem.Challenge.RW_balepress_k33_whole_one_bit_told
noncomputable section
set_option bootstrap.genMatcherCode false
open PySem renaming Addr → LF, Value → LG, Shared → LH, Program → LI, World → LJ, FuncData → LK, Around → LL, Heap → LM, Expr → LN, Obj → LO, Stmt → LP
open PySem.W (mg_of instObj methodObj Frag lookIn InstAt plainGet hasDictIn findIn handedIn isFn plainOver takerIn makesIn typeIn InitBack emptyDict make_core Looks keepIn specialIn takesIn mroIn kitOne kitx_list kitx_dict fnOf codeIn codeRec_of excIn clsIn findObj KitX oi_run kitMeta CodeHd nsIn binds_K)
def Z9 {p:Prop}(h:p:=by decide):p:=h
def Z8 {p:Prop}(h:p:=by decide+kernel):p:=h
def Z7 {p:Prop}(h:p:=by rfl):p:=h
def Z6 {p:Prop}(h:p:=by simp):p:=h
def Z5 {p:Prop}(h:p:=by lia):p:=h
def Z4 {p:Prop}(h:p:=by omega):p:=h
def Z3 {p:Prop}(h:p:=by intro _;rfl):p:=h
def Z2 {p:Prop}(h:p:=by first|exact .inl rfl|exact .inr rfl|assumption):p:=h
def Z1 {p:Prop}(h:p:=by intro _ _ _ _ h;(repeat obtain⟨_,h⟩:=h)<;>subst_vars<;>rfl):p:=h
def ZU {p:Prop}(h:p:=by first|exact .inl rfl|exact .inr (.inl rfl)|exact .inr (.inr rfl)):p:=h
def ZT:=ZU._auto_1
def Z0:=Z7._auto_1
def ZZ:=Z9._auto_1
def ZY:=Z8._auto_1
def ZX:=Z3._auto_1
def ZW:=Z2._auto_1
def ZV:=Z1._auto_1
set_option Elab.async false
set_option linter.all false
set_option maxRecDepth 100000
abbrev Es:=@List.length_map
abbrev Et:=@List.length_append
abbrev Eu:=@List.append_assoc
abbrev Ev:=@PySem.wpAny_bind
abbrev Ew:=@Nat.le_trans
abbrev Ex:=@List.getElem?_eq_getElem
abbrev Ey:=@Nat.lt_of_lt_of_le
abbrev Ez:=@decide_eq_true
abbrev EA:=@of_decide_eq_true
abbrev EB:=@Nat.le_refl
abbrev EC:=@PySem.Heap.get?_push_of_some
abbrev ED:=@List.getElem?_eq_some_iff
abbrev EE:=@List.length_drop
abbrev EF:=@List.mem_cons_of_mem
abbrev EG:=@List.map_append
abbrev EH:=@List.length_take
abbrev EI:=@if_neg
abbrev EJ:=@Nat.lt_of_lt_of_eq
abbrev EK:=@List.length_cons
abbrev EL:=@Nat.le_of_eq
abbrev EM:=@PySem.wpAny_pure
abbrev EN:=@List.pairwise_append
abbrev EO:=@List.size_toArray
abbrev EQ:=@List.mem_append
abbrev ER:=@List.mem_cons_self
abbrev ES:=@List.mem_append_right
abbrev ET:=@List.mem_cons
abbrev EU:=@if_pos
abbrev EV:=@List.take_of_length_le
abbrev EW:=@List.mem_singleton
abbrev EX:=@Bool.false_ne_true
abbrev EY:=@Nat.le_add_right
abbrev EZ:=@Nat.le_of_lt
abbrev E1:=@PySem.Heap.lt_size
abbrev E2:=@List.filter_cons_of_pos
abbrev E3:=@List.getD_eq_getElem?_getD
abbrev E4:=@List.getElem?_append_right
abbrev E5:=@PySem.PassesOwn.never
abbrev E6:=@Int.toNat_natCast
abbrev E7:=@PyProof.Rows.wpS_pure
abbrev E8:=@Nat.zero_le
abbrev E9:=@List.take_append_drop
abbrev Fa:=@Nat.le_antisymm
abbrev Fb:=@Option.some.inj
abbrev Fc:=@List.filter_cons_of_neg
abbrev Fd:=@List.filter_append
abbrev Ff:=@List.length_replicate
abbrev Fg:=@List.mem_of_mem_take
abbrev Fh:=@Nat.lt_of_le_of_lt
abbrev Fj:=@PySem.Heap.get?_push_size
abbrev Fk:=@PySem.F.plainAttrs_list
abbrev Fl:=@Array.toList_append
abbrev Fm:=@Nat.lt_or_ge
abbrev Fp:=@Nat.min_eq_left
abbrev Fq:=@List.getElem?_map
abbrev Fs:=@List.getElem?_append_left
abbrev Ft:=@List.mem_of_mem_drop
abbrev Fu:=@List.getElem?_eq_none
abbrev Fv:=@beq_iff_eq
abbrev Fw:=@List.append_nil
abbrev Fx:=@List.mem_iff_getElem
abbrev Fy:=@List.take_length
abbrev Fz:=@Int.natCast_nonneg
abbrev FA:=@Nat.ne_of_lt
abbrev FD:=@Nat.add_assoc
abbrev FE:=@Nat.add_sub_of_le
abbrev FG:=@List.mem_of_getElem?
abbrev FJ:=@List.nil_append
abbrev FK:=@PySem.F.slot_list_append
abbrev FL:=@List.pairwise_iff_getElem
abbrev FM:=@Nat.lt_of_le_of_ne
abbrev FN:=@Array.length_toList
abbrev FO:=@PySem.mem_of_lookup
abbrev FQ:=@Nat.sub_succ_lt_self
abbrev FR:=@Nat.lt_of_succ_lt
abbrev FS:=@Nat.le_of_not_lt
abbrev FU:=@List.take_append_of_le_length
abbrev FV:=@PySem.F.type_list_append
abbrev FW:=@List.replicate_succ
abbrev FX:=@Nat.min_le_right
abbrev FY:=@Nat.add_le_add_right
abbrev FZ:=@List.map_cons
abbrev F1:=@List.take_add_one
abbrev F2:=@Nat.lt_of_succ_le
abbrev F3:=@Nat.le_add_right_of_le
abbrev F5:=@Nat.mul_comm
abbrev F6:=@Nat.zero_add
abbrev F7:=@decide_eq_false
abbrev F8:=@List.mem_append_left
abbrev F9:=@PySem.wpAny_mono
abbrev Ga:=@Nat.add_sub_cancel_left
abbrev Gb:=@List.drop_eq_getElem_cons
abbrev Gd:=@List.flatten_cons
abbrev Ge:=@Nat.min_le_left
abbrev Gf:=@PySem.wpAny_holding
abbrev Gg:=@PyProof.Rows.boot_list
abbrev Gh:=@PyProof.Rows.slot_tuple_getitem
abbrev Gi:=@Nat.le_of_lt_succ
abbrev Gj:=@List.getElem_mem
abbrev Gk:=@Nat.sub_lt_of_lt
abbrev Gm:=@Nat.pow_succ
abbrev Gn:=@Nat.mul_assoc
abbrev Gp:=@Nat.xor_lt_two_pow
abbrev Gq:=@List.length_eq_zero_iff
abbrev Gr:=@Nat.add_lt_of_lt_sub'
abbrev Gs:=@List.getElem?_set_self
abbrev Gu:=@List.drop_eq_nil_of_le
abbrev Gv:=@PySem.Heap.get?_update_other
abbrev Gw:=@PySem.wpAny_field
abbrev Gy:=@PyProof.Rows.callWith_type1
abbrev Gz:=@List.drop_drop
abbrev GD:=@PySem.wpAny_Call_Name_kw
abbrev GE:=@List.pairwise_cons
abbrev GG:=@List.map_map
abbrev GJ:=@Nat.mul_le_mul_left
abbrev GQ:=@Nat.lt_add_of_pos_right
abbrev GZ:=@Nat.sub_lt_sub_left
abbrev G1:=@List.drop_append_of_le_length
abbrev G2:=@List.ext_getElem?
abbrev G5:=@List.filter_eq_nil_iff
abbrev G6:=@List.map_take
abbrev G7:=@PySem.W.kia_one
abbrev G8:=@PyProof.Rows.wpS_forRange
abbrev G9:=@le_of_eq_of_le
abbrev Ha:=@Nat.min_eq_right
abbrev Hb:=@PySem.wpAny_callSpecial?_slot
abbrev Hc:=@List.getElem_take
abbrev Hd:=@Nat.pow_pos
abbrev He:=@Nat.pow_le_pow_right
abbrev Hf:=@List.reverse_reverse
abbrev Hg:=@Bool.false_eq_true
abbrev Hh:=@List.mem_map
abbrev Hi:=@PySem.F.plain_min_loop
abbrev Hj:=@Nat.lt_succ_self
abbrev Hk:=@PySem.Heap.get?_update_ne
abbrev Hl:=@Nat.lt_succ_of_le
abbrev Hm:=@List.drop_zero
abbrev Hn:=@Nat.add_le_add_iff_left
abbrev Hs:=@List.map_drop
abbrev Hu:=@List.mem_filter
abbrev Hv:=@List.length_set
abbrev Hx:=@List.cons.inj
abbrev Hy:=@PySem.F.slot_list_extend
abbrev HA:=@Nat.succ_pred_eq_of_ne_zero
abbrev HB:=@Nat.sub_one_lt_of_lt
abbrev HC:=@Nat.sub_le_sub_right
abbrev HD:=@Nat.le_sub_one_of_lt
abbrev HE:=@Array.toList_reverse
abbrev HF:=@Nat.mod_eq_of_lt
abbrev HG:=@PyProof.Rows.wpS_mono
abbrev HH:=@List.foldl_append
abbrev HI:=@Nat.pow_add
abbrev HJ:=@Nat.mod_lt
abbrev HK:=@Nat.le_of_succ_le
abbrev HL:=@Nat.le_succ
abbrev HM:=@Nat.lt_irrefl
abbrev HN:=@List.getElem_append_right
abbrev HP:=@Nat.add_zero
abbrev HQ:=@Nat.add_sub_self_left
abbrev HR:=@PySem.Heap.get?_update_self
abbrev HS:=@List.getElem_append_left
abbrev HU:=@PySem.F.type_list_extend
abbrev HV:=@Nat.succ_le_succ
abbrev HW:=@List.cons_append
abbrev HX:=@List.count_eq_zero_of_not_mem
abbrev HY:=@List.getElem?_set_ne
abbrev HZ:=@Nat.exists_eq_add_of_le
abbrev Ib:=@PyProof.Rows.boot_isinstance
abbrev Ic:=@PySem.wpAny_newObj_type
abbrev Ie:=@List.length_range
abbrev Ig:=@PySem.wpAny_truthy_bool
abbrev Ih:=@List.getElem_drop
abbrev Ii:=@Nat.add_lt_add_left
abbrev Ij:=@List.sum_append
abbrev Ik:=@Eq.symm
abbrev Il:=@List.reverse_append
abbrev Im:=@Array.getElem?_eq_some_iff
abbrev Io:=@PySem.wpAny_call_entry
abbrev Iq:=@Nat.sub_le
abbrev Ir:=@List.length_singleton
abbrev Iu:=@Int.ofNat_sub
abbrev Iv:=@Int.ofNat_lt
abbrev Iw:=@Nat.add_comm
abbrev Ix:=@List.getElem?_drop
abbrev Iy:=@Nat.ne_of_gt
abbrev Iz:=@Nat.eq_zero_or_pos
abbrev IA:=@PySem.W.callWith_K
abbrev IB:=@PySem.W.methodCall_KW
abbrev IC:=@PySem.Obj.data_mapFields
abbrev ID:=@Nat.eq_sub_of_add_eq'
abbrev IE:=@List.take_zero
abbrev IF:=@Nat.add_le_add
abbrev IG:=@Ne.symm
abbrev IH:=@PySem.sizeLine_eq
abbrev II:=@PySem.wpAny_setField
abbrev IJ:=@Nat.div_lt_of_lt_mul
abbrev IK:=@List.take_sublist
abbrev IL:=@List.count_append
abbrev IM:=@PySem.wpAny_rule
abbrev IN:=@Int.neg_ofNat_le_natCast
abbrev IP:=@Nat.sub_pos_of_lt
abbrev IQ:=@Option.map_some
abbrev IR:=@PySem.wpAny_passesOwn
abbrev IS:=@Nat.and_two_pow_sub_one_eq_mod
abbrev IT:=@Nat.sub_zero
abbrev IU:=@Nat.sub_self
abbrev IV:=@Nat.add_mul
abbrev IW:=@List.getElem?_replicate
abbrev IX:=@Nat.mul_add
abbrev IY:=@mg_of
abbrev IZ:=@PySem.wpAny_attempt
abbrev Ja:=@beq_eq_false_iff_ne
abbrev Jb:=@PySem.W.callWith_K0
abbrev Jc:=@Nat.add_le_add_left
abbrev Jd:=@List.length_reverse
abbrev Je:=@Nat.lt_of_not_le
abbrev Jf:=@List.perm_middle
abbrev Jg:=@List.mem_reverse
abbrev Jh:=@PySem.boot_len
abbrev Ji:=@List.mem_range
abbrev Jj:=@Nat.eq_zero_of_not_pos
abbrev Jk:=@of_decide_eq_false
abbrev Jl:=@Nat.sub_eq_iff_eq_add
abbrev Jm:=@List.set_append_right
abbrev Jn:=@PySem.wpAny_execs_nil
abbrev Jo:=@Bool.eq_iff_iff
abbrev Jq:=@Nat.lt_trans
abbrev Jr:=@Array.getElem?_toList
abbrev Js:=@List.find?_cons
abbrev Jt:=@PySem.Obj.isFreed_of_fields
abbrev Ju:=@List.singleton_append
abbrev Jv:=@List.sum_cons
abbrev Jw:=@List.set_append_left
abbrev Jx:=@PySem.W.looks_findIn
abbrev Jy:=@List.perm_cons_erase
abbrev Jz:=@Nat.eq_sub_of_add_eq
abbrev JA:=@List.drop_left
abbrev JB:=@PySem.Heap.size_push
abbrev JC:=@PySem.wpAny_seqItems
abbrev JD:=@PySem.wpAny_tryCatch
abbrev JE:=@List.extract_eq_take_drop
abbrev JF:=@Bool.and_eq_true
abbrev JG:=@Int.lt_of_not_ge
abbrev JH:=@List.getElem?_range
abbrev JI:=@List.flatten_append
abbrev JJ:=@List.map_congr_left
abbrev JK:=@PySem.Heap.SameBut.update
abbrev JL:=@Array.size_setIfInBounds
abbrev JM:=@Nat.div_add_mod
abbrev JN:=@List.count_cons
abbrev JO:=@if_false
abbrev JP:=@Nat.xor_assoc
abbrev JQ:=@List.count_pos_iff
abbrev JS:=@Nat.pos_of_ne_zero
abbrev JT:=@List.length_nil
abbrev JU:=@List.of_mem_zip
abbrev JV:=@PyProof.Rows.listUpdate_at
abbrev JW:=@PyProof.Rows.get?_update_seq
abbrev JX:=@List.nodup_cons
abbrev JY:=@PySem.tupleKind_room_in1
abbrev JZ:=@PySem.codeAny_builtin
abbrev J3:=@PySem.slot_listiter_next
abbrev J4:=@Nat.testBit_eq_decide_div_mod_eq
abbrev J5:=@PyProof.Rows.bitAnd_pp
abbrev J6:=@PyProof.noPylong_small
abbrev J7:=@Nat.mod_eq_sub_mul_div
abbrev J8:=@PySem.W.cellsFrom_some
abbrev J9:=@PySem.F.entry_min_loop
abbrev Ka:=@Nat.lt_succ_of_lt
abbrev Kb:=@List.pairwise_map
abbrev Kc:=@PySem.wpAny_call
abbrev Kd:=@Nat.add_sub_assoc
abbrev Kf:=@Nat.lt_add_one
abbrev Kg:=@le_of_le_of_eq
abbrev Kh:=@PySem.codeAny_mono
abbrev Ki:=@Nat.le_add_left_of_le
abbrev Kj:=@PyProof.Rows.boot_min
abbrev Kk:=@Int.ofNat_add_one_out
abbrev Kl:=@List.length_filter_le
abbrev Km:=@Nat.succ_pos
abbrev Kn:=@Nat.lt_of_sub_eq_succ
abbrev Ko:=@List.mem_of_mem_erase
abbrev Kp:=@Nat.add_le_of_le_sub'
abbrev Kq:=@Nat.sub_eq_zero_of_le
abbrev Kr:=@Nat.div_eq_of_lt
abbrev Ks:=@List.exists_mem_of_length_pos
abbrev Kt:=@List.not_mem_nil
abbrev Ku:=@List.map_snd_zip
abbrev Kv:=@PySem.W.any_some
abbrev Kw:=@Nat.le_of_not_ge
abbrev Kx:=@PySem.wpAny_isInstance
abbrev Ky:=@PySem.Around.under_plainId
abbrev Kz:=@Array.toList_extract
abbrev KA:=@Nat.mul_add_div
abbrev KB:=@List.filter_map
abbrev KC:=@Int.natCast_pos
abbrev KD:=@List.take_left'
abbrev KF:=@List.mem_map_of_mem
abbrev KG:=@PySem.wpAny_letGo
abbrev KH:=@List.filterMap_cons
abbrev KI:=@PySem.W.plainGet_of
abbrev KJ:=@PySem.F.slot_enumerate_next
abbrev KL:=@Nat.sub_le_sub_left
abbrev KM:=@Nat.mod_mul_right_div_self
abbrev KN:=@Nat.mod_two_eq_zero_or_one
abbrev KO:=@Int.fdiv_eq_ediv_of_nonneg
abbrev KP:=@Array.toList_setIfInBounds
abbrev KQ:=@List.map_nil
abbrev KR:=@Nat.xor_comm
abbrev KS:=@List.getElem?_take
abbrev KU:=@Int.ofNat_le
abbrev KW:=@Nat.sub_add_cancel
abbrev KY:=@Nat.add_sub_cancel
abbrev KZ:=@List.map_inj_right
abbrev K0:=@PySem.Calls.spliced_cons
abbrev K1:=@Nat.sub_right_comm
abbrev K2:=@List.take_left
abbrev K3:=@Nat.sub_lt_left_of_lt_add
abbrev K4:=@Nat.not_lt
abbrev K5:=@PySem.Calls.spliced_nil
abbrev K6:=@Bool.not_eq_true'
abbrev K7:=@Option.isSome_map
abbrev K8:=@Nat.mul_left_comm
abbrev K9:=@Array.toList_push
abbrev Lb:=@List.drop_sublist
abbrev Lc:=@Int.ofNat_inj
abbrev Ld:=@List.take_add
abbrev Lf:=@List.perm_nil
abbrev Lg:=@List.filter_cons
abbrev Lh:=@Nat.shiftLeft_eq
abbrev Lj:=@List.drop_length
abbrev Lk:=@List.mem_flatMap
abbrev Ll:=@PySem.W.makes_of
abbrev Lm:=@Nat.sub_add_comm
abbrev Ln:=@Nat.lt_add_right
abbrev Lo:=@Nat.max_eq_right
abbrev Lp:=@Nat.xor_self
abbrev Lq:=@Nat.ToInt.of_le
abbrev Lr:=@List.map_const'
abbrev Ls:=@Nat.not_lt_zero
abbrev Lu:=@List.range_succ
abbrev Lv:=@Nat.le_total
abbrev Lw:=@Nat.le_add_left
abbrev Lx:=@Int.le_of_lt
abbrev Ly:=@List.take_take
abbrev Lz:=@Bool.false_and
abbrev LA:=@Nat.mul_div_le
abbrev LC:=@Int.one_mul
abbrev LD:=@Eq.trans
abbrev _root_.Jaa:List PySem.Str:=["self"]
abbrev _root_.Jab:List PySem.Str:=["thing","least","most"]
abbrev _root_.Jac:List PySem.Str:=["self","bits","text","before"]
abbrev _root_.Jad:List PySem.Str:=["self","reader","count","before"]
abbrev _root_.Jae:List PySem.Str:=["text","before"]
abbrev _root_.Jaf:List PySem.Str:=["lengths"]
abbrev _root_.Jag:List PySem.Str:=["thing"]
abbrev _root_.Jah:List PySem.Str:=["size"]
abbrev _root_.Jai:List PySem.Str:=["row","place","size"]
abbrev _root_.Jaj:List PySem.Str:=["self","row"]
abbrev _root_.Jak:List PySem.Str:=["counts","most"]
abbrev _root_.Jal:List PySem.Str:=["row"]
abbrev _root_.Jam:List PySem.Str:=["reader"]
abbrev _root_.Jan:List PySem.Str:=["signs","place","back","most"]
namespace L2
open PySem
inductive V where
 |non|bl (b:Bool)|int (i:Int)|str (x:Str)|byt (b:Array UInt8)|flt (b:UInt64)|ref (a:LF)|ty (n:String)
 deriving DecidableEq
end L2
namespace W16
open PySem
inductive Pc where
 |sg (s:Nat)
 |cp (b z:Nat)
 deriving DecidableEq
end W16
section
local macro_rules|`(mutual $c* end)=>do
 let A:=``Lean.Parser.Term.app
 let n a:=Lean.mkNullNode a
 let f (m:Lean.NameMap (Array Lean.Name×Lean.Syntax)) (s:Lean.Syntax):=s.rewriteBottomUp λ s=>
  let k:=s.getKind
  if s.isIdent then match m.find? s.getId with|some (#[],b)=>b|_=>s
  else if k==A then
   let a:=s[1].getArgs
   let (h,a):=match m.find? s[0].getId with
    |some (p,b)=>(b.rewriteBottomUp λ t=>if t.isIdent then ((p.zip a).toList.lookup t.getId).getD t else t,a.extract p.size a.size)
    |_=>(s[0],a)
   if a.isEmpty then h else if h.isOfKind A then .node .none A #[h[0],n (h[1].getArgs++a)] else .node .none A #[h,n a]
  else if k==``Lean.Parser.Tactic.show&&s[1].isOfKind ``Lean.Parser.Term.byTactic then .node .none ``Lean.Parser.Tactic.paren #[Lean.mkAtom "(",s[1][1],Lean.mkAtom ")"]
  else if k==``Lean.Parser.Command.universe then .node .none ``Lean.Parser.Command.end #[Lean.mkAtom "end",if s[1][0].getId==`s then n #[] else n #[s[1][0],n #[]]]
  else s
 let m:=((c[0]!.raw.find? (·.isOfKind ``Lean.Parser.Term.matchAlts)).getD .missing)[0].getArgs.foldl (init:={}) λ m t=>
  let p:=t[1][0][0]
  let b:=f m t[3]
  if p.isIdent then m.insert p.getId (#[],b) else m.insert p[0].getId (p[1].getArgs.map (·.getId),b)
 return n ((c.extract 1 c.size).map λ x=>f m x)
mutual
example:=λ
|Id=>List Nat
|Ι ζ η θ ι=>by obtain⟨_,_,ζ⟩:=η;obtain⟨_,_,θ⟩:=ι
|Υ ζ=>some (.lst ζ)
|Ty ζ=>(ζ:Int)
|SC ζ=>some (.ref ζ)
|xbi ζ η θ=>upd ζ η (.lst θ)
|IO=>some o
|xrP ζ η=>wpAny (model ζ η)
|Uf=>pv 0
|Os=>Array Keyed
|xck ζ=>⟨ζ,rfl⟩
|SL ζ=>some (vN ζ)
|xlA ζ η=>List (ζ×η)
|xuN ζ=>Inv ζ LQ
|LT=>List V
|Κ ζ=>(ζ).map vN
|xbM ζ η=>by obtain⟨ζ,rfl⟩:=η
|Ψ ζ η=>⟨ζ,η,?_⟩
|xcl ζ=>aa (pv ζ)
|xxT ζ=>ap (i:=ζ)
|SB=>hr.mono Z9
|xcL ζ η θ ι μ=>upd ζ η (.ins θ ι μ)
|xjP ζ η θ=>some (.ins ζ η θ)
|Μ ζ=>autoParam ζ Z0
|xAL ζ η=>{cls:=.type ζ,data:=η}
|Ο ζ=>ζ->Prop
|P3 ζ η θ=>i' ζ η (aj θ)
|xaQ ζ η θ=>ac (xxT ζ η θ)
|xH9=>Option LG
|xfS ζ=>starEach ζ X.env
|xfT ζ η=>ar (λ _ ζ=>η)
|NE ζ η=>ζ=some η
|xc2 ζ=>ζ≤sizeLine
|xrQ ζ=>xuN ζ σ
|Tm=>.ref a
|xnj=>λ _ _=>rfl
|xnk=>λ _ _=>False
|xax=>.ref l
|Φ ζ=>.inl (K'.of ζ)
|xIa ζ η=>NE (X.env.cells.lookup ζ) η
|xcm ζ=>(ζ:Str)
|ρ ζ η θ=>by rw [ζ] at η;cases θ
|xiv ζ=>eval ζ X.env
|xbU ζ=>af (aw ζ)
|xfe ζ η θ=>y' ζ η θ mg base
|SZ=>pv 1
|xaZ ζ=>by refine wpS_bind ζ
|xnl=>Μ ((backTo pos (starEach es X.env)).any (·.1)=false)
|PP ζ η=>λ ζ η=>?_
|xbD ζ η θ ι=>by obtain⟨ζ,η⟩:=θ;refine ι
|xlB ζ=>(List.range ζ).map
|xbe ζ=>aa ζ ag
|xaG=>s.heap.get? b
|xd9 ζ η=>⟨ζ,rfl,η⟩
|Tl=>EB _
|xad=>.ref p
|xc3 ζ η=>NE ζ (.tup η)
|xjQ ζ η=>putF ζ (.ref η)
|xiw=>xrQ X
|On=>L7 Z8
|xas ζ η θ=>by generalize ζ=η at*;refine θ
|xhs ζ η=>.frz ζ (.own η)
|xbE ζ η θ ι=>by obtain⟨ζ,η⟩:=θ;exact ι
|xc4 ζ=>L.getD ζ 0
|xLq=>sIx items.size
|xAM ζ η=>((ζ).drop η).take
|xjR ζ η=>(List.replicate ζ η).flatten
|xbw ζ η θ=>NE ζ[η]? θ
|Pi ζ=>ζ=true
|xaM ζ=>aE (top ζ)
|xea ζ η=>NE (h'.get? ζ) η
|xcM=>ts.map V.ref
|Α=>az Uf rfl
|Γ=>.ref C
|XV=>pv 2
|xaN ζ η=>(ζ++η).length
|xcN=>ord κ
|xdr ζ=>λ ζ=>?_
|xlC ζ η=>ai (ae ζ η)
|xpy=>seqObj "list"
|xbF=>.inl rfl
|xIb ζ η=>NE (X.env.scope.names.lookup ζ) η
|xbN=>.ref f
|xay ζ η θ ι μ=>by obtain⟨ζ,η,θ⟩:=ι;exact μ
|xae=>List Str
|xrR ζ η θ ι=>xiw ζ {η with heap:=θ,toks:=ι}
|xdO ζ η=>NE (h.get? ζ) η
|xcn ζ η θ=>upd ζ η (.tup θ)
|xaH=>List Bool
|xix ζ η θ=>by(rcases ET.mp ζ with η|θ)
|xnm=>T.map vN
|xrS ζ η=>NE (scope.names.lookup ζ) η
|xlD=>xiw H
|xuO ζ=>Binds ζ fd
|xbV ζ=>Ψ _ ζ
|xeH ζ=>xcl ζ ag
|xab ζ η=>by exact absurd ζ η
|xxU ζ η=>xAL ζ (.fields η)
|xeb ζ η=>(ae ζ η).symm
|xa0 ζ η θ ι μ=>by obtain⟨ζ,η,θ⟩:=ι;refine μ
|xAN=>xrP X.prog X.w
|Ζ ζ η θ=>Fn K mg ζ η θ f fd
|xuP ζ=>autoParam ζ ZZ
|xan=>pv 4
|xlE ζ=>{s with heap:=ζ}
|xec ζ η=>putF ζ (vN η)
|xbp=>Mr κ
|τ ζ=>ζ=false
|xIc ζ=>am (o:=ζ)
|xaR ζ=>xIc (.lst ζ)
|Ω=>List LF
|xb8=>λ _=>?_
|xc5 ζ η θ ι μ=>xaQ ζ η θ (ac ι μ)
|xco=>C' H
|xbq ζ=>.int ζ t
|xdP=>s1.trans s2
|xff=>B.map vN
|xcO ζ η=>(ζ).lookup (xcm η)
|UV=>xco H'
|xbf ζ=>Q ζ H'
|xaf ζ=>Υ (Κ ζ)
|xed ζ η=>λ ζ=>decide η
|xAO ζ=>ζ≠X.env.locals
|xbW ζ=>⟨ζ,?_⟩
|xnn ζ η=>ar (PP ζ η)
|xa1 ζ=>⟨_,ζ⟩
|xdQ=>xcm "__debug__"
|Η ζ=>xfe P w K LZ ζ f fd
|Ps=>xlD s
|Δ ζ=>ζ.2.1
|xiy=>xcm "whole_bytes"
|xds ζ η θ ι=>∀ζ∈η,θ<ι
|xno ζ η θ=>xds ζ η θ 256
|xdt ζ η θ=>by obtain⟨ζ,η,rfl⟩:=θ
|xiz=>kf κ
|xId ζ=>(s.heap.push ζ).push
|xrT=>Ο Hp
|xee ζ η=>⟨ζ,η,rfl⟩
|xc6 ζ η=>aa ζ (xbe η)
|xfg ζ η=>NE (s.heap.get? ζ) η
|xpz=>.builtin "object.__class__"
|xrU ζ η θ ι μ=>by obtain⟨ζ,η,θ,ι,μ⟩:=z9
|xal=>PE X
|xD9 ζ η=>.Call (.Name ζ η)
|Wp=>xlA LF LO
|xeI=>ns.map V.int
|xgI ζ η=>aq ζ η ak
|xc7 ζ η θ ι μ=>thn ζ (λ η θ ι=>μ)
|M2 ζ=>Ty (ζ:Nat)
|xfh ζ η=>NE (H ζ) η
|xbX ζ=>(ED.mp ζ).1
|xag=>EU rfl
|xb9=>Option Int
|xaB=>List Bd
|xcP=>Value.ref a
|xjS=>congrArg List.length
|xnp ζ η θ=>λ ζ=>absurd η θ
|xjT=>W13.puts It
|xnq ζ η θ=>(ζ.2 η θ).trans
|xEa ζ=>L.map (sgl ζ)
|xaI=>List LG
|xfi=>SG.kf SG.kInt
|xiA=>X.s₀.heap.get? b
|xgJ=>upd X.H₀
|xjU=>xAN X.A
|xaz=>pv 3
|xpA=>xbf .non
|xeJ ζ η=>xjP ζ dx η
|xbG ζ η θ=>xbi ζ η (Κ θ)
|xIe ζ=>xxU "list_iterator" ζ
|xbg ζ η=>(ζ).length≤η
|xrV=>kv.toArray.zip its.toArray
|xpB ζ η=>Pi (keepIn ζ η)
|xfU ζ=>P.length+ζ
|Ν ζ η=>xbw ζ i η
|WF ζ η θ=>by rw [ζ] at η;exact θ
|xiB=>R.map vN
|xAP ζ=>(pendingOf ζ).size
|xjV ζ η θ ι=>by rw [ζ,η] at θ;cases ι
|xcw ζ η θ ι=>F9 ζ η (λ _ _ θ=>ι)
|xpC=>arrOf sq0
|Β=>g1 _ _ ?_
|xjW ζ η=>xjU ζ η X.xe
|xlF=>S.map vN
|xgK=>B.take 3
|xah ζ=>J' ζ _
|xef ζ η θ=>⟨ζ,η,rfl,θ⟩
|xfj ζ η θ=>⟨_,ζ,η,θ⟩
|xjX ζ=>by exact False.elim ζ
|xpD=>L.map vN
|xEb ζ=>(s.heap.push ζ).objs.size
|xdR ζ=>some (.int ζ)
|xdS ζ=>(ai ζ).trans
|xLr=>HT.sIx xs.length
|xlG=>W.map vN
|xEc ζ=>.str (Str.ofString ζ)
|xbO ζ η θ=>by(rcases EQ.mp ζ with η|θ)
|xxV ζ η θ=>by obtain⟨_,_,ζ⟩:=η;refine θ
|xrW ζ=>aN (i:=ζ)
|xAQ=>NoAttr K
|xaA ζ η θ=>show ζ=η from θ
|xIf ζ=>aF (j:=ζ)
|xgL ζ η=>xbV (ac ζ η)
|xlH=>.int 0
|xa2 ζ η=>decide (ζ=η)
|xpE=>.ref s.heap.objs.size
|xAR ζ η=>NE (K.lookup ζ) η
|xjY ζ=>["self",ζ]
|xjZ=>aj st
|xcx ζ=>xfT g1 ζ
|xbj=>xbe Uf
|xca=>Option V
|xbk=>.ref x
|xEd ζ=>T.length≤ζ
|xuQ ζ η θ ι=>by obtain⟨its,ζ,η,θ⟩:=ι
|xcb=>s1 _ _
|xj0=>xck rfl
|xnr=>.ref it
|xuR ζ=>xlA Str ζ
|xAS=>.builtin "getset_descriptor.__get__"
|xuS ζ=>ζ≤xs.length
|LE ζ η=>by rw [ζ];exact η
|Re ζ η=>by show LE (ai ζ) η
|xiC ζ η θ=>by show LE (xlC ζ η) θ
|xfV ζ=>LW ζ Rb.length
|xaJ ζ η=>(ζ).length=η
|xfW ζ η θ ι=>Mm ζ "__init__" η θ ι fd
|xns=>Str.ofString "key"
|xcy=>cdAt L
|xc8 ζ η θ ι=>⟨ζ,η,rfl,θ,ι⟩
|xrX ζ=>X.s₀.heap.objs.size≤ζ
|xnt=>K w.params
|xa7 ζ η θ ι μ=>xc5 ζ η θ ι (xbU μ)
|xcz ζ η=>.inr ⟨ζ,η⟩
|xIg ζ=>Obj.mapSeq (λ _=>ζ)
|xj1 ζ=>⟨Z9,ζ⟩
|xbH=>List α
|xiD=>Option Nat
|xac=>E8 _
|xaS=>xlA Nat Nat
|xnu=>xs.toList.drop i
|xuT=>aM X.len
|xj2 ζ η θ ι=>NE (findIn ζ η θ) ι
|UF ζ η θ=>∃f fd,Ζ ζ η θ
|xeg ζ η=>aU (xdr ζ) (xdr η)
|xfk=>List Keyed
|xfX=>le_trans xcN
|xfY=>xcm "blocks"
|xfZ=>xcm "course"
|xrY ζ η θ ι=>by generalize ζ=η at*;generalize θ=ι at*
|xlI=>I.hok.fresh Tl
|xeh=>bt R
|xeK ζ η θ=>ax ζ η θ (ay _)
|xdT ζ η θ ι μ=>by obtain⟨ζ,η,rfl,θ,ι⟩:=μ
|xuU=>aS st
|xuV ζ η θ=>cutV ζ η (some θ)
|xiE ζ η θ ι=>by obtain⟨_,_,ζ⟩:=η;have θ:=ι
|xao=>xbf xax
|xEe ζ=>List.replicate ζ none
|xj3 ζ=>(B.take ζ).drop
|xf0 ζ η=>by intro ζ;cases η
|xlJ=>xcm "many_signs"
|xcA=>tots ps
|xpF=>Fv.mp z
|xgM=>P'.take i
|xuW ζ=>xAL "list" ζ
|xuX ζ=>Q (.bl ζ)
|xcB ζ η=>xbi ζ l η
|xlK ζ η=>by refine ζ;clear η
|xa8 ζ=>by show xlK ζ g1
|xfl ζ=>by show xa8 (xcx ζ)
|xbP ζ η=>xcl ζ (xeH η)
|xEf=>.seq its.toArray
|xcp ζ=>c≠ζ
|xeL ζ η θ ι μ=>by show xbD ζ η θ (F.F.ok ι μ)
|Sc ζ η θ=>λ ζ η θ=>?_
|xc9 ζ=>aI Uf ζ rfl
|xuY ζ η=>show Pi ζ from η
|xei ζ=>xbV (xbU ζ)
|xaO ζ η θ=>aC (v:=.int ζ) Z7 η (xck θ)
|xai=>Ty n
|xdU=>upd H
|xaa ζ=>by refine Ev ζ
|TD ζ η=>by refine ζ;refine η
|xdu ζ η=>by show xaa ζ;show xaa η
|xcc ζ η θ=>by show TD ζ η;refine θ
|xcq=>s.heap.objs.size+1
|xfm ζ=>L.length≤ζ
|xrZ ζ η=>NE (sc.names.lookup ζ) η
|xbx ζ η θ ι=>by subst ζ;show ρ η θ ι
|xxW ζ=>xIf ζ rfl
|Θ=>8*R.length
|xgN=>L9.refl _
|xdv ζ=>xno b ζ b
|xht ζ=>ζ<L.length
|xa9 ζ=>xd9 _ ζ
|xpG ζ η θ=>by obtain⟨ζ,rfl,η⟩:=θ
|xhu=>X.take n
|xfn ζ η θ=>NE ((ζ).get? η) θ
|xAT ζ=>ζ<sizeLine
|xgO=>xAT ys.length
|xxX=>Nat.sub_eq_zero_iff_le.1
|xbY=>most S p
|xxY=>fP co
|xgP ζ η θ=>xc7 ζ η θ z9 ?_
|xpH ζ η=>NE (s'.heap.get? ζ) η
|xda ζ η θ=>if ζ then _ else η::θ
|xfo ζ η θ ι μ=>by refine ζ;obtain⟨η,θ,ι⟩:=μ
|xaK ζ=>aD ζ hr
|xuZ ζ=>fO ζ S.length
|xfp=>Ο SortSt
|xdV=>some v
|xpI ζ η θ ι=>aH (xeK ζ η θ) (af ι)
|xr0 ζ=>Vals ζ us
|xak=>p.1
|xeM ζ=>ζ<xs.length
|xa3 ζ η θ ι=>by(rcases Fm ζ η with θ|ι)
|xu0=>K33.C.bt R
|xcC ζ=>⟨rfl,ζ⟩
|xf1 ζ η θ=>by show xbM ζ η;exact θ
|xf2=>λ _=>rfl
|xdW ζ=>occ ζ p
|xj4 ζ η θ=>by obtain⟨_,_,FI,ζ,η⟩:=θ
|xej=>‹_›
|xxZ=>aM T.len
|xEg=>L9 blt
|xeN ζ η=>ac ζ (af η)
|xat=>kp _ _
|xbZ ζ η θ=>if Pi ζ then η else θ
|xu1 ζ=>Heap.ExtBut ζ s.heap
|xfq ζ=>xs.length-ζ
|xf3 ζ=>ζ≤B.length
|xpJ ζ=>List.replicate ζ a
|xEh ζ=>A'.length+ζ
|xhv=>xEh M.length
|xgQ ζ=>Ty (ζ).length
|xcQ ζ=>xaR (Κ ζ)
|xu2 ζ=>tots (puts ζ)
|xb0 ζ=>ζ≤1000
|xu3=>.type "ValueError"
|W1 ζ=>ζ=none
|υ ζ=>W1 (H ζ)
|Ξ=>υ l
|xAU ζ=>λ _ _ _ _ _ _ _ q=>ζ
|xu4=>eqv blt
|xj5 ζ=>NE ζ true
|xek=>I.tok _
|xAV=>.builtin "object.__init__"
|xj6=>Me K
|xAW=>Int.ofNat_lt.2
|xhw ζ=>Η ζ Jaa
|Ε=>by show xf0 z z
|XL=>H a
|xeO=>List Env
|xu5=>standAt apos.atName
|xr1 ζ η=>P3 ζ Jaa η
|xel ζ η=>by show xix ζ rfl η
|xhx ζ=>xa1 (K'.of ζ)
|xIh ζ=>.inl (xa9 ζ)
|xbr=>xcb e
|xlL=>xcm "waiting"
|xf4 ζ η θ=>by show xdt ζ η (Fx.mp θ)
|xcD=>.int i
|xaC ζ η=>by rw [<-ζ];exact η
|xLs=>I.base.free b
|xIi=>Nat.not_lt.1
|xIj ζ=>W.length≤ζ
|xb1=>aq aK
|xcr=>pv 5
|xbs=>Fn K mg
|xdb=>xeH 1
|xEi ζ η=>wpAny _ ζ η _ _
|xby ζ η θ ι=>⟨ζ,η,θ,rfl,ι⟩
|xnv ζ=>(EQ.mp ζ).elim
|xf5 ζ=>ζ≤S.length
|xgR ζ=>ζ≤L.length
|xdw ζ=>xuP (τ ζ)
|xLt=>((s.heap.push (seqObj "list" #[] 0)).update s.heap.objs.size (Obj.mapSeq (·++its.toArray))).push
|xr2 ζ=>(Qs.take ζ).count
|xlM=>chk 16 45
|xaj=>xcp p
|xpK=>W1 X.A.handled
|xdX ζ=>ζ<S.length
|xlN ζ=>(ζ).Pairwise xbp
|xIk ζ=>Walk ζ W.length
|xlO=>X.env.qual++"<lambda>"
|xcR ζ η=>by show TD (xbV ζ) η
|xj7 ζ η=>(tr ζ η).trans
|xEj=>KK κ
|xeP=>pairs B
|xr3 ζ=>xjQ "signs_check" ζ
|xb2 ζ=>xeJ C ζ
|xlP ζ η=>W1 ((ζ).lookup η)
|xr4 ζ η=>dX ζ (.builtin η)
|xu6 ζ=>ζ=ps.length
|xam=>s5 _ _
|xgS=>cn Q
|xcS=>E1 e
|xu7 ζ=>ζ≠s.heap.objs.size
|xu8 ζ=>s.heap.objs.size≤ζ
|xhy=>Option LF
|xx0 ζ=>X.length-ζ
|xpL ζ η θ=>by obtain⟨_,_,_,ζ⟩:=η;exact θ
|xlQ=>K.In s.heap
|xem ζ η θ ι=>λ ζ η=>absurd θ ι
|xen=>List Pc
|xu9=>mk3.take B.length
|xeo=>List Id
|xfr=>.ref t
|xnw=>xc2 xs.length
|xIl=>xlB C.length
|xf6=>.ref e
|xcd ζ η=>xaA ζ η rfl
|xnx=>xu6 vs.length
|xr5 ζ=>(L.take ζ).count
|xdx ζ=>⟨dx,ζ⟩
|xj8 ζ η θ=>Pi (codeIn ζ η θ)
|xhz ζ=>xIc (.tup ζ)
|xx1 ζ=>.int (kf ζ)
|xr6 ζ=>call (.builtin ζ)
|xx2 ζ=>(List.range ζ).filter
|xpM=>congrArg some
|xap=>H' l
|xj9=>["before"]
|xcT=>kf x
|xka=>none_of s0
|xkb=>none_of s1
|xkc=>G.map vN
|xpN=>Y.map vN
|xhA=>xbW rfl
|xr7 ζ=>T.take (64*ζ)
|Χ ζ η θ=>Mm K ζ η θ f fd
|xva ζ η θ ι=>holding ζ (getMethod η θ ι)
|xgT=>aY ag
|xiF ζ η θ=>(ζ).map (λ η=>θ)
|xeQ=>xlE h'
|xIm ζ η=>JK ζ η (Obj.mapFields (·.setIfInBounds 0 Value.none))
|xr8=>.bool true
|xaT ζ=>by exact .inl ζ
|xaY ζ η=>∀b∈ζ,η
|xbI ζ=>ζ.2.2
|xny ζ=>Δ (xbI ζ)
|xeR=>EM ?_
|xkd ζ=>bp (C:=ζ)
|xlR ζ=>(ζ,.local)
|xbt=>xnn R1 g1
|xAX=>.type "BaseException"
|xx3 ζ η=>(xs.extract ζ η).toList
|xvb=>C9.cdAt L
|xx4 ζ η θ ι=>by obtain⟨_,ζ⟩:=η;obtain⟨_,θ⟩:=ι
|xcU=>Ty 0
|xiG=>h'.get? b
|xAY=>run a
|xr9=>xEj xs
|xgU ζ=>⟨ζ,[]⟩
|xnz ζ=>bO (bo ζ)
|xke ζ=>Pi (ζ).isSome
|xdY=>xEa wt
|xeS=>xj1 Z9
|xkf ζ=>xEi X.A.in1 ζ
|xx5 ζ=>W1 (H' ζ)
|xvc ζ=>tots (pP ζ)
|xiH ζ=>.ref (os ζ)
|xeT ζ=>xno x ζ x
|xfs=>xbe ak
|xnA ζ=>W1 (X.mg ζ)
|xeU ζ η=>by have:ζ:=η;subst this
|xiI ζ η=>by show LE (EW.mp ζ) η
|xhB ζ η θ ι=>by refine ζ;obtain⟨η,θ⟩:=ι
|xcV ζ η=>xc3 (H ζ) η
|xhC=>EC _
|xhD ζ=>(false,xiv ζ)
|xx6=>R.take i
|xhE=>.dT []
|xaD ζ η θ ι=>by have ζ:=η;rw [θ] at ι
|xnB ζ=>B.length-ζ
|xgV ζ=>ζ<X.length
|xvd ζ=>ζ<s.heap.objs.size
|xdc ζ=>xr1 Jaa ζ
|xnC ζ=>κ.blt (xr9 ζ)
|xkg=>EF _
|xaL=>H' c
|xhF=>Ou κ
|xlS=>Y.drop pl
|xAZ ζ η=>aL (Fv.mpr ζ) (E7 η)
|xA0 ζ η θ=>xj5 (mroIn ζ η θ)
|xbJ=>EA h
|ω ζ=>1≤ζ
|xsa=>tail.drop m
|xdd ζ η=>xgP ζ η s1
|xlT ζ=>(xr7 ζ).drop
|xkh ζ η θ=>⟨ζ,rfl,rfl,η,rfl,θ⟩
|xa4=>xck _
|xiJ=>Le blt kf
|xx7=>b.toList.drop ib
|xIn ζ=>xec "blocks" ζ
|xft ζ η=>decide (ζ<η)
|xpO ζ=>autoParam ζ ZX
|xsb ζ η θ ι=>codeAny ζ η (.call θ ι)
|xlU ζ=>.cons ζ .nil
|xlV ζ=>EJ ζ e1.symm
|xEk=>SM.L9 SG.kInt.blt
|xce=>Υ xnm
|xve ζ=>xxU "range" ζ
|xlW ζ=>M2 (ζ).length
|xnD ζ η θ=>by have:=ζ;show WF η this θ
|xki ζ=>xEi _ ζ
|xaU ζ η=>⟨_,ζ,η⟩
|xnE ζ=>by show ζ;decide
|xdy ζ=>by show xnE (xc2 ζ)
|xiK=>.dT LY
|xiL=>h.get? b
|xLu=>wpS (model prog w)
|xnF=>ai OP.symm
|xA1 ζ η=>(Oq.heap.update ζ η).get?
|xeV ζ=>K' ζ H
|xx8=>I1.hok.fresh Tl
|xf7=>M2 i
|xgW ζ=>W1 (H1 ζ)
|xfu=>xAY L
|xnG=>.fields vs
|xsc ζ=>.seq (ζ).toArray
|xvf=>I.base.there b
|xEl=>Builtin.Tuple.tupleExact _
|xvg=>pcAt S
|xEm=>pf false
|xA2=>OG κ
|xsd ζ=>W13.MP ζ It
|xnH=>["number"]
|xdz=>nb A'
|xaV=>[xad]
|xf8=>xEg kf
|xcE ζ=>by show xnE (ζ<1000)
|xpP=>L.drop xfu
|xaW=>Mq _ _
|xcF ζ η θ ι μ=>by have ζ:η:=θ;generalize ι=μ at*
|xb3=>2*L.length
|xf9 ζ=>I.hok ζ _
|xgX ζ η θ ι=>by obtain⟨ζ,η,θ,ι⟩:=h
|xse=>False.elim z
|xA3=>λ _=>none
|xlX=>hr.hd Z9
|xnI ζ=>tots (pcP ζ)
|xvh=>pendingOf sq0
|xx9 ζ=>ζ+As.flatten.length
|xsf=>List W13.Itm
|xya ζ=>(ζ,.globalImplicit)
|xvi ζ=>(L.drop ζ).take
|xvj=>.type "list"
|xlY=>Pi X.calm
|xyb=>xcm "signs_check"
|xEn ζ η=>Builtin.Range.rangeSize ζ (M2 η)
|xeW=>xeH 2
|xiM ζ=>two (xlM ζ)
|xlZ ζ=>At κ ζ pe
|xsg ζ=>ζ="signs_check"
|xsh=>["thing","most"]
|xEo=>Nat.lt_sub_iff_add_lt'.2
|xsi ζ η=>L.filter (xed ζ η)
|xa5=>q.1
|xde=>H' b
|xA4=>base.Ns mainGlobals
|xl0 ζ=>tots (pR ζ)
|xsj ζ η θ ι=>by obtain⟨⟨ζ,η⟩,hC,θ⟩:=ι
|xyc ζ η=>NE (bootBuiltins ζ) η
|xeX ζ η θ ι=>xaQ ζ η θ (af ι)
|xgY ζ η=>by unfold ζ;show xaa η
|xgZ ζ=>W1 (mg ζ)
|xbl=>q.2
|xvk=>["before","most"]
|xl1=>xrP prog w A
|xpQ ζ=>ζ==sysModules
|xvl ζ=>J' ζ X.A
|xcs ζ=>aD ζ Md
|xLv=>xaR ((Z'.map (λ z:LF×Bd=>(((z.2.1:Nat):Int),V.ref z.1))).map (·.2))
|xg0 ζ η θ ι=>xby (.bl ζ) η θ ι
|xfv ζ=>xaY fp ζ
|xLw ζ=>h1.push (seqObj "tuple" its.toArray ζ)
|xsk ζ=>S.length+ζ
|xl2 ζ=>ζ="finished"
|xkj=>Array LG
|xvm=>I.base.keep b
|xkk=>List Int
|xsl=>kv.zip its
|xkl=>List Itm
|xnJ ζ η=>(cZ ζ η).symm
|π=>Str->xH9
|xsm ζ=>by show xaZ ζ;dsimp only
|xhG ζ η=>decide (ζ≤η)
|xba=>xah 1
|xnK ζ=>ζ="rest_size"
|xyd=>Loc X.env.scope
|xsn ζ=>autoParam ζ ZW
|xye=>AllBare s'.gens
|xA5=>D.nx σ
|xvn ζ η=>((ζ).take η).count
|xyf ζ=>nsIn ζ mainGlobals
|xpR=>xcm "rest"
|xEp=>s.heap.push emptyDict
|xfw ζ=>ζ->Ο LH
|Ρ=>xfw LG
|xso=>xjY "size"
|xeY ζ η θ=>⟨ζ,PP η θ⟩
|xsp ζ=>(ζ).Pairwise xiJ
|xnL=>by simpa using this
|xA6=>List.mem_append.1
|xnM ζ η θ ι=>by obtain⟨ζ,η⟩:=θ;cases ι
|xcG=>M2 n
|xpS=>(xpC).toList
|xvo ζ=>W1 (failedOf ζ)
|χ=>H c
|xpT ζ=>aR bj ζ ak xnj
|xbQ=>s2 _ _
|xA7 ζ=>Heap.SameBut ζ s.heap
|xhH ζ=>Ew (EL ζ)
|xyg ζ=>BP.val (C.take ζ)
|xyh ζ=>(ns.drop ζ).take
|xdf=>Υ ys
|xdg=>Υ xs
|xsq=>xuR NameKind
|xa6 ζ=>(xdv ζ)
|xnN ζ=>B.length≤ζ
|xvp ζ η=>(ζ,V.ref η)
|xdh ζ η θ ι=>xda ζ (xvp η θ) ι
|xA8 ζ=>some (.builtin ζ)
|xA9=>xxY wt bg
|xhI=>xA9 fn
|xEq ζ=>ζ==Value.none
|xvq ζ=>xEq (Value.ref ζ)
|xpU ζ η=>λ _ ζ=>nomatch η
|xpV ζ η=>.BoolOp ζ η pos
|xvr ζ η=>.Subscript ζ η pos
|xpW ζ=>(Iu ζ).symm
|xBa=>a.toList.drop ia
|xga=>.ref o
|xbK=>[Tm]
|xhJ=>model prog w
|xbm=>LW a b
|xau ζ=>ζ≠p
|xbn=>Txt K mg
|xyi ζ η θ=>if ζ then some η else θ
|xaE ζ η=>by refine F.ok ζ η;intro _
|xpX=>S.pos xgS
|xdA ζ η=>by have:=ζ;rw [η] at this
|xl3=>aX I q
|xdi=>xl3 Z6
|xb4=>Ty 1
|xkm ζ=>.cons ζ ih
|xvs ζ=>I.base.slot ζ o
|xsr ζ=>G7 ζ I.kIn
|xEr=>.type "StopIteration"
|xiN ζ η θ=>∀ζ∈η,xA2 θ
|xbz=>vN s
|xdj=>M2 b
|xvt=>I.pin p
|xyj=>ms.map V.int
|xBb=>congrArg Nat.succ
|xyk=>cm LY
|xhK=>Qf Tb
|xdB=>SC f
|xvu=>xc2 LY.length
|xBc=>bf SZ
|xyl=>.Name x
|xIo ζ η=>.Call (.Attribute ζ η apos)
|xym ζ η θ=>aW ζ η scope θ fp
|xss=>model X.prog X.w
|xyn=>xsk T'.length
|xIp=>MK CO CK
|xcf=>s3 _ _
|xep=>sm _ _
|xnO ζ=>ζ=xs.length
|xvv ζ η=>J' ζ (A.deeper η)
|xvw ζ=>ζ=its.length
|xyo ζ η θ=>NE (List.lookup ζ η) θ
|xgb ζ=>Ν ζ x
|xbb ζ η θ=>by show xjV z ζ η θ
|xfx ζ η θ=>by show xlK (xfT ζ η) θ
|xpY ζ=>none_of ζ nl
|xb5=>nB T
|xst ζ=>Value.int ζ t
|xnP ζ=>I.ok.bs ζ o
|xsu=>.error e
|xeZ=>cw C
|xbA=>SC a
|xLx=>Μ ((backTo pos (starEach (e:: []) X.env)).any (·.1)=false)
|xnQ ζ=>xIb ζ .local
|xBd ζ η=>τ (behindInMarks ζ η)
|xl4 ζ=>xal ζ ta
|xvx ζ=>A.under (.builtin "type.__call__" ζ)
|xl5 ζ η θ=>xuV ζ (some η) θ
|xgc ζ η θ ι=>xbV (xaQ ζ η θ ι)
|xkn ζ=>ζ<a.size
|xyp=>xiw H'
|xEs ζ=>λ _ _ z=>ζ
|xvy ζ η=>xck ⟨ζ,.inr η⟩
|xIq=>xuY false hs
|xIr ζ=>s1.heap.push (xve ζ)
|xyq=>["_law_cell","_law_k"]
|xdk=>EY _ _
|xvz ζ η θ=>(I.hok ζ η θ).stay
|xBe=>.type "object"
|xvA=>te σ3
|xEt ζ η θ=>by obtain⟨ζ,_,_,_,_,_,_,_,_,η,_⟩:=id θ
|xko=>sgl wt
|xvB=>xjY "text"
|xcW ζ η=>Sc ζ η e
|xe0 ζ=>ζ->xrT
|xbR=>xe0 St
|xyr=>X.base.get? b
|xys ζ=>I.base.tups ζ xs
|xyt ζ=>I.base.tbls ζ ps
|xdC ζ=>Ew ζ Z9
|xkp=>.sg s
|xkq=>V.int 0
|xLy=>Nat.not_le.1
|xBf ζ=>st.heap.objs.size+ζ
|xEu ζ=>W.length+ζ
|xyu=>Value.ref b
|xnR=>List Key
|xpZ=>.tbl ps
|xEv=>σ.set i
|xnS=>ES _
|xsv=>.inr rfl
|xnT=>cxHand X
|xbS=>h.1
|xkr=>rl T
|xyv ζ η θ ι μ=>by obtain⟨ζ,η⟩:=θ;dsimp only at ι μ
|xvC ζ η=>B.take (max ζ η)
|xsw ζ η θ ι=>Due ζ η (.thing θ ι)
|xnU=>Array xH9
|xvD ζ η=>Pi (makesIn ζ η)
|xiO=>X.mg x
|xdZ=>xhC e
|xg1=>xr7 j
|xLz=>O7 κ left key arr
|xyw=>arrOf st'
|xgd=>am nl
|xg2 ζ=>ζ<xs.size
|xvE ζ=>F2 (EL ζ)
|xyx ζ η=>NE (cl.lookup ζ) η
|xiP ζ η=>κ.blt (xiz ζ) (xiz η)
|xsx ζ η=>aH ζ (af η) aA
|xg3 ζ=>xki ζ s
|xl6=>by simpa using hb
|xvF=>Gl X
|xhL=>.int j
|xEw=>putF f
|xLA=>s.heap.update a
|xnV ζ η=>["self",ζ,η]
|xp0=>X.drop m
|xhM=>krf 12
|xEx ζ=>congrArg (List.take ζ)
|xIs=>List.getElem?_eq_some_iff.1
|xvG ζ=>.inr (.inl ζ)
|xdD ζ η=>λ ζ η=>Β
|xiQ ζ η=>ac ζ (xbU η)
|xhN ζ η θ=>aH (xeK ζ η θ)
|xsy=>.bl true
|xl7=>xxZ Uf
|xb6=>ω b
|xg4 ζ η=>by show xnD ζ η this
|xhO=>256^B.length
|xEy=>s.heap.IsSliceOf sl
|xe1=>aq bP
|xsz ζ=>(ζ).map V.ref
|xsA=>MA κ
|xp1 ζ=>by simpa [Eu] using ζ
|xe2=>kv.1
|xe3=>Ο VK
|xEz ζ=>λ _ _ q=>ζ
|xvH ζ η θ=>xj2 ζ η "__init__" θ
|xg5 ζ=>M2 (ζ+1)
|xg6 ζ η θ=>by refine ζ;show LE η θ
|xBg=>y' X.prog X.w X.K X.mg X.base
|xp2 ζ=>ζ->Nat
|xct=>xp2 Nat
|ST ζ η=>by rw [ζ];refine η
|xl8=>List LN
|xIt ζ η θ=>swapsWith ζ η θ X.env
|xp3=>.dK LY
|xg7=>far p
|xks=>Hd Z9
|xnW=>fW d
|xiR=>EA h1
|xp4=>MD.of ht
|xd0=>Ty i
|xyy ζ η θ=>xea ζ {η with slots:=θ}
|xBh ζ=>envOfC qual ζ s.heap.objs.size
|xl9=>xEd 1000
|xdl ζ=>by show LE Es ζ
|xcg=>υ b
|xdE ζ η θ ι=>⟨_,ζ,η,θ,ι⟩
|xIu=>MB X LQ
|xBi=>["singles","most"]
|xiS=>start N vs
|xiT=>.frz o u
|xaP ζ η=>by unfold ζ;rw [η]
|xkt ζ=>ζ->Bool
|xsB ζ η=>FA (Ey ζ η)
|xvI ζ=>I.turned ζ f0
|xsC=>.ref c'
|xLB ζ=>congrArg (List.map ζ)
|xp5 ζ η=>xfh ζ (.own η)
|xsD=>xEc "copy"
|xsE=>xcB H1 []
|xp6 ζ η=>xdU ζ (.own η)
|xEA ζ=>ζ+Y.length
|xsF=>xEA X.length
|xe4=>Fz _
|xvJ ζ η=>{X with pn:=ζ,xe:=η}
|xsG=>bitsP ps
|xp7=>kitOne K
|xvK ζ η=>congrArg (λ ζ=>η)
|xvL=>S.take p
|xnX=>Ez rfl
|xvM=>Iv.mp this
|xma ζ=>aF (dI ζ)
|xBj ζ η=>xs.toList.take (ζ+η)
|xIv ζ=>out.toList.Pairwise (SG.Mr ζ)
|xvN=>["bundle"]
|xBk=>us.map V.ref
|xEB=>kla_obj "<lambda>"
|xBl=>.type "tuple"
|xmb ζ=>xc4 (th ζ)
|xBm=>xpy its.toArray
|xnY ζ η=>τ (blt ζ η)
|xfy=>Υ xff
|xdF ζ η θ=>by have:=ζ;rw [η,θ] at this
|xiU ζ η θ ι=>by have ζ:=η;generalize θ=ι at*
|xfz=>Fj _ rfl
|xEC ζ=>(rel.val ζ).isSome_eq
|xav ζ η θ ι=>by exact⟨ζ,η,θ,ι⟩
|xhP ζ=>ζ+T.length
|xED ζ η θ=>by obtain⟨_,ζ,η,_⟩:=I.ok.funs.mem θ
|xsH ζ η=>Value.ref ζ::η
|xku ζ η θ=>show ζ∈η from θ
|xnZ=>pos C
|xEE ζ η=>envX ζ η s.heap.objs.size
|xIw ζ=>by obtain⟨_,_,Co⟩:=ζ
|xBn=>NE X.env.frame X.env.locals
|xsI ζ=>Pi (X.fn ζ)
|xdm ζ η θ ι μ=>by show xbE ζ η θ ⟨ι,μ⟩
|xEF ζ η=>I.fpOk ζ (I.hok.fresh η)
|xvO ζ η θ=>(ζ).filter (xed η θ)
|xdG ζ=>by show xnE (xcU<ζ)
|xmc=>.ref b
|xcX=>h _
|xkv=>xcX _
|xBo=>.type "int"
|xEG=>wpAny_newList ?_
|xiV ζ=>aJ ζ ?_
|xsJ=>BP.val R
|xkw=>pv 6
|xgf=>xc4 q
|xe5=>xLq 0 lo
|xg8=>xdr z
|xsK=>ae e
|xe6 ζ=>xeb ζ nl
|xsL ζ=>xgI bu ζ
|xsM ζ=>xgI bv ζ
|xvP ζ=>xsM (xsL ζ)
|xcH=>xAQ C
|xkx=>xpy #[] 0
|xcI ζ η θ=>(if ζ then η else θ)
|xgg=>M2 m
|xbB ζ=>by exact .inr ζ
|xyz=>xcm "begun"
|xEH ζ η=>by obtain⟨_,_,_,_,o,_,_,ζ,_⟩:=η
|xgh=>PSs X
|xyA ζ=>autoParam ζ ZV
|xEI=>Nat.lt_one_iff.1
|xyB=>["bundles"]
|xn0=>putK LY
|xn1 ζ η θ ι μ=>by have ζ:=η;obtain⟨θ,ι⟩:=μ
|xyC ζ η=>xbw ζ η Value.none
|xiW ζ η=>by show xab (Ez ζ) η
|xEJ=>putF "many_signs"
|xgi=>aq a9
|xsN ζ η θ ι=>by show xuQ ζ η θ (I.tuple ι)
|xp8=>xu4 kf
|xhQ ζ η=>h ζ (xkg η)
|xn2=>.int xf7
|xEK=>List.replicate xbl
|xyD ζ η θ=>fnOf ζ η (aZ st) xuU xjZ θ kV
|xn3=>xsK np
|xIx=>M6 Ce CO CK
|xdH=>vN n
|xsO ζ=>Hq ζ s.heap
|xky=>HL _
|xIy=>Value.ref g1.objs.size
|xiX=>PA X
|xIz ζ=>(items.toList.drop ζ).take
|xmd ζ η=>Ew (FX ζ η)
|xBp=>ixN xs.length
|xsP ζ=>X.A.units+ζ
|xyE=>EN.mp h.s1
|xyF=>EN.mp h.s2
|xEL ζ η θ=>(ζ).eraseIdxIfInBounds (η+θ)
|xvQ=>Y'.take l
|xvR=>Y'.drop l
|xhR=>ed L
|xfA=>tl T
|xvS=>.ref cd
|xsQ ζ=>K33.WC ζ mg
|xkz=>.ref r
|xkA=>Q .non
|xn4 ζ=>by show xrU ζ H1 I1 r1 q1
|xBq=>xIg #[]
|xbo ζ η=>by refine F.F.ok ζ η;intro _
|xsR ζ η θ=>upd ζ η (.own θ)
|xeq ζ η=>xcL ζ p CO dx η
|xkB=>xIj 192
|xBr=>xbs "need_row"
|xEM=>xbV rfl
|xhS=>(lcAt S q).2
|xiY ζ η θ ι=>xkh ζ η (aU θ ι)
|xEN=>["_law_cell","_law_size"]
|xsS ζ η=>aR a6 ζ η xnj
|xsT=>xyl pos
|xp9 ζ η=>xIp ζ η ck
|xer ζ η=>⟨o,ζ,η⟩
|xes=>PP b hb
|xe7=>PP l nl
|xme=>al S p
|xBs ζ=>IsRangeIter ζ it
|xBt ζ η θ=>by obtain⟨_,_,_,_,ζ⟩:=η;exact θ
|xEO=>λ _ _ _=>False
|xqa ζ=>eval ζ env
|xmf ζ=>A.units+ζ
|xyG=>ps.zip us
|xvT ζ=>IntsAre ζ ns
|xIA ζ=>List.replicate ζ its.toArray
|xiZ ζ=>Walk ζ p
|xyH=>NN.refl _
|xgj ζ=>(none,ζ)
|xvU ζ=>(ζ).map V.int
|xsU=>codes L
|xEP=>h1.symm.trans e
|xsV=>.ref ea
|xcJ=>xIa x c
|xhT ζ=>xc6 ζ ak
|xvV ζ=>xD9 "range" ζ
|xhU ζ=>xgI aK ζ
|xmg ζ η=>xgL (aB ζ) η
|xvW ζ=>backTo pos (xfS ζ)
|xhV ζ η θ ι=>by show xaa (Gw ζ η θ ι)
|xkC ζ η θ=>xjW ζ (EP η LQ σ θ)
|xvX ζ=>xsx (PW.pt ζ) aO
|xvY ζ=>xl1 ζ Q E
|xmh ζ=>ζ="group"
|xi0 ζ=>.ListComp elt ζ scope pos
|xBu ζ η=>tupleKind (b9 ζ η)
|xBv=>fs.lookup f
|xmi=>HM _
|xg9=>ai hb
|xIB=>s.heap.FunFrames X.base
|xha=>val B
|xBw ζ η=>(As.flatten.length,ζ,η)
|xEQ=>SG.ord SG.kInt
|xER=>s'.heap.update c
|xvZ=>C9.Good L
|xv0=>["piece"]
|xES=>plainId_quiet Hi
|xyI=>.tbl #[]
|xET=>s₁.heap.get? b
|xmj=>four n
|xyJ=>r.map vN
|xmk=>ay _
|xqb ζ η=>Pi (blt ζ η)
|xsW=>xcm "way"
|xdn=>RelV v u
|xhb=>Υ xpD
|xEU ζ=>s2.heap.push (xuW ζ)
|xgk ζ η=>by refine ζ;show xfl η
|xsX=>xBh scope
|xdo=>t σ H
|xml ζ η=>min 66 (run ζ (L.drop η))
|xgl ζ η=>by refine ζ;show xn4 η
|xhW=>s0 _ _
|xdp=>k _
|xn5 ζ=>(FL.mp ζ)
|xEV=>MT.k.trans hk
|xyK ζ=>Rs.flatten++ζ
|xn6=>sld X
|xEW ζ η=>putF ζ (.bl η)
|xhc ζ=>ζ≤64
|xqc ζ η=>BP.num (xAM xeh ζ η)
|xqd ζ η=>xbi H4 ζ η
|xEX ζ η=>xj6 ζ η "BitReader.take"
|xBx ζ=>(xLw ζ).objs.size
|xv1 ζ η=>(ζ).map (sgl η)
|xet=>Nat×Nat
|xaF ζ=>by rw [ζ];lia
|xcY=>by show xaF Es
|xi1 ζ η=>(ζ+η).toNat
|xn7 ζ η θ ι μ=>by obtain⟨ζ,η,θ,ι⟩:=id μ
|xEY ζ=>Kx ζ isSubtype_stop
|xBy=>IsTup s.heap
|xIC=>s.heap.Ns X.env.locals
|xEZ ζ=>X.env.scope.kind==ζ
|xqe=>List LP
|xID=>I.mod.glob.keeps I.bk
|xcu=>e::es
|xn8 ζ=>(ζ).stop i
|xIE ζ η=>Builtin.Slice.slicePlaces ζ η 1
|xE0 ζ=>subscripted ζ false
|xkD ζ=>Fh ζ Z9
|xhX=>c.1
|xkE ζ=>a8 ζ Z7
|xBz=>b.extract ib
|xBA=>SM.L9 SG.ltI
|xgm=>b.1
|xqf=>V.ref q
|xmm=>Good L
|xqg=>hP L
|xyL=>W13.Walk L
|xdI=>LW 0 0
|xyM=>K33.Rows K
|xBB=>Ty W.length
|xv2=>.lst xs
|xv3=>xlB 272
|xyN ζ=>xjQ "things" ζ
|xqh=>call xbN
|xd1=>vN b
|xLC=>κ.blt (xiz key)
|xn9 ζ=>xLC (xr9 ζ)
|xqi=>tots xjT
|xfB ζ η=>xbw L ζ η
|xBC=>xLr xs.length
|xkF ζ η=>by show LE (EI ζ) η
|xIF=>(xgK).length
|xch ζ η=>xcL ζ p C dx η
|xBD ζ η θ=>xAZ ζ ⟨η,xIh θ⟩
|xqj=>xvg p
|xv4=>Mb X.prog X.w
|xyO=>notedBy xhJ
|xmn=>L.length=272
|xE1 ζ=>ha LQ ζ σ
|xgn ζ η θ=>(ζ).take (η-θ)
|xmo=>xdp _
|xsY=>NC P w
|xBE ζ=>I1.kept (t':=ζ)
|xE2=>Option NameKind
|xhY=>bi ?_
|xBF ζ=>(ζ).symm.trans z
|xyP=>Rb.map vN
|xE3=>["_law_script"]
|xi2 ζ η θ ι μ=>xfe ζ η θ (UW ι μ)
|xgo ζ=>if ζ then _ else _
|xkG=>xcb ha
|xeu ζ=>by show xf1 t' ry ζ
|xoa ζ η=>xb2 (fC ζ η)
|xkH ζ η θ=>bw E5 rfl ζ (xrW η θ)
|xBG ζ=>xsr ζ True.intro
|xcZ=>g2 _ _ ?_
|xkI ζ η θ ι=>L6 ζ η p d (cL θ ι)
|xIG=>s.heap.FunFrames base
|xd2=>z.1
|xbc ζ=>by rw [ζ];simp
|xhZ ζ η θ=>λ ζ η=>.int θ
|xyQ=>B.take i
|xhd ζ η θ ι μ=>bq ζ η Z7 θ ι μ .nil
|xBH ζ=>G8 (I:=ζ)
|xyR=>C.map vN
|xBI ζ=>cn (Qs.take ζ)
|xBJ ζ=>some (V.ref ζ)
|xd3=>SC p
|xE4 ζ η=>NE (X.env.kindOf ζ) η
|xBK ζ η=>wpS_bind (aT ζ η)
|xIH=>xs.toList.Pairwise xbp
|xd4=>b.2
|xBL=>instObj C s.heap.objs.size
|xv5=>xiz key
|xob ζ η=>cv (xrW ζ η)
|xBM=>xjY "wide"
|xBN=>pyNext xnr
|xBO ζ η=>(blk ζ η).length
|xE5 ζ=>by show xaa (wpAny_standAt ζ)
|xv6=>.ref xcq
|xqk ζ η=>xhs (exO ζ vs) η
|xd5=>xfj _ xnk xnk
|xv7=>.inr xj0
|xmp=>bale T Rs
|xmq ζ=>Q (vN ζ)
|xsZ=>OX r H
|xd6=>s6 _ _
|xd7=>sp vs H Q E
|xv8 ζ=>ζ≤vs.size
|xE6 ζ=>ζ=s.heap.objs.size
|xv9=>X.pn++LQ
|xwa ζ=>σ.length=ζ
|xII ζ=>{s with toks:=ζ}
|xyS=>.ref sl
|xs0 ζ=>S.length-ζ
|xs1 ζ=>B.length+ζ
|xkJ ζ=>ζ<b.size
|xBP ζ η θ=>by obtain⟨⟨old,ζ⟩,η⟩:=θ
|xBQ=>["many_signs","signs_check"]
|xBR=>["_law_script","_law_k"]
|xwb ζ=>xrS ζ .local
|xs2=>xbe Α
|xwc ζ=>show ζ from r
|xIJ ζ=>ζ=.function
|xBS=>xIJ scope.kind
|xs3=>xc9 dm
|xoc ζ η=>xgL (xc9 ζ) η
|xh0 ζ η θ ι=>∀ζ∈η,xhF θ ι
|xs4 ζ η θ=>xA0 ζ η (.ref θ)
|xwd ζ=>ζ≤T.length
|xBT ζ=>(xsd ζ).length
|xs5 ζ=>(ζ).count p
|xfC ζ η θ=>⟨ζ,rfl,η,θ⟩
|xIK ζ η θ ι μ=>xyp {ζ with heap:=η,gens:=θ,drawn:=ι,toks:=μ}
|xaX ζ=>Nat->ζ
|xi3 ζ=>xaX (xaX ζ)
|xs6=>xsK nx
|xi4 ζ η θ ι μ=>aB (dn Fk ζ η θ ι (xbe μ))
|xql ζ=>xsx (xnz ζ) aO
|xod ζ η=>vN (xqc ζ η)
|xoe ζ η=>xnS (xnS (bE ζ η))
|xkK ζ=>RB C ζ r d
|No ζ=>λ z=>ζ
|xhe ζ=>No (hb ζ)
|xmr=>No (hz xpF)
|xIL=>s.heap.IsListIter it
|xyT ζ η=>seqItems? ζ>>=η
|xs7=>.str x
|xh1=>PS X
|xyU ζ η θ=>xh1 (.Assign ζ η θ)
|xBU ζ η=>by simp only [List.lookup,ζ,η]
|xwe=>Sem Bool
|xc0=>[y]
|xBV=>Decidable c
|xIM=>ys.toList.map (·.1)
|xof=>stAt L
|xwf=>L9.mem O
|xBW=>L9.trans ?_
|xyV ζ=>ζ++Eb.reverse
|xLD ζ=>h4.update ζ (Obj.mapSeq λ _=>out.map (·.2))
|xhf=>cf 0
|xE7=>congrArg V.int
|xs8=>row L
|xBX=>Pp.map th
|xwg=>["head"]
|xs9=>nb F'
|xIN ζ=>.ExceptHandler (some ζ)
|xkL=>xuN X
|xwh=>h.get? a
|xog=>aa Uf
|xi5=>Υ xlF
|xE8 ζ η θ=>by obtain⟨_,_,_,ζ⟩:=η;show xjX θ
|xev=>xuR V
|xyW=>L.drop p
|xew=>Η 1
|xex=>h.2
|xi6=>L9 κ.blt xiz
|xi7=>xx5 b
|xBY=>ω T.length
|xi8=>xyp s'
|xta=>MH κ a
|xcK ζ η=>∃t,NE (mg ζ) (xbq η)
|xe8=>xvF x
|xfD=>xnW r k
|xwi=>g x σ
|xBZ=>Option xet
|xwj ζ=>aT (i:=ζ)
|xi9=>xsZ H'
|xtb ζ η θ=>t {nx:=λ _ ζ=>η,rt:=θ}
|xey=>st _ _
|xE9=>Rn κ a0
|xez=>s4 _ _
|xkM ζ η=>L5 C ζ η d R
|xoh=>xE9 st'
|xB0 ζ=>.Attribute ζ f
|xms ζ=>Inv ζ []
|xyX ζ=>(ζ).getD none
|xqm ζ η θ=>by unfold ζ at η;split at θ
|xB1 ζ=>by obtain⟨_,_,ζ⟩:=z9
|xoi=>Ez Z5
|xB2 ζ=>a.extract ζ na
|xB3 ζ=>b.extract ζ nb
|xFa=>sm.trans s3
|xyY=>Q.count q
|xyZ=>["signs"]
|xy0 ζ=>tryCatch ζ _
|xB4 ζ=>by(rcases u with _|_|_|_|ζ)
|xtc ζ=>S.length<ζ
|xB5 ζ=>ζ="many_signs"
|xoj=>mk bg
|xy1=>(xdP).trans
|xdJ ζ=>autoParam (¬ζ) ZY
|xtd=>.int hi
|xmt ζ η=>by show LE (EU ζ) η
|xdK ζ=>xuX ζ H
|xwk ζ=>us.length=ζ
|xy2=>xxY wt true
|xFb ζ η=>κ.negTrans ζ (xr9 η)
|xja ζ=>by(rcases ζ with rfl|rfl)
|xy3=>xym X N cl
|xy4=>xcB H4 (ys++xc0)
|xkN ζ η=>SF ζ η cls
|xte=>by simpa using h1
|xqn=>.int 1
|xLE=>Calls.Name_function_global I.ok.kind
|xB6=>X.wish E
|xy5=>P.zip vs
|xqo=>kf y
|xy6 ζ η=>by dsimp only at ζ;subst η
|xB7=>k.map kV
|xIO=>Data.seq vs.toArray
|xB8 ζ=>(EI ζ).trans
|xB9=>hT.same s1
|xkO ζ η=>(ζ).set η v
|xh2=>Ty k
|xFc=>.type "dict"
|xIP ζ η θ=>Pi (Builtin.Range.small ζ η θ)
|xFd=>pendingOf NJ
|xgp ζ η=>by show xiC e ζ η
|xCa ζ η=>UF "is_whole" ζ η
|xjb ζ η=>xbi H ζ η
|xeA ζ η θ ι=>xpI ζ η θ ι aA
|xCb=>b.drop s
|xwl=>.ref c
|xy7=>K'.of hB
|xqp ζ η=>xyk (kk ζ η)
|xqq=>xep e
|xIQ=>xvw its.toArray.size
|xqr=>xEs z
|xqs ζ η=>xfv (xIu ζ η)
|xCc ζ=>Ez (ME.mpr ζ)
|xy8 ζ=>aq ζ ak
|xFe ζ=>ha pos LQ ζ σ
|xy9=>s.toks+1
|xFf=>I.base.frzs b
|xIR ζ=>cellsFrom ζ scope.names
|xkP=>sIx n
|xFg=>bJ E5
|xjc ζ=>xLz (base+ζ)
|xFh=>Nat.not_lt.2
|xkQ=>Ey hj
|xkR=>bb.2
|xFi=>pb.facts tw
|xFj=>["_law_bale"]
|xFk=>Y.Pairwise xbp
|xkS=>xco H2
|xqt ζ=>xee _ ζ
|xkT=>Υ xiB
|xkU=>Υ xlG
|xtf ζ=>ζ=S.length
|xkV=>xfS es
|xza ζ=>R.length≤ζ
|xkW=>xgb xs
|xkX=>kindOf sq0=oneType'
|xCd ζ η=>(cpy ζ b η).length
|xkY=>xfS xcu
|xzb ζ=>tots (xqg ζ)
|xtg ζ=>xbf (vN ζ)
|xFl=>mk3.take xIF
|xfE=>p.2
|xCe=>pure false
|xqu=>K.In h
|xci=>s _ _
|xgq ζ η=>(none,ζ,η)
|xIS=>a.toList.take na
|xIT=>b.toList.take nb
|xzc=>X.take k
|xIU=>SM.eqv SG.kInt.blt
|xqv ζ η=>(ζ++η).Perm
|xFm=>h1.trans z
|xIV=>X.mg "__name__"
|xIW=>S.drop W.length
|xCf=>K33.C.Nj G
|xIX=>T.drop W.length
|xqw=>two c
|xzd ζ=>ζ++Rs.flatten
|xgr=>SC C
|xqx=>.ref d
|xjd=>xfe P w K LZ
|xmu=>xbq i
|xfF=>xAO b
|xmv ζ η=>xnp h ζ η
|xwm=>xuT xan
|xLF ζ η θ=>tb {ζ with nx:=η,ct:=θ,bk:=D.nx}
|xLG ζ η=>backToKw ζ (keywordEach η X.env)
|xfG=>xcp d
|xbh=>H p
|xze=>K'.of hl
|xCg=>List.replicate L.length V.non
|xfH=>xhD e
|xqy=>xlZ sq0
|xwn=>xpT xan
|xwo=>xpT xaz
|xgs ζ=>by show xlK ζ g2
|xkZ ζ η θ ι μ=>xAR ζ ⟨η,θ,.func ι,μ⟩
|xk0=>(xcN).irr _
|xhg=>xg5 i
|xfI=>te σ H
|xwp=>xkg hy
|xIY=>relabel scope X.env
|xth ζ=>xg3 (xgo (Pi ζ))
|xwq=>xId emptyDict xBL
|xCh=>xcm "held"
|xti ζ=>xaX (Ο ζ)
|xhh ζ η=>∀p∈ζ,η
|xaq ζ=>ζ<256
|xFn ζ=>setFlight ζ none
|xCi ζ=>Value.str ζ t
|xFo=>frs X.stack
|xCj ζ=>⟨o.slots,ζ⟩
|xCk ζ=>.Constant ζ j
|xCl ζ η=>W ζ m' η σ3
|xok ζ=>(ζ).yld i
|xol ζ=>Meth ζ C
|xLH=>wpAny_newFunctionEnv_cells S.kind
|xIZ ζ=>RR ζ s3.heap.objs.size
|xtj ζ=>ζ*S.length
|xeB ζ=>ζ≤12
|xLI=>Builtin.Builtins.bindParams "min"
|xFp=>s6.trans s7
|xCm ζ=>ns.length≤ζ
|xom=>xnn R2 g2
|xI0 ζ=>Builtin.bitAnd (Ty ζ)
|xI1 ζ=>Builtin.bitXor (M2 ζ)
|xmw ζ=>xlA ζ V
|xk1=>xjQ "course" x []
|xje ζ=>xaR ζ nl
|xCn ζ=>tailR T.length (xlM ζ)
|xzf ζ=>xbI ζ.2
|xtk ζ=>xbI (xzf ζ)
|xeC ζ=>(xeT ζ)
|xjf ζ=>xc3 ζ xs
|xqz ζ η θ ι μ=>by obtain⟨ζ,η⟩:=θ;have ι:=μ
|xjg ζ=>E (.ref ζ) none H'
|xon ζ η θ ι=>aB (xBc TB.cl ζ η θ ι)
|xCo=>xnV "text" "before"
|xwr ζ=>PSs ζ body
|xeD ζ=>xvY ζ s
|xtl ζ=>(ζ).get? b
|xCp ζ η=>(O3 ζ η).trans
|xh3=>hb b
|xws=>.cell v
|xzg=>J.stop i
|xLJ=>IsRange.new ..
|xFq=>congrArg not
|xtm=>Hj _
|xFr=>bindL kindOf
|xFs=>bindC kindOf
|xI2=>HT.sIx its.length
|xgt=>x.1
|xgu=>H4 l
|xbC ζ=>∀H',ζ
|xmx=>EI h2
|xCq ζ=>(GE.mp ζ).1
|xFt ζ η=>xs.toList.drop (ζ+η)
|xFu=>a.extract ia
|xFv=>ps.map V.ref
|xzh=>hB.sm.2
|xI3=>kla_fn "<lambda>"
|xdL=>g _ _ ?_
|xCr ζ η=>by obtain⟨_,_,Tk,ζ⟩:=η
|xtn ζ=>ζ="begun"
|xI4=>mk3.take W.length
|xFw=>["_law_bale","_law_text_here","_law_long"]
|xk2=>Ty c
|xFx=>xc2 ys.length
|xI5=>I2.hok.fresh Tl
|xFy ζ η=>Pi (hasDictIn ζ η)
|xh4=>vN 0
|xgv=>x.2
|xmy ζ η=>xef ζ η rfl
|xto=>.int c
|xoo ζ η=>by show LE ζ (FS η)
|xwt=>foldedSetIterable iter X.env
|xmz=>xr0 xs
|xmA=>xLq items.size hi
|xwu ζ η=>dig (xvb ζ η)
|xwv=>.inl xeS
|xFz=>ω Pp.length
|xCs ζ η=>xLu A E s ζ η sq0
|xdq ζ=>xCs ζ Q
|xgw=>Cls K C
|xmB ζ η=>(ζ).toList=η
|xCt=>xA9 true
|xgx=>xau b
|xCu ζ=>K'.of (xep ζ)
|xww=>xgb X.N
|xwx=>xe0 Bool
|xFA=>Pv xs.length ys
|xgy=>ta σ H
|xmC=>Vals Nq ds
|xqA ζ η θ ι=>xj6 ζ η θ ι Jaa f fd
|xmD=>N8 mg base
|xtp=>(lcAt S q).1
|xqB=>xhW e
|xgz=>WN T Rs
|xFB=>Sg T Rs
|xmE=>xuO X.K ps ds
|xzi ζ=>(Fb ζ).symm
|xgA=>xy3 s H
|xtq ζ η θ=>xyD ζ η dV dc pm an θ ct
|xgB ζ η θ ι μ=>⟨ζ,η,θ,rfl,ι,μ⟩
|xk3=>Ty m
|xI6 ζ=>s.heap.IsList ζ items
|xwy ζ=>by have ζ:=rv.length
|xI7 ζ η=>{ζ with heap:=s3.heap.push η}
|xFC=>Option Bool
|xFD ζ η=>XH ζ (rest.take η)
|xI8 ζ=>wpAny_updateSeq ζ rfl
|xFE=>["_law_bale","_law_place"]
|xzj ζ η=>Pi (isFn ζ η)
|xFF ζ η=>{s with heap:=ζ,toks:=η}
|xe9 ζ=>NB X (compareOp ζ)
|xFG=>xjY "tail"
|xop=>xcb hp
|xwz ζ η=>num ((b.drop ζ).take η)
|xCv ζ=>(xLw ζ).push
|xfa ζ=>.inl ⟨rfl,_,K'.of ζ⟩
|xgC=>xeV K a xs
|xfb ζ=>xcB H ζ
|xqC ζ=>Pv ζ σ H
|xtr ζ η=>Pi (xp8 ζ η)
|xts=>xqg Pp
|xFH=>xcm "things"
|xFI ζ η=>(Mn ζ η).length_eq
|xb7=>H b
|xhi=>Q ()
|xgD ζ=>b∉ζ
|xeE=>by exact .nil
|xmF=>hf b hb
|xwA ζ=>EM (Ev ζ)
|xFJ ζ=>F.run ζ X.stack
|xLK=>Around.frames_deeper e0.frames
|xhj=>y.1
|xLL=>codeAny_call_function hr.depth
|xI9 ζ=>seqIndex_neg (JG ζ)
|xCw=>numAt ys
|xJa=>closureFor scope
|xwB=>.ref q
|xCx=>.Try body
|xhk=>Ge _ _
|xwC=>HJ _
|xqD=>xwC Z9
|xd8=>k l
|xtt ζ η=>Ew ζ (EL η)
|xFK ζ=>(S.map ζ).sum
|xFL=>EL Rg.symm
|xCy=>["lengths","place","ahead"]
|xFM=>["bale","place","many_signs"]
|xfJ ζ η θ ι=>bz ζ η θ ι Md
|xCz ζ η=>["signs",ζ,η]
|xJb=>List.replicate z
|xhl=>SC l
|xLM ζ=>Pi (Builtin.Range.rangeFitsLong ζ)
|xCA=>xcm "wide"
|xCB ζ η=>LY.any (xed ζ η)
|xtu ζ η=>xal ζ (tC η)
|xtv ζ η=>aL ζ (E7 η)
|xk4=>xeg h1 h1
|xFN ζ η=>List.replicate (ζ+η)
|xhm=>xhw 1
|xCC=>xbs "ones"
|xwD ζ=>xbV (af ζ)
|xhn=>z.2
|xtw=>StateT SortSt Sem
|xzk=>xuO K ps
|xtx=>xlZ st'
|xty=>Cls X.K C
|xfc ζ=>b≠ζ
|xfK=>xfc e
|xtz=>xeV X.K
|xtA=>xEz q
|xk5 ζ=>R.drop (ζ-ok)
|xk6 ζ=>xsS Uf ζ
|xFO ζ=>xEW "finished" ζ
|xtB ζ η=>(ζ++η).drop
|xzl ζ η=>xci ζ (.inr η)
|xJc=>(xIY).names.lookup
|xzm=>Mb P w
|xFP ζ η θ=>by obtain⟨_,_,_,ζ,_⟩:=η;exact θ
|xFQ=>Ew I.ok.bsz
|xJd ζ η θ=>by obtain⟨ζ,⟨η,_,_,θ,_⟩,_⟩:=I.loc
|xqE ζ=>Inv ζ MC
|xbT=>[x]
|xtC=>by simpa using h
|xoq=>EI h1
|xCD ζ=>σ3.length=ζ
|xor=>cU ?_
|xFR=>Tx.map vN
|xCE ζ=>none_of ζ n5
|xtD=>by simpa using z
|xos=>Fc hk
|xCF=>EJ SK
|xLN=>Nat.eq_zero_of_le_zero hB
|xJe ζ=>Walks.list (prog:=ζ)
|xFS=>K33.Ck.VS K
|xJf ζ η=>NE (s₁.heap.get? ζ) η
|xot=>τ ok
|xou=>xco H1
|xJg ζ η θ=>λ ζ η⟨vs,H2,I2,r,q2⟩=>xbW θ
|xov=>Η 31
|xow=>E7 xj0
|xdM ζ=>by show LE e ζ
|xzn=>xuT Uf
|xox=>xcp ck
|xmG ζ η θ=>by rw [ζ];show TD η θ
|xFT=>(xhu).reverse
|xFU=>xb0 B.length
|xoy=>W1 (K.lookup Tb)
|xLO=>Builtin.Tuple.tupleItemsOf xfr
|xFV=>xf8 xs
|xqF ζ=>λ _ h=>ζ
|xqG ζ=>Q (some ζ) sq0
|xtE=>Eb++D0.reverse
|xtF ζ η=>E7 (xvy ζ η)
|xzo=>wpS_lift (IM xhA)
|xfL ζ=>xfh b ζ
|xzp=>xkg hx
|xqH=>xqk cls e
|xtG ζ η=>xcl ζ (xbe η)
|xqI ζ η θ=>xFg (xeK ζ η θ)
|xzq=>exO cls vs
|xqJ ζ η θ=>Binds K (xtq ζ η θ)
|xoz=>xgD ch
|xzr=>xgD X.fs
|xoA=>xzk []
|xcv ζ=>by(rcases ζ with z|z)
|xJh=>PySem.Within mA
|xLP=>X.s₀.heap.FunFrames X.base
|xJi=>Vis X.env.scope
|xJj=>s.heap.IsCell c
|xh5=>PT X
|xwE ζ η θ ι=>by obtain⟨σ6,ζ,η,θ⟩:=ι
|xJk=>attributeBase e
|xFW=>JX.mp nd
|xLQ=>Builtin.Slice.sliceAdjust lo
|xJl=>s.heap.update p
|xJm=>s.heap.IsList p
|xwF ζ η=>S4 ζ η scope
|xLR=>wpAny_comprehension_free rfl
|xJn=>λ _ _ _=>wm
|xk7=>MY K
|xLS ζ=>tail_any ζ slot_dict_getitem.lookup
|xLT=>X.stack.filterMap (·.frame)
|xh6=>c.2
|xFX=>B.drop n
|xoB=>fR d t
|xFY ζ η=>(runP ζ η).length
|xCG=>by simp;assumption
|xwG ζ η=>R.take (ζ-η)
|xJo ζ η=>(SM.Mn ζ η).length_eq
|xJp=>hp.subset hb
|xtH=>Nk 0
|xFZ=>u.drop t
|xoC=>nb A
|xjh ζ η=>xcn H2 ζ η
|xh7=>vN c
|xqK=>Δ h
|xji ζ η=>xbG H4 ζ η
|xh8=>RelV y u
|xJq=>xjY "lengths"
|xqL ζ η θ ι=>by rw [ζ] at η;show LE θ ι
|xh9=>xcy q
|xF0=>B.take n
|xia=>xcp b
|xwH=>xdU a
|xib=>xxW 0
|xic=>xxW 1
|xid=>υ p
|xjj ζ η=>xcL ζ p Ce dx η
|xCH=>K'.of ad
|xie=>K33.Txt K mg
|xk8=>xx0 1
|xtI=>xbI h
|xwI=>hidT s₁.heap H
|xF1=>N.map xA3
|xif=>wpAny M A
|xig=>Pv i ys
|xF2=>xvE Xw.symm
|xLU=>Nat.le_div_iff_mul_le xks
|xih=>xkv z
|xii=>xpB K xbN
|xF3 ζ η=>aL ζ (wpS_bind η)
|xF4=>xwc False
|xmH=>xmo xbF e
|xij=>xsY H h
|xoD ζ η θ ι=>bZ (D:=ζ) (K:=η) (a:=θ) (xs:=ι)
|xk9 ζ η θ ι μ=>by show xaZ (HG (xBH ζ η ?_ θ ι) μ)
|xwJ=>xuW (xEf n)
|xjk=>xme b m
|xF5=>FQ _ _
|xmI=>xF5 LU
|xwK ζ η=>fP ζ η false false
|xtJ=>xwH o
|xik=>dY _ _ _
|xil=>Nn H x W
|xim=>d4 _ _ _ _
|xin ζ=>o.data=ζ
|xzs=>X.env::X.outer
|xcj=>[a]
|xF6 ζ=>assign ζ X.env
|xzt=>J.yld i
|xwL=>W i m
|xwM=>W 0 m
|xoE=>xwL ys σ' H'
|xtK ζ η=>PI ζ η iter
|xzu=>T.obj _
|xbd=>by simp at h
|xjl ζ η θ=>by rw [ζ] at η⊢;exact θ
|xwN ζ=>(ζ,first)
|xLV=>wpAny_sequenceKey ht.typeIs
|xLW ζ η=>(List.replicate ζ η).flatten.toArray
|xJr ζ=>d.params.defaults=ζ
|xmJ ζ=>UT ζ LQ
|xCI ζ=>{X with H₀:=ζ}
|xzv ζ η=>out.push ζ[η]
|xwO ζ=>ζ≤xs.size
|xwP ζ=>xs.toList=ζ
|xwQ ζ=>bf ζ T.cl
|xzw ζ=>u.length-ζ
|xF7=>spCInit C
|xwR ζ=>CK.Tn ζ p
|xzx=>fC_no _
|xtL ζ=>r.length=ζ
|xJs ζ=>Rs.flatten.length≤ζ
|xF8 ζ=>(ζ).nameGoes hN
|xmK=>PP p hp
|xF9 ζ=>xjQ "waiting" ζ
|xJt ζ η θ=>λ ζ η⟨vs,H1,I1,r,q⟩=>xbW θ
|xc1 ζ=>ζ->xpA
|xjm ζ=>(ζ:Nat)
|xzy=>xlR ".0"
|xzz ζ=>(ζ).count q
|xLX=>xA8 "object.__setattr__"
|xzA ζ=>Due ζ rest
|xla=>by show xbM t rx
|xmL ζ=>xp9 ζ co
|xoF ζ η θ=>by show WF (ai ζ) η θ
|xmM ζ=>xuO K ζ []
|xtM ζ=>xjb l1 ζ
|xmN ζ=>ho LQ ζ σ
|xCJ ζ η=>xa2 (V.int ζ) (V.int η)
|xGa=>.fields us
|xGb=>I.stkSub b
|xJu=>Array GenState
|xGc=>.Compare a
|xwS=>Q true
|xLY=>wpAny_pyNext_range_item st
|xwT=>pure x
|xCK=>T.keep _
|xGd=>plainGet K
|xLZ=>Str.ofString "__getitem__"
|xmO=>Iq _ _
|xJv=>seqIndex_of h0
|xJw=>sliceBounds lo
|xJx=>OldK s₁.heap
|xqM=>ExC K
|xL0=>unbindBehindTheSuite X.env
|xGe=>IntsAre kv
|xwU=>Ez z
|xwV=>FR t1
|xCL=>X.drop x
|xjn=>H2 l
|xqN ζ η=>xIl (λ ζ=>vN η)
|xjo=>no _
|xGf=>["things"]
|xJy=>.type "module"
|xCM=>BP.val A
|xGg=>spLeft C
|xzB ζ η θ ι μ=>by(rw [ζ,η] at θ;injection ι with μ)
|xqO=>Ty b
|xmP=>SC d
|xjp=>SL s
|xwW=>some x
|xCN=>K'.of Q2
|xfd ζ η=>xbw ζ j η
|xwX=>xaM 122
|xqP=>ae hp
|xjq=>vN m
|xJz=>Y'.Pairwise xbp
|xmQ ζ η θ ι=>∀ζ∈η,xbp θ ι
|xqQ=>Η 32
|xqR=>xAP NJ
|xCO=>(xpC).size
|xjr=>xlH 0
|xJA=>xjY "reader"
|xjs=>xcp r
|xjt ζ=>by show ρ ζ e e
|xmR ζ η θ ι=>by show xpG ζ η θ;cases ι
|xfM=>by exact this
|xJB=>xbs "are_whole"
|xqS=>xb2 fs
|xCP=>L.take p
|xoG=>(lcAt S p).2
|xqT ζ η=>by subst ζ;show xaT η
|xGh=>xnA "range"
|xCQ=>EW.mp hb
|xar ζ η=>by exact⟨ζ,η⟩
|xju=>xvl k
|xwY=>xvt hp
|xtN=>xyk k
|xGi=>codeAny xss
|xqU=>xvA H3
|xfN=>Pv (i+1)
|xGj=>xvF "range"
|xwZ ζ η=>fO ζ η ck g
|xjv=>chk 8 29
|xw0=>NC X.prog X.w
|xCR=>(xqj).size
|xjw ζ η=>by rw [ζ];show xaa η
|xjx=>xwi H
|xlb ζ η θ ι=>xal (xD9 ζ η θ ι pos)
|xqV=>xy8 dg
|xJC=>Ms T Rs
|xqW=>xmw κ
|xCS=>xFB false
|xqX=>xFB ok
|xqY=>xbs "is_whole" cb Jab
|xoH ζ η=>(ζ-η).toNat
|xqZ=>xbC (xc1 UV)
|xq0=>KV LY vs
|xjy=>OR _ _
|xjz=>k3 _ _
|xCT=>xJC false
|xjA=>ig _ _ _ _
|xq1=>NV Cp Ce CO CK
|xfO=>k b
|xL1=>wpAny_pyIter_rangeiter st
|xL2=>es.toList.any (·.refKey)
|xL3=>lim.keeps x.toInCall.keep
|xGk=>.type T
|xL4=>numsOf its.toArray.toList
|xGl=>.inl hl
|xL5=>Builtin.Range.rangeSize i
|xCU ζ=>ζ<ns.length
|xzC ζ=>ζ*B.length
|xL6 ζ=>(Nat.mul_lt_mul_right ζ).mpr
|xCV ζ=>ζ^bs.length
|xGm ζ η θ=>some (HO.ins ζ η θ)
|xzD ζ=>S.length=ζ
|xdN ζ=>out++ζ
|xGn=>Y.drop k2
|xL7=>List.length_eq_one_iff.1
|xJD ζ=>(As.flatten.length,ζ)
|xzE ζ η=>(ζ).flatten++η
|xL8=>Nat.le_min_of_le_of_le m2
|xzF ζ=>kf (φ ζ)
|xtO=>Ex Nf
|xzG=>["first","inside"]
|xw1 ζ=>by have ζ:=hr.units
|xCW ζ=>ζ="waiting"
|xGo=>["row","many_signs"]
|xtP ζ=>rem ζ Rs
|xJE ζ=>xjQ "whole_bytes" ζ
|xjB ζ=>by exact(ζ).elim
|xGp ζ η=>UF "need_row" ζ η
|xho=>λ z=>nomatch z
|xjC=>by show xel hb hb
|xGq=>EW.mp z
|xtQ ζ η θ=>xec "many_signs" ζ (xIn η θ)
|xtR ζ η=>(lc S p ζ η).2
|xjD=>xtR xbY j
|xeF ζ=>l≠ζ
|xzH ζ=>xcf (xbQ ζ)
|xCX ζ=>xs.length=ζ
|xJF ζ=>(xIr ζ).objs.size
|xGr=>xEv none
|xzI=>M2 xgm
|xCY ζ=>xv4 ζ s.heap
|xzJ ζ=>No (hc ζ)
|xCZ=>xCz "size" "end"
|xzK=>.Name y py
|xJG=>Hb hit.typeIs
|xL9=>args_listiter_next _
|xC0=>IG hb
|xlc ζ η θ ι μ=>by obtain⟨z,ζ,η,θ,ι⟩:=μ
|xld=>F8 _
|xzL=>by simpa using hu
|xJH=>Data.fields _
|xq2=>hb _
|xoI ζ=>(ζ).go i
|xmS=>g i j
|xGs ζ=>ζ==items.size
|xJI=>Int.not_lt.1
|xC1=>sub e
|xJJ=>I.base.frzs c
|xle=>H2 c
|xoJ ζ=>Qo ζ ts
|xlf=>aG z
|xC2 ζ=>(GE.mp ζ).2
|xJK=>Nat.lt_min.2
|xzM ζ η θ=>by have ζ:η:=θ;dsimp-zeta only
|xMa ζ=>PyProof.Rows.callWith_kw (e:=ζ)
|xC3 ζ η=>R.map (λ ζ=>η)
|xzN ζ=>by simp [pairs] at ζ
|xJL=>Tf.trans s4
|xJM=>Nat.le_min.2
|xC4=>u1 hr
|xC5 ζ η=>tots (cP ζ η)
|xC6=>EI hb
|xw2 ζ η θ ι=>hC.keep (λ ζ η θ _=>ι)
|xlg=>Ty 8
|xC7=>Ty 272
|xoK=>xiv o
|xmT=>xa1 e
|xzO ζ=>M2 (Δ ζ)
|xw3=>M2 j
|xzP ζ=>xId (xIe ζ)
|xoL=>xfU j
|xzQ ζ=>xEb (xIe ζ)
|xJN=>xjY "other"
|xJO=>xjY "signs"
|xJP=>xjY "block"
|xlh=>xuS i
|xzR=>xEe n
|xzS=>xeH 4
|xmU ζ η=>by show xf1 rfl ζ η
|xC8=>xdW []
|xJQ ζ=>W1 (fs.lookup ζ)
|xq3 ζ η=>⟨rfl,ζ,η⟩
|xC9=>FA xcS
|xzT ζ η=>L.take (ζ+η)
|xq4=>num (b.take 3)
|xoM ζ=>xny ζ.2
|xw4=>os i
|xzU ζ η=>.bl (xft ζ η)
|xgE=>by show xdy 2
|xw5 ζ η θ ι μ=>cxOf ζ η θ ι mg base μ qual
|xq5 ζ η θ ι μ=>xw5 ζ η θ ι μ scope
|xoN=>xEm T
|xDa=>xpy #[] e1
|xq6 ζ=>by show xbb ζ this this
|xli=>xl4 a
|xDb=>xLy Ng
|xtS=>xEu n
|xDc=>xuW (.seq vs.toArray)
|xGt=>xnV "number" "size"
|xw6 ζ η=>BindsTo ζ fd (xgU η)
|xlj=>Rows K mg
|xGu=>by show xIw R0.W.cost
|xDd=>xvP SZ
|xDe=>(xeh).drop t
|xoO=>xhR j
|xw7=>(lcAt S p).1
|xoP ζ=>xqd l5 ζ
|xgF ζ η=>∀x∈ζ,η
|xzV ζ=>xiV (No ζ)
|xzW=>xta b out
|xDf=>xII xy9
|xzX ζ=>Pi (xjc ζ)
|xlk=>xeT T
|xJR=>xk7 "__init__" "Check.__init__"
|xll=>TW T W
|xzY ζ=>g1 _ _ (xa9 ζ)
|xlm=>Qj _ _
|xGv=>fb _ _
|xq7=>xGv Z8 Z8
|xln=>cI κ a b
|xGw=>he LQ s σ H
|xq8 ζ η θ ι=>xdd (xGw ζ η θ) ι
|xlo=>xLu A E s
|xlp=>dj _ _ _ _
|xtT=>hb LQ
|xGx=>.Tuple es
|xtU=>UU lo
|xtV=>dl CX
|xGy=>fnOf name
|xGz=>IsPart vl
|xGA=>IsPart vu
|xGB=>I.lstM hH
|xtW=>ExI K
|xoQ ζ=>ζ≤255
|xtX=>dig n
|xtY=>P9.1
|xJS ζ=>ζ<xs.toList.length
|xtZ=>wpS M
|xt0=>Ds κ
|xJT ζ=>seqEpoch_at ζ rfl
|xMb ζ=>(List.nodup_append.mp ζ).1
|xt1=>C' H2
|xMc=>List.Sublist.count_le _
|xt2=>FO hx
|xGC=>["block"]
|xMd=>Nat.ToInt.mod_congr rfl
|xGD=>hC.off kp
|xGE=>MD.of ht6
|xGF=>Option Os
|xDg ζ η=>NE (some ζ) η
|xt3 ζ η=>by show xaZ (aT ζ η)
|xaw ζ=>λ b hb=>ζ
|xt4=>Υ xcM
|xio ζ=>xdO a ζ
|xip ζ=>xfh a ζ
|xt5=>xEd 64
|xt6=>xuR LF
|xiq ζ=>xlC e ζ
|xGG=>Option xiD
|xt7=>xcp co
|xq9 ζ η=>ζ≠some η
|xGH=>xb1 SZ
|xDh=>xGH xan
|xt8=>h.Ns mainGlobals mg
|xJU ζ=>xr4 ζ "isinstance"
|xDi ζ=>holding [ζ]
|xt9=>putF "blocks" xlH []
|xGI=>.cons rfl
|xJV ζ η=>{cls:=ζ,data:=.fields η}
|xw8 ζ η θ=>aV bh ζ η (aP θ)
|xua=>xhK H'
|xub=>xe0 It
|xuc=>xkt κ
|xud=>Vals xs its
|xue=>aJ Z9
|xir ζ η θ ι=>if ζ=η then θ else ι
|xw9 ζ η=>aU xb8 (xmv ζ η)
|xuf=>W1 xhX
|xug=>cL ps
|xoR=>xi3 (LT->xbR)
|xGJ ζ η θ=>xwj ζ η (wpS_bind θ)
|xGK=>I.kept (t':=s.toks)
|xuh=>xat e n1 n2
|xGL ζ=>xIx ζ p co ck
|xui=>Lt blt kf
|xis ζ=>ζ≠Tb
|xuj=>Fa hi (xIi LU)
|xzZ=>xCF hn
|xDj ζ η θ=>aC (v:=ζ) η θ rfl
|xxa ζ η θ=>xDj (.ref ζ) η θ
|xuk=>xkL σ' H' s'
|xul=>xfO ob
|xum=>hf it Z6
|xun=>xBc TR.cl Tk GT
|xGM=>bM bD Z7 X.list
|xGN=>bM bD Z7 T.list
|xmV ζ=>ζ≤2000
|xbu ζ=>by have:=ζ;lia
|xbL ζ η θ ι=>by show xeU (ζ=η) θ;exact ι
|xz0=>keep b
|xJW=>env.kindOf x
|xz1=>Sem LG
|xoS ζ η θ ι μ=>⟨.int ζ,η,θ,ι,μ⟩
|xz2=>J.go i
|xmW=>VP K a
|xMe=>.ref s1.heap.objs.size
|xJX=>r.append hd
|xJY=>List Keyword
|xz3 ζ=>ζ≠.free
|xz4 ζ=>(ζ).take k
|xJZ=>G9 hlen.symm
|xJ0=>PySem.call f
|xMf=>h'.Ns s.heap.objs.size
|xz5=>tt σ3
|xJ1=>intKind_is _
|xra=>hn _
|xDk=>ExC X.K
|xDl=>n.pin p
|xMg=>Nat.mul_le_mul_right _
|xDm=>this.1
|xGO ζ=>("rest_size",ζ)
|xDn=>[.none]
|xz6 ζ=>ER (a:=ζ)
|xz7=>Mg blt
|xz8=>Mh blt
|xGP=>dbl of
|xDo=>Fg hx
|xJ2=>SM.L9.refl _
|xGQ ζ=>rv.get (i:=ζ)
|xoT=>VQ K a
|xJ3=>s3.trans s4
|xJ4=>ks.map kV
|xJ5=>s0.trans s01
|xz9=>pin Z6
|xJ6=>C'.refl H
|xoU=>hb x
|xDp=>sld R
|xAa ζ=>(ζ,.cell)
|xAb=>vN 184
|xJ7=>s5.trans s6
|xJ8=>A2.map vN
|xDq=>MY.i l9
|xmX=>SL b
|xuo=>xxT 2
|xAc ζ η=>⟨ζ,η,Tl⟩
|xxb=>xc4 s
|xAd=>xaM 126
|xJ9=>methodObj xbN
|xmY=>xAN A
|xGR ζ η=>RL.filter (λ ζ=>η)
|xmZ=>M2 p
|xAe=>(xnt).In
|xxc=>aU (xdr h)
|xDr ζ=>xxc (λ _=>ζ)
|xm0=>xeh t
|xDs=>cutV xs
|xDt=>xaO 272 hm tm
|xDu=>xaO 12 hm tm
|xKa=>xAT LY.length
|xm1=>xdW R
|xDv=>Κ xgK
|xKb=>W1 A.handled
|xhp=>H x
|xKc ζ=>pyNext (.ref ζ)
|xAf ζ η=>xxY ζ η false
|xoV=>kf i
|xfP ζ η θ ι=>by obtain⟨ζ,rfl⟩:∃η,θ:=ι
|xDw=>xkg hb
|xAg=>xA2 key
|xKd=>.bl false
|xm2=>xdv R
|xxd ζ η=>xyi ζ η none
|xGS ζ η=>xiN ζ xs.toList η
|xxe ζ η=>show xkn ζ from η
|xAh=>EY _ 1
|xKe=>xvE hmb.symm
|xup=>xEw v
|xxf=>tailR S.length (xlM S)
|xm3 ζ η=>xgJ ζ (xhs ob η)
|xxg=>ω xgf
|xgG ζ η=>xjW ζ η s
|xAi=>B.take (xnB 2)
|xuq=>xj6 C
|xGT=>xuq "tell"
|xDx=>xv3 ln
|xm4=>RelV x v
|xlq=>by show xa8 (ar (xdD R1 g1))
|xlr ζ=>by show xgp nl ζ
|xm5=>xiX xcu t
|xDy=>xgD X.ex
|xm6=>SP X LQ D
|xm7 ζ η=>xeK ζ η ak
|xAj ζ η=>cR (D:=ζ) (lo:=η)
|xGU=>xAM xeh t
|xur=>xGU s
|xm8=>CodeHd base c Tb
|xAk=>xmM Jaa
|xm9=>xkK H b
|xoW ζ=>ζ++rest
|xna=>MD K H
|xKf=>its.toArray.size*k.toNat
|xnb=>xeF d
|xnc ζ η=>xsA ζ η out ia ib
|xGV ζ η=>xgF ζ (W13.U7 η)
|xnd ζ η=>xGL ζ η wt
|xus=>Ow K H
|xgH ζ η=>(xaA u ζ η)
|xne=>xBg CX k f fd ps sp
|xnf=>TK K mg B D G' CW C0 C1 C2 C3 CK Mc CO C G Ce cM cH cK cT
|xng=>xFe s H _ I h
|xbv ζ=>ζ≤n
|Τ ζ=>by rw [ζ];rfl
|xKg ζ=>wpAny_of_eq ζ ?_
|xxh ζ=>ζ∈X.ex
|xGW ζ=>λ _ _ _ e=>ζ
|xGX ζ=>Q (.bool ζ)
|xGY=>mA name
|xxi ζ=>min ζ n
|xKh=>xxi v.toNat
|xKi ζ η θ=>operate ζ (getItem η θ)
|xjE ζ=>A ζ H'
|xjF ζ=>B ζ H'
|xxj ζ=>PE ζ elt
|xDz ζ=>by show ζ;decide+kernel
|xDA=>xiy="rest"
|xGZ=>by exact Nat.one_pos
|xxk ζ=>b.size-ζ
|xxl=>a.size+b.size
|xG0 ζ=>{s' with heap:=ζ}
|xG1=>pairs r
|xMh=>(Z'.map (·.2)).Perm
|xMi=>hZ.symm.subset hz
|xMj ζ=>Hu.mp (hLp.symm.subset ζ)
|xMk=>Int.ofNat_add_ofNat _
|xrb ζ=>CL ζ xs
|xG2 ζ=>cY ζ X.range
|xrc ζ=>Vr ζ mg
|xDB ζ=>ζ*Z.length
|xKj ζ=>X.A.mark (SC ζ)
|xG3 ζ=>xAL "tuple" ζ
|xG4 ζ=>xjQ "group" ζ
|xrd ζ=>xal ζ te
|xre ζ=>xal ζ tb
|xrf ζ=>xgI a9 ζ
|xDC ζ=>aI SZ ζ rfl
|xDD=>xDC Α
|xoX=>by show xjX hq
|xoY ζ η θ ι=>by show xxV ζ η θ;intro ι
|xjG ζ=>NB X (binaryOp ζ)
|xnh ζ η θ ι μ=>by show xbD ζ η θ ι;intro μ
|xrg ζ=>upd ζ e
|xut ζ η=>by show TD (xei ζ) η
|xG5 ζ=>S.length≤ζ
|xoZ=>by show xaZ (wpS_get ?_)
|xrh ζ=>xx1 ζ t2
|xjH ζ=>M2 (p+ζ)
|xjI ζ=>Q (.int ζ) H
|xjJ ζ=>NE ζ u
|xxm ζ η=>callWith pos ζ first (xvW η)
|xri ζ=>Ν xs ζ
|xrj ζ η=>bitsP ζ++η
|xuu ζ η=>by cases ζ;show xbM t η
|xAl=>(xu0).drop t
|xrk ζ=>xc6 ak ζ
|xuv ζ η θ ι=>by obtain⟨ζ,η,θ,rfl⟩:=ι
|xDE ζ=>xkE ζ X.len
|xrl=>B.take (xb3-2)
|xG6 ζ=>No (r.hd ζ)
|xG7 ζ=>F'.drop (64*ζ)
|xAm=>xG7 xs9
|xjK ζ=>xkM ζ r
|xo0=>by show xab xIq EX
|xxn=>xLG pos []
|xMl=>wpAny_pyIter_range xLJ
|xhq ζ η θ=>xqA C ζ η θ
|xrm=>A'++T
|xuw=>A'++M
|xAn ζ=>⟨LV,iter,ζ,0⟩
|xux=>xAn cs
|xrn ζ=>xwM [] ζ xsE
|xjL ζ=>Mk K ζ f
|xo1=>by show xjt en
|xls=>xwZ b m
|xAo=>g1 _ _ xEM
|xxo=>Y++tail'
|xro ζ=>aG ζ hp
|xrp ζ=>xhh xv9 (xak≠ζ)
|xrq ζ=>dz ζ hg hm
|xrr ζ=>g ζ σ' H2
|xG8 ζ=>xE1 s H ζ I h
|xo2=>xG8 _
|xKk=>Value.ref e
|xKl=>sb.extBut b
|xKm ζ=>eG (hq.keep ζ)
|xKn=>X4.extBut a
|xKo=>X4.extBut b
|xKp=>I.ok.noex b
|xxp=>tb σ
|xxq=>hi LQ
|xxr=>IR hp
|xG9 ζ η=>λ _ _ _ _ _ st ζ=>η
|xKq=>Data.cell v
|xHa=>.inl e
|xHb=>jh I.hok
|xKr=>frs outer
|xAp=>Xl b
|xMm=>args_tuple_getitem _
|xHc=>max 0
|xMn=>ns.map WData.int
|xo3=>VU D
|xo4=>Qb b
|xKs ζ=>.done (.ret ζ)
|xxs=>.cp b
|xxt=>val R
|xDF ζ=>FE (EZ ζ)
|xKt ζ=>(P.map ζ).sum
|xxu=>rlF n
|xAq ζ η=>hJ ζ (ip η)
|xxv ζ η=>⟨ζ,Z5,η⟩
|xxw=>EI o9
|xxx=>He Z9
|xAr ζ η=>lB ζ (ix η)
|xAs ζ η=>iu ζ (fJ η)
|xKu=>hx.same s1
|xxy=>Zj κ
|xxz=>Zl κ
|xDG ζ=>Ik (HA ζ)
|xo5=>a.1
|xHd=>Hh.mp hb
|xMo=>wpAny_pyIter_enum he
|xDH ζ=>UE (Q3 ζ)
|xMp=>by unfold Builtin.Range.rangeFitsLong
|xAt ζ η=>aq ζ (aY η)
|xKv=>u.take k
|xKw=>u.drop k
|xHe=>qm I.hok
|xHf=>pZ I.hok
|xo6=>Nj C
|xKx=>BP.num u
|xKy=>K33.C.Mks K
|xHg=>hB.sm.1
|xKz=>T.take i
|xKA=>fI.at nI
|xKB=>ff.at nf
|xxA=>Gp hs
|xKC=>ok_cinit FI
|xo7=>VR R
|xMq=>S'.drop W.length
|xKD=>K33.C.Mk2 K
|xo8=>VL L
|xxB=>dig 0
|xxC=>eI hb
|xKE=>pb.parts tw
|xxD=>blk F i
|xHh=>["text"]
|xHi=>["bale"]
|xKF=>C'.refl _
|xHj=>CK.Qr hp
|xKG=>K33.Ck.CH K
|xKH=>K33.Ck.Vr K
|xKI=>K33.Ck.Yq K
|xo9=>SL n
|xrs=>vN i
|xpa=>SL p
|xHk=>K'.of hS
|xeG ζ η=>by show ρ e ζ η
|xDI ζ η=>xjR (ζ).toNat η
|xKJ=>le_of_lt xcN
|xlt ζ η θ=>xrR ζ η h' θ
|xxE=>xlD s'
|xMr=>a.toList.Pairwise xbp
|xMs=>b.toList.Pairwise xbp
|xhr ζ η=>xnq ζ b η
|xKK=>xfU X.length
|xuy ζ η=>xfj ζ η rfl
|xpb=>xht q
|xHl=>xuZ b ck1 g1
|xxF=>xr0 vs
|xxG=>xu2 Pp
|xxH=>xb2 []
|xrt ζ=>xiF ζ b xdj
|xDJ ζ=>by show xaT (.inl ζ)
|xxI=>xvc Pp
|xAu=>xiv e
|xMt=>xgW s1.heap.objs.size
|xHm=>W13.MP a
|xpc=>xA5 H
|xDK=>I.freeC x c
|xAv=>xDK e
|xHn=>nomatch e
|xpd=>xau e
|xpe=>J' k
|xpf=>I.cell x c
|xKL=>xLB Prod.fst
|xAw=>x≠"__name__"
|xpg=>EP X LQ σ Q
|xph=>xhc b
|xuz ζ η θ ι=>xkH (bS ζ) η θ (af ι)
|xDL=>xsB xcS I.ok.above
|xKM=>xy2 false
|xpi=>xIu H
|xxJ=>xIu H'
|xHo=>SM.eqv SG.ltI SG.ky
|xpj=>xqt _
|xKN ζ η=>call_meets ζ (xqt η)
|xxK ζ η=>ζ<(η).length
|xDM=>cpy B b
|xpk=>xjd 1
|xDN=>xat e z
|xuA ζ η=>xef rfl ζ η
|xpl=>xqC i
|xpm=>xd8 _
|xAx=>a.size-1
|xDO ζ=>EM (xa9 (EM ζ))
|xxL=>xFV ys
|xpn=>xea b u
|xAy ζ=>⟨#[],ζ⟩
|xDP=>(xkr).take i
|xxM=>xJC ok
|xjM ζ η θ ι=>by have ζ:=η;show TD θ ι
|xpo=>xfB q s
|xuB=>dR I hg hm
|xKO=>xuB boot_range
|xKP=>["_law_j","_law_number"]
|xxN ζ η θ=>xw8 ζ (aP η) θ
|xAz ζ=>ζ="taken"
|xHp=>xuo MM.nd
|xpp=>Np u W T ps
|xHq=>xHc total
|xpq=>sT _ _
|xpr=>Qk _ _
|xDQ=>xuZ b c g1
|xps=>lc S p
|xAA=>xs8 j p
|xAB=>xDM n
|xMu=>a.toList.drop xAx
|xxO=>xzW na nb
|xpt=>xzm H h a
|xru ζ η=>xg3 (field xnr ζ>>=η)
|xKQ ζ=>Io ζ hit.typeIs
|xKR ζ=>Value.float ζ t
|xAC=>by simpa using e
|xKS ζ=>h.objs.size≤ζ
|xpu ζ=>by rw [ζ];decide
|xHr=>IG hj
|xKT ζ=>wpAny_Name ζ hd
|xAD ζ η θ ι=>thn ζ (λ _ η θ=>ι)
|xKU ζ=>ζ<recursionLimit
|xKV ζ=>I1.laid (t':=ζ)
|xlu ζ=>h ζ ER
|xMv ζ=>typeLookup ζ "__getitem__"
|xMw=>if_false_right.mp h
|xrv ζ=>ζ+b.toNat
|xHs=>FG MN
|xrw ζ η θ=>by(rcases ζ with rfl|η|θ)
|xMx=>Nat.not_le_of_lt LU
|xMy=>Int.lt_irrefl a
|xHt=>KG ?_
|xMz=>SortSt.mk' oneType'
|xDR ζ η θ=>jP ζ η (base:=θ)
|xHu=>qk ry
|xHv=>JY hu
|xDS=>["reader","codes"]
|xMA=>X.mg "__builtins__"
|xKW ζ=>ζ≠mainGlobals
|xMB=>decide_eq_decide.2
|xMC=>Ty its.toArray.size
|xAE=>vN ah
|xKX ζ=>NE ζ builtinsNs
|xxP=>PP q nq
|xlv ζ=>NE ζ v
|xKY ζ η=>Pi ((ζ).contains η)
|xHw=>tC xlH
|xni ζ=>by show LE EH ζ
|xfQ ζ η θ=>xc8 ζ _ η θ
|xHx=>xuT XV
|xHy=>xuT Α
|xlw ζ=>∀x∈scope.names,ζ
|xKZ ζ η=>(ζ).app (L9.refl η)
|xDT ζ=>bi (xa9 ζ)
|xHz=>xxZ XV
|xxQ ζ η θ=>ac ζ (xeN η θ)
|xMD=>xu1 s.heap.objs.size
|xME=>υ s.heap.objs.size
|xDU ζ=>xi (xAU ζ)
|xuC ζ η θ ι=>xIk ζ η (xaN θ ι)
|xHA=>S.cw xgS
|xHB=>xuY false fx
|xHC ζ η=>Χ "number" ζ η
|xDV ζ=>xlD (xlE ζ)
|xHD=>bo Α
|xAF=>xdW xx6
|xK0 ζ=>xEk ζ out.toList
|xAG ζ η=>by obtain⟨ζ,η⟩:=h
|xHE=>xpT Uf
|xHF=>xgU xbK
|xMF=>xnO its.toArray.size
|xlx ζ=>xcW ζ o
|xHG=>xEv xdV
|xMG=>(xyw).toList.Pairwise
|xHH=>xbU dm
|xHI ζ η=>xIt ζ η pos.line
|xfR ζ η θ=>⟨_,rfl,ζ,rfl,η,θ⟩
|xHJ=>xLA xBq
|xHK=>xhT ak
|xHL=>xhU xan
|xly ζ=>L6 ζ H p d
|xDW ζ=>xAW (xkD ζ)
|xpv ζ η=>xBD ζ MT η
|xHM=>xc9 xgT
|xHN=>xc9 ak
|xHO=>xog xdb
|xuD ζ=>2^(ζ).toNat
|xAH ζ η=>aU (xmv ζ η)
|xrx ζ η θ=>xLF ζ η θ σ2
|xpw ζ η=>xCl ζ η xy4
|xK1 ζ=>Mj H ζ ts bs
|xpx=>xK1 A
|xAI ζ η=>c5 (E7 ⟨ζ,.inr η⟩)
|xlz ζ=>cst ζ W T
|xry ζ η θ ι=>bX MI ζ η Z7 θ ι .nil
|xuE ζ=>by show xbM t ζ;rfl
|xHP=>xtM xpN
|xxR ζ η θ=>xal (xIo ζ η θ [] pos)
|xxS ζ η θ=>xiv (xIo ζ η θ [] pos)
|xHQ=>Fg (Ft hx)
|xHR=>xq2 Z6
|xHS=>xup fs
|xHT ζ η=>xus ζ (.type η)
|xHU ζ η=>xhq "number" ζ η
|xHV=>kh I.hok eb
|xDX ζ=>xuD (M2 ζ)
|xDY=>Q none
|xK2=>.fields ts
|xMH=>vs.setIfInBounds 1
|xHW ζ=>(Im.mp ζ).1
|xK3 ζ η=>h.DictOf (b9 ζ η)
|xMI=>h'.Ns X.env.locals
|xK4=>AllBare g'
|xrz=>hl i
|xuF ζ η θ ι μ=>by obtain⟨o,ζ,η,θ,ι⟩:=μ
|xK5=>I.ok.cab x
|xrA=>tn i
|xMJ=>letOwnedTupleGo tg
|xK6=>G9 hl.symm
|xrB=>hs i
|xK7=>kitOne X.K
|xK8=>Un.kept hk
|xMK=>X.s₀.heap.get? c
|xHX ζ η=>T.map (λ ζ=>η)
|xHY=>exp rs
|xK9=>spMove C
|xML ζ=>V.str (Str.ofString ζ)
|xLa=>hx.same s0
|xDZ=>.ref u
|xLb ζ η=>(Pc.cp ζ η).size
|xjN=>h k
|xD0=>by simpa using hy
|xD1=>NN sq0
|xuG ζ=>FM ζ hz
|xD2=>FR UK
|xHZ ζ=>(Jl ζ).mp
|xH0 ζ=>ζ=As.length
|xMM=>Nat.le_max_right _
|xH1 ζ=>ζ*RP.length
|xD3=>by simpa using h0
|xMN=>MF (Z'.map (·.2))
|xD4=>kj rfl
|xLc=>Itm.rep r
|xMO ζ=>List.count_le_length (a:=ζ)
|xrC=>eD L
|xrD=>bY e
|xrE=>bV e
|xH2 ζ=>LY.length+ζ
|xH3 ζ=>valueAt ζ k
|xrF=>KT H
|xuH ζ=>spT ζ B
|xD5=>CK.B w
|xuI ζ=>Xf ζ mg
|xLd=>hD.uniq hn
|xLe=>kp.tr Mq
|xrG=>NA _
|xD6=>.ref h
|xMP ζ=>bitsP (W13.Itm.puts ζ)
|xD7=>blk F'
|xrH=>fr _
|xuJ ζ=>Xg ζ mg
|xLf=>K33.C.Zk K
|xLg=>.ref fa
|xrI=>xxT 4
|xH4 ζ=>NE l.most ζ
|xLh=>some v'
|xMQ=>xcm "__classdict__"
|xLi=>xiv iter
|xLj ζ=>by show xaZ (wpS_modify ζ)
|xAJ=>PP l1 n1
|xuK=>PP j hj
|xLk=>I1.fpOk Tl
|xD8=>xaM 114
|xLl=>xAN X.A.in1
|xH5 ζ=>xec "wide" ζ
|xH6=>xcO xoB "take"
|xLm=>xcm "count"
|xrJ=>Q xax
|xH7 ζ η=>decide (ζ∈η)
|xAK=>xfU k
|xrK=>RelV x u
|xjO ζ η θ ι=>xcL ζ η θ ι []
|xrL=>xah 3
|xuL=>xLr 0 lo
|xit ζ η=>Sc ζ η q
|xLn=>puts Pp
|xLo=>K.lookup a
|xH8 ζ=>xj6 ζ "read"
|xrM=>xLs o
|xMR=>xbs "are_of_things"
|xiu ζ η θ=>by show xuQ ζ η hz (I.list θ)
|xLp=>.ret xr8
|xuM ζ=>xkd ζ nx
|xrN=>xhC q
|xrO=>ω s
namespace QQ
open PySem PyProof.Rows
def Cx2 (h:LM)(a:LF)(vs:xkj):Prop:=xyC vs 2\/∃b ob us,vs[2]?=SC b/\xfc a/\xdO b ob/\ob.data=xGa/\6≤us.size/\xyC us 2
def Hq (A:LL)(h:LM):Prop:=xKb\/∃a o vs,A.handled=xbA/\xwh=IO/\xin xnG/\xv8 6/\Cx2 h a vs
def Hq.keep {A:LL}{h h':LM}(q:Hq A h)(k:∀a o vs,xwh=IO->xin xnG->xv8 6->h'.get? a=IO):Hq A h':=by
 rcases q with q|⟨a,o,vs,e,g,d,z,c⟩
 ·show xaT q
 ·refine .inr ⟨a,o,vs,e,k a o vs g d z,d,z,?_⟩;rcases c with c|⟨b,ob,us,e1,n,e2,e3,e4,e5⟩
  ·show xaT c
  ·show xbB ⟨b,ob,us,e1,n,xul us e2 e3 e4,e3,e4,e5⟩
def ke:NE (entryFor table "proto.unchain") Builtin.«proto.unchain»:=entryFor_of_fast (by kernel_rfl)
def pX (hq:Hq A h0)(hk:∀b o,h0.get? b=IO->xaG=IO/\xfK)(he:xfg e oe)(hd:oe.data=xnG)(hz:2<vs.size)
  (h:∀h' o',xea e o'->o'.cls=oe.cls->xA7 e h'->E xf6 xeQ):xeD (raiseNew xf6:Sem α):=by
 show xgY raiseNew (wpAny_handled ?_);rcases hq with q|⟨a,o,us,ea,ga,da,zz,za⟩
 ·show LE q (Ev (EM (wpAny_throw (h s.heap oe he rfl (Heap.SameBut.refl ..)))))
 ·rw [ea];obtain⟨ga,nae⟩:=hk a o ga;have ne:Pi (xcP !=xKk):=by simp [bne,nae]
  show xki (xgo (Pi (xcP !=xKk))) _;rw [EU ne];have fin:xeD (updateField e 2 Tm>>= λ _=>throw xf6):=by
   show xaa (II he hd hz ?_:xg3 (setField xf6 2 Tm));exact wpAny_throw (xkv (HR _ he (Jt (IC hd _))) (Obj.cls_mapFields _ _) (JK ..))
  show xaa (Gf (wpAny_runValue (JZ ke ?_)));show xg3 (field Tm 2>>=_);rcases za with za|⟨b,ob,vb,eb,nb,gb,db,sz,zb⟩
  ·show xhV ga da za ?_;show xth (xEq Value.none);show xjw (EU Z7) (EM xeR);exact fin
  ·show xbD gb nbe (hk b ob gb) (Ev (Gw ga da eb ?_));have n1:τ (xvq b):=rfl;have n2:τ (xyu==xKk):=by simp [nbe]
   have n3:τ (xyu==xcP):=by simp [nb]
   simp only [n1,n2,n3,Hg,JO];show xaa (EM (EM ⟨Code.quiet_builtin _ Z8,JZ ke ?_⟩));show xg3 (field xmc 2>>=_);show xhV gb db zb ?_;show xth (xEq Value.none);show xjw (EU Z7) (EM xeR);exact fin
def eG {prog:LI}(hq:xsO A)
  (h:∀h' e,(∀b o,xaG=IO->xiG=IO)->(∃o,h'.get? e=IO/\o.cls=xEr)->E' xf6 xeQ):
  xl1 (newExc xEr []>>= λ v=>(raiseNew v:Sem α)) R E' s:=by
 show xaa ?_;simp only [newExc,newTuple];show xdu (Ic ?_ (by size_fits)) (xKg (by first|rfl|(simp only [firstArgMember];rfl)));refine Ic ?_ (by size_fits);have k2:∀b o,xaG=IO->xtl (xId (xG3 (xsc ([]:xaI))) (xxU "StopIteration" (#[xpE,.none,.none,.none,.bool false,.none]++ownMembersOf xEr [])))=IO:=
  λ b o e=>xhC xdZ
 refine pX hq (λ b o e=>xbW (k2 b o e)) xfz rfl (by show LE Array.size_append (Ey (show 2<6 by decide) xdk)) λ h' o' ge ce sb=>?_
 ·intro z;show xdF xcS z JB;show xab this (K4.mpr xky)
 ·refine h h' _ (λ b o e=>xKl o xg8 (k2 b o e)) ⟨o',ge,ce⟩;show xdF xcS z JB;show xab this (K4.mpr xky)
def qV {h:LM}(g:h.get? it=IO)(d:xin xnG)(z:vs.size<6)(g':xio o')(d':o'.data=xGa)(z':6≤us.size):a≠it:=by
 rintro rfl;show ρ g g' g';show ρ d d' d';lia
def Tc {items}(hq:xsO A)
  (hit:xIL l i) (hl:xI6 l) (hx:W1 items[i]?)
  (hQ:∀h',xu1 it h'->xDY xeQ):xeD xBN:=by
 show xn7 o ho hc hd hit;obtain⟨ol,hol,_,nl,W8⟩:=hl;show xgY pyNext (IZ (xJG J3 (xKQ J3 entry_listiter_next ?_ xL9)));show xru 0 _;show xhV ho hd rfl ?_;show xth (xvq l);rw [EI (show¬(Pi (xvq l)) from EX)];show xru 1 _;show xhV ho hd rfl ?_;show xg3 (xyT xax _);show xaa (JC hol W8 ?_);simp only [E6,hx];show xaa (IM (Ev (II ho hd Z6 ?_)));have X4:=xIm (h:=s.heap) it;refine xKm (λ a o' us e d' z'=>xKn o' (qV ho hd Z6 e d' z') e) (λ h' e k z9=>?_)
 show xa0 o' ge ce z9 (Ev (xEY (xaU ge ce) ?_));exact EM (hQ _ λ b ob hb e1=>xul (xKo ob hb e1))
def qo {items}(hq:xsO A)
  (hit:s.heap.IsTupleIter it t i) (ht:s.heap.IsTuple t items) (hx:W1 items[i]?)
  (hQ:∀h',xu1 it h'->xDY xeQ):xeD xBN:=by
 show xn7 o ho hc hd hit;obtain⟨ol,hol,_,nl,W8⟩:=ht;show xgY pyNext (IZ (xJG F.slot_tuple_iterator_next (xKQ F.slot_tuple_iterator_next F.entry_tuple_iterator_next ?_ (F.args_tuple_iterator_next_1 _))));show xru 0 _;show xhV ho hd rfl ?_;show xth (xvq t);rw [EI (show¬(Pi (xvq t)) from EX)];show xru 1 _;show xhV ho hd rfl ?_;show xg3 (xyT xfr _);show xaa (JC hol W8 ?_);simp only [E6,hx];show xaa (IM (Ev (II ho hd Z6 ?_)));have X4:=xIm (h:=s.heap) it;refine xKm (λ a o' us e d' z'=>xKn o' (qV ho hd Z6 e d' z') e) (λ h' e k z9=>?_)
 show xa0 o' ge ce z9 (Ev (xEY (xaU ge ce) ?_));exact EM (hQ _ λ b ob hb e1=>xul (xKo ob hb e1))
def OO {x left step:Int}(hq:xsO A)(hit:xBs s.heap x left step)(hleft:left≤0)
  (hQ:∀h',xu1 it h'->xDY xeQ):xeD xBN:=by
 have hT:s.TypeIs xnr "range_iterator":=xqt hit;show xgY pyNext (IZ (Hb hT F.slot_range_iterator_next (Io F.slot_range_iterator_next hT F.entry_range_iterator_next ?_ (F.args_range_iterator_next_1 _))));show xru 0 _;show xhV hit rfl rfl ?_;show xru 1 _;show xhV hit rfl rfl ?_;show xru 2 _;show xhV hit rfl rfl ?_;show xg3 (xgo (left≤0));show xjw (EU hleft) (IM (Ev ?_));refine eG hq λ h' e k z9=>?_
 show xa0 o' ge ce z9 (Ev (xEY (xaU ge ce) ?_));exact EM (hQ _ λ b ob hb e1=>xul e1)
def kM (hq:xsO A)(ht:xBy t items)
  (hQ:∀h',xMD h'->Q items.toList xeQ):xeD (unpackItems xfr items.size none):=by
 have nt:xu7 t:=by obtain⟨o,ho,_⟩:=ht;exact FA (E1 ho)
 show xgY unpackItems ?_;show xgY notIterableAtAll (wpAny_specialOf ht.typeIs slot_tuple_iter.lookup xeR);simp only [Hg,JO];show xaa (Gf (iter_tuple ht (Ev (Gf (draw_tuple nt items.size 0 _ _ (xmy _ xfz) (ht.push _) Z5 (Sc g1 i1 b1))))));rw [show List.take items.size (List.drop 0 items.toList)=items.toList by show LE Hm (EV Z6),EI Z6];have k1:∀b o,xu7 b->xaG=IO->g1.get? b=IO:=λ b o hb e=>b1.extBut b o hb xdZ
 have q1:Hq A g1:=hq.keep λ a o _ e _ _=>k1 a o xC9 e
 have t1:IsTup g1 t items:=(ht.push _).extBut b1.extBut nt;show xaa (Gf (qo q1 (show g1.IsTupleIter _ t _ from i1) (show g1.IsTuple t items from t1) Z6 (PP g2 x2)));simp only [Option.isSome_none,Hg,JO];exact EM (hQ g2 λ b o hb e=>x2 b o hb (k1 b o hb e))
def P8 {x1}(hq:xsO A)(ht:xBy t items)
  (hn:xaJ (assignEach elts env) items.size) (hstar:W1 ((assignEach elts env).findIdx? (·.1)))
  (h:∀h',xMD h'->xvY (assignInOrder ((assignEach elts env).map (·.2)) items.toList) xeQ):
  xeD (assign (.Tuple elts x1 pos) env xfr):=by
 rw [assign_Tuple];show xE5 ?_;unfold unpack;rw [hn,hstar];exact Ev (Gf (kM hq ht h))
noncomputable def exO (cls:LG) (vs:xkj):LO:={cls:=cls,data:=xnG}
def SF (h:LM)(e:LF)(cls:LG)(fp:Ω)(c:LG):Prop:=
 ∃vs,xdO e xzq/\(xbw vs 2 c/\xv8 6)/\((xyC vs 1/\fp=[e])\/
  ∃T oT ts,vs[1]?=SC T/\T≠e/\xdO T oT/\oT.data=xK2/\xyC ts 3/\fp=[e,T])
def SF.here {h:LM}(F:xkN h e fp c):e∈fp:=by
 obtain⟨vs,_,_,⟨_,r⟩|⟨T,oT,ts,_,_,_,_,_,r⟩⟩:=F<;>simp [r]
def SF.rec {h:LM}(F:xkN h e fp c):xfv (∃o vs,xiL=IO/\xin xnG):=by
 obtain⟨vs,g,z,⟨a,r⟩|⟨T,oT,ts,a,ne,gT,dT,zT,r⟩⟩:=F
 ·intro b hb;rw [r,EW] at hb;subst hb;exact xuy vs g
 ·intro b hb;rw [r] at hb;show xix hb hb hb
  ·subst hb;exact xuy vs g
  ·rw [EW] at hb;subst hb;show xav oT ts gT dT
def SF.made {h h':LM}(m:Heap.MadeExcOf h h' e cls args):xkN h' e [e] .none:=by
 obtain⟨t,ht,_⟩:=m.there;exact xfj ht (xcC (by show xnE (xjm 6≤6))) (.inl xj0)
def lu
    (Tz:NE A.frames (env::outer)) (hl:xIG (env::outer)) (hf:NE env.frame L)
    (he:xfg e xzq) (h1:1<vs.size) (h2:xbw vs 2 c/\xv8 6)
    (h:∀h' T,xkN h' e [e,T] c->xu8 T->(∀b o,s.heap.get? b=some o->b≠e->b∉(env::outer).filterMap (·.frame)->h'.get? b=some o)->
      (∀b o,xaG=IO->xfK->∃sl,xyy b o sl)->xhi xeQ):
    xif (do let a<-frameOf env;let pl<-entryPlaceOf L had;let b<-EntryCells.newEntry head a .none (rawInt L) .none pl;setField xf6 1 b) (λ _ s'=>xif (xFn xf6) Q E s') E s:=by
  have ne:e∉(env::outer).filterMap (·.frame):=λ hm=>by
    obtain⟨_,o,ho,hnf⟩:=hl.mem hm
    show ρ he ho ho
    exact hnf vs rfl
  show xdu (wpAny_frameOf_fun Tz hl hf (PP g1 s1)) (wpAny_entryPlaceOf (PP pl Nu))
  unfold EntryCells.newEntry newFields
  show xaa (Ic ?_ (Nu.sizeOk5 _ _ _ _ _))
  have hsz:xE6 g1.objs.size:=s1.1
  have he1:NE (g1.get? e) xzq:=(Δ s1 e ne).trans he
  generalize hO:({cls:=.type "traceback",dict:=none,data:=.fields ([head,.ref L,.none,rawInt L,.none]++xcI pl.isEmpty (List.replicate 6 Value.none) pl).toArray}:LO)=oT
  have e3:∃ts,oT.data=xK2/\3<ts.size:=xaU (by rw [<-hO]) (by simp only [EO,Et,EK,JT];lia)
  have ZQ:τ oT.isFreed:=by rw [<-hO];rfl
  clear hO
  obtain⟨ts,P9,YQ⟩:=e3
  have TC:xfn (g1.push oT) e xzq:=xhC he1
  have UO:xfn (g1.push oT) g1.objs.size oT:=Fj g1 ZQ
  have hTe:g1.objs.size≠e:=Iy (E1 he1)
  refine II TC rfl h1 ?_
  have he3:=HR (Obj.mapFields (·.setIfInBounds 1 (Value.ref g1.objs.size))) TC rfl
  have Y3:=(Gv (g1.push oT) (Obj.mapFields (·.setIfInBounds 1 (Value.ref g1.objs.size))) (IG hTe)).trans UO
  have he3':xfn ((g1.push oT).update e (Obj.mapFields (·.setIfInBounds 1 (Value.ref g1.objs.size)))) e (exO cls (xMH xIy)):=he3
  show xgY setFlight (Gw he3' rfl (x:=.ref g1.objs.size) (by simp [h1]) ?_)
  show ST (EU (xuY (xIy !=Value.none) (by simp))) (II Y3 P9 YQ ?_)
  have keep:∀b o,xfK->g1.get? b=IO->xtl (((g1.push oT).update e (Obj.mapFields (·.setIfInBounds 1 (Value.ref g1.objs.size)))).update g1.objs.size (Obj.mapFields (·.setIfInBounds 3 ((none:Option LF).elim Value.none λ f=>rawInt f))))=IO:=λ b o hb q=>by
    rw [Gv _ _ (Iy (E1 q)),Gv _ _ xC0]
    exact xrN
  refine xcX g1.objs.size ⟨xMH xIy,?_,?_,.inr ⟨g1.objs.size,_,_,?_,hTe,HR _ Y3 (Jt (IC P9 _)),IC P9 _,?_,rfl⟩⟩ (EL hsz.symm) (λ b o q hb hn=>?_) λ b o q hb=>?_
  · show LE (Gv _ _ hTe) he3'
  · rw [Array.getElem?_setIfInBounds_ne (by decide),JL];exact h2
  · simp [h1]
  · simp [YQ]
  · exact xz0 o hb ((Δ s1 b hn).trans q)
  · show xdm sl e' (xbI s1 b o q) sl (xz0 _ hb e')
def DS
  (Tz:NE A.frames (env::outer)) (hl:xIG (env::outer)) (hf:NE env.frame L) (F:xkN s.heap e fp c)
  (h:∀h' T,xkN h' e [e,T] c->xu8 T->(∀b o,s.heap.get? b=some o->b∉fp->b∉(env::outer).filterMap (·.frame)->h'.get? b=some o)->
   (∀b o,xaG=IO->xgD fp->∃sl,xyy b o sl)->(∀b o,xaG=IO->∃o',xea b o')->xhi xeQ):
  xif (noteFrame xf6 env) (λ _ s'=>xif (xFn xf6) Q E s') E s:=by
 obtain⟨vs,he,h2,⟨h1,r⟩|⟨T,oT,ts,h1,ne,gT,dT,zT,r⟩⟩:=F
 ·subst r;unfold noteFrame;simp only [hf];show xhV he rfl h1 ?_;show ST (EI Z9) (lu Tz hl hf he (xHW h1) h2 λ h' T' f1 f2 f3 f4=>h h' T' f1 f2 (λ b o q hb hn=>f3 b o q (xhe (by simp [z])) hn) (λ b o q hb=>f4 b o q (xhe (by simp [z]))) (xit b o))
  by_cases hb:b=e
  ·obtain⟨vs',g',_⟩:=f1;subst hb;exact xa1 g'
  ·show xbE sl e' (f4 b o q hb) (xa1 e')
 ·subst r;unfold noteFrame;simp only [hf];show xhV he rfl h1 ?_;rw [EU (xuY (Value.ref T !=Value.none) (by simp))];show xhV gT dT zT ?_;show xjw (EI (show¬(Pi (Value.none==rawInt L)) from by simp [rawInt])) (II gT dT (xHW zT) ?_);have O3:∀b,xfc T->xtl (s.heap.update T (Obj.mapFields (·.setIfInBounds 3 Value.none)))=xaG:=xaw (Gv _ _ xC0)
  have gT':=HR (Obj.mapFields (·.setIfInBounds 3 Value.none)) gT (Jt (IC dT _));have nT:∀b o,xaG=IO->(∀us,o.data≠ xGa)->xfc T:=λ b o q nf z=>by
   show xbb gT q q;exact nf ts dT
  have sz:xE6 (s.heap.update T (Obj.mapFields (·.setIfInBounds 3 Value.none))).objs.size:=Heap.size_after_update ..;refine lu Tz (hl.of_keeps λ b o q nf=>xee o (xCp b (nT b o q nf) q)) hf (xCp e (IG ne) he) (xHW h1) h2
   λ h' T' f1 f2 f3 f4=>h h' T' f1 (by show WF sz f2 f2) (λ b o q hb hn=>?_) (λ b o q hb=>?_) (xit b o)
  ·have b1:xfK:=xhe (by simp [z])
   have b2:xfc T:=xhe (by simp [z])
   exact f3 b o (xCp b b2 q) b1 hn
  ·have b1:xfK:=xhe (by simp [z])
   have b2:xfc T:=xhe (by simp [z])
   exact f4 b o (xCp b b2 q) b1
  ·by_cases hb:b=e
   ·obtain⟨vs',g',_⟩:=f1;subst hb;exact xa1 g'
   ·by_cases hT:b=T
    ·subst hT;show xbE sl e' (f4 b _ gT' hb) (xa1 e')
    ·show xbE sl e' (f4 b o (xCp b hT q) hb) (xa1 e')
def rL (F:xkN s.heap e [e,T] c)
  (h:∀h',xkN h' e [e,T] c->(∀b o,xaG=IO->xfc T->xiG=IO)->xhi xeQ):xif (xFn xf6) Q E s:=by
 obtain⟨vs,he,h2,⟨h1,r⟩|⟨T',oT,ts,h1,ne,gT,dT,zT,r⟩⟩:=F
 ·cases r
 ·cases r;show xgY setFlight (Gw he rfl h1 ?_);rw [EU (xuY (Value.ref T !=Value.none) (by simp))];have z3:=xHW zT;refine II gT dT z3 (xcX ⟨vs,?_,h2,.inr ⟨T,_,_,h1,ne,HR _ gT (Jt (IC dT _)),IC dT _,by simp [z3],rfl⟩⟩ λ b o q hb=>?_)
  ·show LE (Gv _ _ ne) he
  ·show LE (Gv _ _ xC0) q
universe QQ
namespace L2
open PySem PySem.Spec PyProof.Rows
abbrev Key:=Sum Int Str
def lD:Key->xkt LG
 | .inl k,v=>Value.isInt k v
 | .inr x,v=>Value.isStrOf x v
def Eo (w:LJ):Key->Int
 | .inl k=>hashInt k
 | .inr x=>hashStr w x
theorem bA:∀{k} {v},Pi (lD k v)->(∃i t,k=Sum.inl i/\v=xst i)\/(∃x t,k=Sum.inr x/\v=xCi x)
 | .inl i,v,h=>by
  show xbE t e (Value.isInt_shape h) (.inl (xef i t e))
 | .inr x,v,h=>by
  show xbE t e (Value.isStrOf_shape h) (.inr (xef x t e))
def uF (i)(t):Pi (lD (.inl i) xmu):=by simp [lD,Value.isInt]
def vo (x)(t):Pi (lD (.inr x) (xs7 t)):=by simp [lD,Value.isStrOf]
def Cl (a b):xa2 (Sum.inl a:Key) (Sum.inl b)=(a==b):=by
 by_cases e:a=b
 ·subst e;simp
 ·have h:¬(Sum.inl a:Key)=Sum.inl b:=λ q=>e (Sum.inl.inj q)
  show LE (F7 h) (Ja.mpr e).symm
def Cn (a b):xa2 (Sum.inr a:Key) (Sum.inr b)=xa2 a b:=by
 by_cases e:a=b
 ·subst e;simp
 ·have h:¬(Sum.inr a:Key)=Sum.inr b:=λ q=>e (Sum.inr.inj q)
  rw [F7 h,F7 e]
def A1 (a)(b):τ (xa2 (Sum.inl a:Key) (Sum.inr b)):=F7 (λ q=>nomatch q)
def Be (a)(b):τ (xa2 (Sum.inr a:Key) (Sum.inl b)):=F7 (λ q=>nomatch q)
noncomputable def b9 (prog) (w):PySem.KeyKind prog w Key where
 is:=lD
 hash:=Eo w
 inj:=λ v a b ha hb=>by
  rcases bA ha with⟨i,t,rfl,rfl⟩|⟨x,t,rfl,rfl⟩
  ·rcases bA hb with⟨j,u,rfl,e⟩|⟨y,u,rfl,e⟩
   ·injection e with e1 _;rw [e1]
   ·exact xHn
  ·rcases bA hb with⟨j,u,rfl,e⟩|⟨y,u,rfl,e⟩
   ·exact xHn
   ·injection e with e1 _;rw [e1]
 byValue:=λ k v h=>by
  rcases bA h with⟨i,t,rfl,rfl⟩|⟨x,t,rfl,rfl⟩<;>rfl
 pyHash:=λ hv h=>by
  rcases bA hv with⟨i,t,rfl,rfl⟩|⟨x,t,rfl,rfl⟩
  ·exact wpAny_pyHash_int h
  ·exact wpAny_pyHash_str h
 eqBool:=λ hu hv h=>by
  rcases bA hu with⟨i,t,rfl,rfl⟩|⟨x,t,rfl,rfl⟩
  ·rcases bA hv with⟨j,u,rfl,rfl⟩|⟨y,u,rfl,rfl⟩
   ·show WF Cl h (wpAny_eqBool_int h)
   ·show WF A1 h (SeqAt.EqAt.int_str i t y u _ _ _ _ h)
  ·rcases bA hv with⟨j,u,rfl,rfl⟩|⟨y,u,rfl,rfl⟩
   ·show WF Be h (SeqAt.EqAt.str_int x t j u _ _ _ _ h)
   ·show WF Cn h (wpAny_eqBool_str h)
 «strs»:=λ k x t v h=>by
  rcases bA h with⟨i,u,rfl,e⟩|⟨y,u,rfl,e⟩
  ·exact xHn
  ·injection e with e1 _
   subst e1;cases v<;>rfl
def ow (prog)(w)(i)(t):Pi ((b9 prog w).is (.inl i) xmu):=uF i t
def oV (prog)(w)(x)(t):Pi ((b9 prog w).is (.inr x) (xs7 t)):=vo x t
def RelV:V->Ο LG
 | .non,u=>u=Value.none
 | .bl b,u=>u=Value.bool b
 | .int i,u=>∃t,u=xst i
 | .str x,u=>∃t,u=xCi x
 | .byt b,u=>∃t,u=Value.bytes b t
 | .flt b,u=>∃t,u=xKR b
 | .ref a,u=>u=xcP
 | .ty n,u=>u=Value.type n
abbrev Vals:LT->Ο xaI:=Paired RelV
theorem Vals.length (r:xmz):xCX us.length:=Paired.length r
theorem Vals.get:∀{xs} {us} {i:Nat} {x},xmz->xkW->∃u,Ν us u/\xrK
 |_,_,_,_,.nil,e=>by simp at e
 |_,_,0,_,.cons r _,e=>by simp at e;subst e;exact xa9 r
 |_,_,i+1,x,.cons _ t,e=>by
  show xay u h1 h2 (Vals.get t (by show xAC)) ⟨u,by show xte,h2⟩
theorem Vals.set (r:xrK):∀{xs} {us} i,xmz->Vals (xs.set i x) (us.set i u)
 |_,_,_,.nil=>.nil
 |_,_,0,.cons _ t=>.cons r t
 |_,_,i+1,.cons q t=>.cons q (Vals.set r i t)
def Vals.append (h:xmz)(s:Vals ys ws):Vals (xs++ys) (us++ws):=by
 induction h with
 |nil=>exact s
 |cons r _ ih=>exact xkm r
theorem Vals.take (n)(h:xmz):Vals (xs.take n) (us.take n):=by
 induction h generalizing n with
 |nil=>cases n<;>exact .nil
 |cons r _ ih=>cases n with
  |zero=>show xeE
  |succ n=>exact .cons r (ih n)
theorem Vals.drop:∀{xs} {us} n,xmz->Vals (xs.drop n) (us.drop n)
 |_,_,0,r=>r
 |_,_,_+1,.nil=>.nil
 |_,_,n+1,.cons _ t=>Vals.drop n t
def NO:xca->Ο xH9
 |some v,some u=>xdn
 |none,none=>True
 |_,_=>False
def KV:xqW->Ο (xlA κ LG):=Paired λ(p:κ×V) (q:κ×LG)=>xak=xa5/\RelV xfE xbl
def kV:Key->V
 | .inl i=>xcD
 | .inr x=>xs7
inductive HO where
  |lst (xs:LT)
  |tup (xs:LT)
  |dK (LY:xmw Key)|dT (LY:xmw xnR)
  |set (S:xkt Int) (n:Nat)
  |ins (C dx:LF) (fs:xev)
  |own (x:LF)
  |xd (fs:xev)
  |met (f x:LF)
  |rng (lo hi:Int)
  |frz (o:LO) (u:HO)
  |tbl (ps:xkj)
  |ext (φ:Ο LM)
abbrev Hp:=LF->Option HO
noncomputable def upd (H:Hp) (a:LF) (o:HO):Hp:=λ b=>xir b a IO xb7
def ad {H:Hp}:xtJ a=IO:=by show xaP upd xag
def ai {H:Hp}(h:xfc a):xtJ b=xb7:=by show xaP upd (EI h)
def dZ {H:Hp}{a:LF}{o u:HO}:upd xtJ a u=xwH u:=by
 funext b;unfold upd;split<;>rfl
def aG {H:Hp}(h:XL=IO)(h':xfL u)(d:o≠u):a≠b:=by
 intro e;subst e;show WF h h' (d (Fb h'))
def ae {H:Hp}(h:XL=IO)(h':xcg):a≠b:=by
 intro e;show xbx e h h' h'
section
variable (P:LI)(w:LJ)
def Mb (H:Hp)(h:LM)(a:LF):Ο HO
 | .lst xs=>xnw/\∃its n,xud/\xio xwJ
 | .tup xs=>xnw/\∃its,xud/\IsTup h a its.toArray
 | .dK LY=>xvu/\τ (xpQ a)/\∃vs,xq0/\xK3 P w a vs
 | .dT LY=>xvu/\τ (xpQ a)/\∃xs,
   Paired (λ p q=>xak=xa5/\xcV (Δ q) ((xak).map kV)/\RelV xfE (xbI q)) LY xs/\
   ∃o es ep,xwh=IO/\o.ExactDict/\xin (.dict es ep)/\es.toList=xs.map (entryOfKey (xBu P w))/\(xs.map (·.1)).Nodup
 | .set S n=>h.SetOf (intKind P w) a S n
 | .ins C dx fs=>xp5 dx a/\xb0 fs.length/\dx≠a/\xio (instObj C dx)/\
   ∃mA,h.Ns1 dx mA/\(∀f,NO xBv (mA f))/\xJh (fs.map (·.1))
 | .own _=>∃o,xwh=IO
 | .xd fs=>∃mA,h.Ns1 a mA/\∀f,NO xBv (mA f)
 | .rng lo hi=>∃t u v,xio (xve #[xbq lo,xtd u,xqn v])
 | .frz o u=>xwh=IO/\Mb H h a u
 | .tbl ps=>xio (xJV .none ps)
 | .met f x=>xio (xJ9 xbk)
 | .ext φ=>φ h/\(∃o,xwh=IO)/\∀h1 h2,φ h1->(∀o,h1.get? a=IO->h2.get? a=IO)->φ h2
def NC (H:Hp)(h:LM):Prop:=∀a o,XL=IO->xpt o
universe s
section
variable {P:LI}{w:LJ}{H H':Hp}{h h':LM}{a:LF}{o:HO}
theorem Mb.lt (x:xpt o):a<h.objs.size:=by
 cases o with
 |lst xs=>show xBt e x xcS
 |tup xs=>show xpL p x p.lt
 |dK LY=>show xEH e x;exact xcS
 |dT LY=>show xEH e x;exact xcS
 |set S n=>obtain⟨o,_,_,_,e,_⟩:=x;exact xcS
 |ins C dx fs=>show xFP e x xcS
 |own y=>obtain⟨_,e⟩:=x;exact xcS
 |xd fs=>obtain⟨_,⟨_,_,_,e,_⟩,_⟩:=x;exact xcS
 |rng lo hi=>show xpL e x xcS
 |frz ob u=>obtain⟨e,_⟩:=x;exact xcS
 |tbl ps=>exact E1 (show xio _ from x)
 |met f y=>exact E1 (show xio _ from x)
 |ext φ=>obtain⟨_,⟨_,e⟩,_⟩:=x;exact xcS
def Paired.mapP {l₁:xbH}{l₂:List β}(h:Paired F l₁ l₂)(f:∀a b,F a b->G a b):Paired G l₁ l₂:=by
 induction h with
 |nil=>show xeE
 |cons r _ ih=>exact xkm (f _ _ r)
def Mb.stay (x:xpt o)(k:∀b u,(b=a\/xp5 b a)->xdO b u->xpn)
  (ho:∀b,xp5 b a->NE xde (.own a)) (ht:∀b xs,xcV b xs->xjf xde):xzm H' h' a o:=by
 induction o with
 |lst xs=>show xlc its n r e x;exact⟨z,its,n,r,xmH⟩
 |tup xs=>obtain⟨z,its,r,ob,e,c⟩:=x;exact⟨z,its,r,ob,xmH,c⟩
 |dK LY=>obtain⟨z,y,vs,r,ob,es,ep,e,c⟩:=x;exact⟨z,y,vs,r,ob,es,ep,xmH,c⟩
 |dT LY=>
  obtain⟨z,y,xs,r,ob,es,ep,e,c⟩:=x;exact⟨z,y,xs,Paired.mapP r λ p q z=>⟨xd2,ht _ _ (Δ z),xbI z⟩,ob,es,ep,xmH,c⟩
 |set S n=>obtain⟨ob,es,ep,t,e,c⟩:=x;exact⟨ob,es,ep,t,xmH,c⟩
 |ins C dx fs=>
  obtain⟨d,z,ne,e,mA,⟨od,es,ep,e2,c⟩,r⟩:=x;exact⟨ho _ d,z,ne,xmH,mA,⟨od,es,ep,xmo (.inr d) e2,c⟩,r⟩
 |own y=>show xdm ob e x ob xmH
 |xd fs=>obtain⟨mA,⟨od,es,ep,e,c⟩,r⟩:=x;exact⟨mA,⟨od,es,ep,xmH,c⟩,r⟩
 |rng lo hi=>obtain⟨t,u,v,e⟩:=x;show xav t u v xmH
 |frz ob u ih=>show xdm e q x xmH (ih q)
 |tbl ps=>
  have e:xio (xJV .none ps):=x;show xea a (xJV .none ps);exact k a _ xbF e
 |met f y=>
  have e:xio (xJ9 (.ref y)):=x;show xea a (xJ9 (.ref y));exact k a _ xbF e
 |ext φ=>obtain⟨p,⟨o,e⟩,st⟩:=x;exact⟨xey p λ o q=>xmo xbF q,⟨o,xmH⟩,st⟩
theorem NC.lt (x:xij)(e:XL=IO):a<h.objs.size:=(x a o e).lt
def NC.fresh (x:xij)(e:xKS a):υ a:=by
 cases q:XL with
 |none=>rfl
 |some u=>show xab (Ey (x.lt q) e) xmi
def NC.kept (x:xij)(k:∀b u,xdO b u->xpn):xsY H h':=λ a o e=>
 (x a o e).stay (λ b u _ q=>xfO u q) (λ _ q=>q) xtA
def NC.laid (x:xij)(k:∀b u,xdO b u->xpn)(hp:xKS a)(new:xzm xtJ h' a o):xsY xtJ h':=λ b u e=>by
 have hn:=x.fresh hp;by_cases hb:b=a
 ·show xbx hb ad e e;exact new
 ·show WF xg9 e ((x b u e).stay (λ c v _ q=>k c v q) (λ c q=>by show xiC q hn q) λ c xs q=>by show xiC q hn q)
universe s
def Rd (H:Hp)(a:LF)(u:HO):Prop:=xip u\/∃o,xip xiT
def Rd.ok {P:LI}(r:Rd H a u)(x:xij):xpt u:=by
 rcases r with r|⟨o,r⟩
 ·exact x a u r
 ·obtain⟨_,q⟩:=x a _ r;exact q
def Mut:Ο (Option HO)
 |some (.lst _)=>True
 |some (.dK _)=>True
 |some (.dT _)=>True
 |some (.set _ _)=>True
 |some (.ins _ _ _)=>True
 |some (.ext _)=>True
 |_=>False
section
variable {P:LI}{w:LJ}{H:Hp}{h h':LM}{x e:LF}{o':HO}
def NC.write (ok:xij)(mu:Mut xhp)(he:e=x\/xp5 e x)(k:∀b u,xfK->xdO b u->xpn)(heo:∃u,xea e u)
  (new:xzm (xdU x o') h' x o'):xsY (xdU x o') h':=λ b u q=>by
 have nown:∀c y,xp5 c y->xcp x:=λ c y r z=>by subst z;show WF r mu mu
 have ntup:∀c xs,xcV c xs->xcp x:=λ c xs r z=>by subst z;show WF r mu mu
 by_cases hb:b=x
 ·show xbx hb ad q q;exact new
 ·rw [xg9] at q;by_cases TF:b=e
  ·have q':xp5 b x:=by
    show xcv he
    ·show xab (TF.trans z) hb
    ·show LE TF z
   show ρ q q' q';show xdm v hv heo v (by show LE TF hv)
  ·refine(ok b u q).stay (λ c v hc r=>k c v ?_ r) (λ c r=>by show Re (nown c b r) r) λ c xs r=>by show Re (ntup c xs r) r
   rcases hc with rfl|hc
   ·exact TF
   ·rintro rfl;show xcv he
    ·exact nown c b hc z
    ·show ρ hc z z;exact hb rfl
universe s
structure Un (fs ex:Ω)(H H':Hp)(h h':LM):Prop where
 keep:∀b o,xiL=IO->xcg->xgD fs->xgD ex->xiG=IO
 slot:∀b o,xiL=IO->xcg->b∈fs->xgD ex->∃sl,xyy b o sl
 free:∀b o,xiL=IO->xcg->xgD ex->xi7
 there:∀b o,xiL=IO->xgD ex->∃o',xea b o'
 tups:∀b xs,xcV b xs->xjf xde
 frzs:∀b o u,xfL xiT->NE xde xiT
 tbls:∀b ps,xfL xpZ->∃more,NE xde (.tbl (ps++more))
section
variable {fs fs' ex ex':Ω}{H H1 H2:Hp}{h h1 h2 h':LM}{a x e:LF}{o:HO}
def Un.any (u:Un fs ex H H1 h h1)(q:xdO b ob)(n:xcg)(hx:xgD ex):∃sl,NE (h1.get? b) {ob with slots:=sl}:=by
 by_cases hb:b∈fs
 ·exact u.slot b ob q n hb hx
 ·show xar ob.slots (u.keep b ob q n hb hx)
def Un.kept (k:∀b u,xdO b u->xpn):Un fs ex H H h h':=
 ⟨λ b ob q _ _ _=>xul q,λ b ob q _ _ _=>⟨ob.slots,xul q⟩,λ _ _ _ n _=>n,λ b ob q _=>⟨ob,xul q⟩,xtA,λ _ _ _ q=>q,λ _ ps q=>xAy (by show xbc q)⟩
def Un.refl:Un fs ex H H h h:=Un.kept xtA
def Un.laid (k:∀b u,xdO b u->xpn)(hp:xKS a)(hn:υ a):Un fs ex H xtJ h h' where
 keep:=λ b u q _ _ _=>xfO u q
 slot:=λ b u q _ _ _=>⟨u.slots,xfO u q⟩
 free:=λ b u q n _=>by show Re (xsB (E1 q) hp) n
 there:=λ b u q _=>⟨u,xfO u q⟩
 tups:=λ b xs q=>by show xiC q hn q
 frzs:=λ b u xs q=>by show xiC q hn q
 tbls:=λ b ps q=>xAy (by rw [xlC q hn,q];simp)
def Un.write (mu:Mut xhp)(he:e=x\/xp5 e x)(k:∀b u,xfK->xdO b u->xpn)(heo:∃u,xea e u):Un fs ex H (xdU x o) h h':=by
 have hx:∀b,xcg->xfc x:=λ b n z=>by subst z;show WF n mu mu
 have hb:∀b,xcg->xfK:=λ b n z=>by
  subst z;rcases he with r|r
  ·exact hx b n r
  ·show ρ n r r
 have hm:∀b u,xfL u->¬Mut (some u)->xfc x:=λ b u q nm z=>by subst z;show WF q mu (nm mu)
 refine⟨λ b u q n _ _=>xfO u (xh3 n) q,λ b u q n _ _=>⟨u.slots,xfO u (xh3 n) q⟩,λ b u q n _=>by show Re (hx b n) n,λ b u q _=>?_,
  λ b xs q=>by show Re (hm b _ q (No z)) q,λ b u xs q=>by show Re (hm b _ q (No z)) q,λ b ps q=>xAy (by rw [ai (hm b _ q (No z)),q];simp)⟩
 by_cases TF:b=e
 ·subst TF;exact heo
 ·show xar u (xfO u TF q)
universe s
noncomputable def trk (h:LM) (H:Hp):Ω:=xx2 h.objs.size (λ a=>(XL).isSome)
def hidT (h:LM)(H:Hp):LM:=PySem.W.hideAll h (trk h H)
def uv (h)(H:Hp):(hidT h H).objs.size=h.objs.size:=PySem.W.hideAll_size _ _
def xa (e:xiL=IO)(n:xcg):xtl (hidT h H)=IO:=
 PySem.W.hideAll_get _ e λ hm=>by
  have q:xke xb7:=(Hu.mp hm).2;rw [n] at q;simp at q
def Aa (e:xtl (hidT h H)=IO):xiL=IO/\xcg:=by
 have e':xiL=IO:=PySem.W.of_hideAll (trk h H) e;refine xbW e';cases q:xb7 with
 |none=>rfl
 |some x=>
  have hm:b∈trk h H:=Hu.mpr ⟨Ji.mpr (E1 e'),by simp [q]⟩;have z:W1 (xtl (hidT h H)):=PySem.W.hideAll_none (trk h H) hm;show xjt z
structure Mod (K:Frag)(mg:π)(base:LM):Prop where
 kin:K.In base
 glob:xA4 mg
 blt:∃mb,base.Ns builtinsNs mb/\∀x:Str,xAw->mb x=bootBuiltins x
 nolimit:base.NoLimit
structure Cx where
 prog:LI
 w:LJ
 K:Frag
 mg:π
 base:LM
 A:LL
 N:xae
 s₀:LH
 H₀:Hp
 env:Env
 outer:xeO
 stack:xeO
 ex:Ω
 fn:xkt Str
 calm:Bool
 pn:Wp
 xe:Ρ
def Xh (H:Hp)(a:LF)(c:LG):Prop:=c=.none\/∃b ob us,c=xmc/\xfc a/\xfL (xhs ob b)/\ob.data=xGa/\6≤us.size/\xyC us 2
def Qt (A:LL)(H:Hp):Prop:=xKb\/∃a o vs c,A.handled=xbA/\xip (xhs o a)/\xin xnG/\(xbw vs 2 c/\xv8 6)/\Xh H a c
def frs (l:xeO):Ω:=l.filterMap (·.frame)
abbrev Cx.fs (X:Cx):Ω:=frs X.outer
def Vis (sc:Scope)(x:Str):Prop:=xrZ x .local\/xrZ x .cell\/xrZ x .free
def Loc (sc:Scope)(x:Str):Prop:=xrZ x .local\/xrZ x .cell
def D5 (env:Env)(h:LM)(m:π)(x:Str)(u:LG):Prop:=
 (NE xJW .local/\xjJ (m x))\/((NE xJW .cell\/NE xJW .free)/\∃c,NE (env.cells.lookup x) c/\h.IsCell c (some u))
structure Cx.Ok (X:Cx):Prop where
 mod:Mod X.K X.mg X.base
 kind:xIJ X.env.scope.kind
 glob:X.env.globals=mainGlobals
 blt:X.env.builtins=builtinsNs
 above:xrX X.env.locals
 inj:∀x y c,xcJ->xIa y c->x=y
 has:∀x,(xE4 x .cell\/xE4 x .free)->∃c,xcJ
 cab:∀x c,xsI x->xcJ->xrX c
 hd:Qt X.A X.H₀
 frames:NE X.A.frames X.stack
 stk:X.stack=X.outer\/(X.stack=xzs/\xBn)
 exf:xaY X.ex (xfF/\∀x c,xcJ->xia)
 bs:∀b o,xyr=IO->xiA=IO/\W1 (X.H₀ b)
 bsz:X.base.objs.size≤X.s₀.heap.objs.size
 noex:∀b o,xyr=IO->xDy
 exfs:xaY X.ex xzr
 funs:xLP X.outer
 frf:xaY X.fs (W1 (X.H₀ b))
structure Inv (X:Cx)(LQ:Wp)(σ:List xca)(H:Hp)(s:LH):Prop where
 ok:X.Ok
 os:s.os=X.s₀.os
 bare:AllBare s.gens
 base:Un X.fs X.ex X.H₀ H X.s₀.heap s.heap
 loc:∃m,xIC m/\∀(i:Nat) (x:Str) (v:V),xww->Ν σ xdV->xJi x->∃u,xdn/\D5 X.env s.heap m x u
 cell:∀x c,xcJ->∃v,xJj v
 free:υ X.env.locals
 freeC:∀x c,xcJ->υ c
 pin:xhh xv9 (xfg xak xfE/\υ xak/\xAO xak/\xak∉X.fs/\∀v,(xfE).data≠ xws)
 hok:xw0 H s.heap
 len:xwa X.N.length
section
variable {X:Cx}{LQ:Wp}{σ:List xca}{H H':Hp}{s:LH}{h':LM}
def Cx.Ok.nofr (ok:X.Ok){b:LF}{o:LO}(e:xyr=IO):xzr:=λ hb=>by
 have:=(ok.funs.mem hb).1;show xeG this this
theorem Inv.bs (I:Ps):∀b o,xyr=IO->xaG=IO/\xcg:=λ b o e=>
 ⟨xvm o (xnP b e).1 (xnP b e).2 (I.ok.nofr e) (xKp o e),xrM (xnP b e).1 (xnP b e).2 (xKp o e)⟩
def Inv.bk (I:Ps):∀b o,xyr=IO->xaG=IO:=λ b o e=>(I.bs b o e).1
theorem Inv.mod (I:Ps):Mod X.K X.mg X.base:=I.ok.mod
def Xh.keep {H H':Hp}{c:LG}(h:Xh H a c)(k:∀b o u,xfL xiT->NE xde xiT):Xh H' a c:=by
 rcases h with h|⟨b,ob,us,e,n,g,r⟩
 ·show xaT h
 ·show xbB ⟨b,ob,us,e,n,xmo _ g,r⟩
def Inv.qt (I:Ps):Qt X.A H:=by
 rcases I.ok.hd with q|⟨a,o,vs,c,e,f,d,z,b⟩
 ·show xaT q
 ·show xbB ⟨a,o,vs,c,e,I.base.frzs _ _ _ f,d,z,b.keep I.base.frzs⟩
def Inv.hq (I:Ps):QQ.Hq X.A s.heap:=by
 rcases I.qt with q|⟨a,o,vs,c,e,f,d,z,b⟩
 ·show xaT q
 ·obtain⟨g,_⟩:=xf9 a f;refine .inr ⟨a,o,vs,e,g,d,xhn,?_⟩;rcases b with b|⟨b,ob,us,e1,n,f1,r⟩
  ·show xaT ((xd2).trans (xpM b))
  ·obtain⟨g1,_⟩:=xf9 b f1;show xbB ⟨b,ob,us,(xd2).trans (xpM e1),n,g1,r⟩
def Inv.kIn (I:Ps):X.K.In s.heap:=I.ok.mod.kin.keeps I.bk
theorem Inv.lt (I:Ps):xvd X.env.locals:=let⟨_,hn,_⟩:=I.loc;hn.lt
def Inv.sz (I:Ps):xrX s.heap.objs.size:=Ew I.ok.above (EZ I.lt)
def Inv.nofs (I:Ps){a:LF}(h:xu8 a):a∉X.fs:=λ hb=>by
 show xED o ho hb;show xab (Ey (E1 ho) (Ew I.sz h)) xmi
def Inv.cne (I:Ps):∀x c,xcJ->xAO c:=λ x c e z=>by
 obtain⟨v,o,ho,hd⟩:=xpf e;obtain⟨m,⟨o',es,ep,Vy,hd',_⟩,_⟩:=I.loc;show xbb Vy ho ho;show ρ hd' hd hd
theorem Inv.funs (I:Ps):xIB X.outer:=by
 have all:∀(l:xeO),(xaY (frs l) (b∈X.fs))->xLP l->xIB l:=by
  intro l
  induction l with
  |nil=>intro _ _;trivial
  |cons env r ih=>
   intro hs hl;obtain⟨hk,⟨L,o,hf,hn,ho,hd⟩,hr⟩:=hl;have hL:L∈X.fs:=hs L (by unfold frs;rw [KH,hf];exact ER);show xbE sl e (xvs L ho (I.ok.frf L hL) hL (No (I.ok.exfs L z hL))) ⟨hk,⟨L,_,hf,hn,e,hd⟩,ih (xaw (hs b (by unfold frs;rw [KH,hf];exact xDw))) hr⟩
 exact all X.outer (λ _ hb=>hb) I.ok.funs
theorem Inv.stack (I:Ps):xIB X.stack:=by
 rcases I.ok.stk with e|⟨e,hf⟩
 ·show xdM I.funs
 ·rw [e];obtain⟨m,hn,_⟩:=I.loc;refine .cons (by show xpu I.ok.kind) hf hn ?_ I.funs;exact Heap.get?_none_of_le (xFQ I.ok.above)
def Inv.stkSub (I:Ps):xaY xFo (b∈X.env.locals::X.fs):=xaw (by
 rcases I.ok.stk with e|⟨e,hf⟩
 ·show WF e hb xDw
 ·rw [e] at hb;unfold frs at hb;rw [KH,hf] at hb;exact hb)
def Inv.stkFree (I:Ps):xaY xFo xcg:=xaw (by
 show xix (xGb hb) e hb
 ·show xdM I.free
 ·show xED o ho hb;exact xrM ho (I.ok.frf b hb) (No (I.ok.exfs b z hb)))
def Inv.step {g':xJu}{t':Nat}{d':Drawn}{ch:Ω}(I:Ps)
  (Sx:xaY ch ((xxh b\/xrX b)/\xfF/\(∀x c,xcJ->xia)/\xrp b))
  (keep:∀b o,xfF->xzr->xoz->xaG=IO->xcg->xiG=IO)
  (slot:∀b o,xfF->b∈X.fs->xoz->xaG=IO->xcg->∃sl,xyy b o sl) (free:∀b o,xoz->xaG=IO->xcg->xi7)
  (there:∀b o,xoz->xaG=IO->∃o',xea b o')
  (tups:∀b xs,xcV b xs->xjf xde) (frzs:∀b o u,xfL xiT->NE xde xiT) (tbls:∀b ps,xfL xpZ->∃more,NE xde (.tbl (ps++more)))
  (ns:∀m,xIC m->xMI m) (hok:xw0 H' h') (hg:xK4):
  xIK s h' g' d' t':=by
 have neL:∀b o,xiA=IO->xfF:=λ b o e=>xDL
 have Xn:∀b o,xiA=IO->xDy->xoz:=λ b o e hx hb=>by
  show xcv (Sx b hb).1
  ·exact hx z
  ·show xab (Ey xcS z) xmi
 have cellK:∀x c,xcJ->∀v,xJj v->h'.IsCell c v:=λ x c e v ⟨o,ho,hd⟩=>by
  have Vt:c∉ch:=No (Δ (Sx c z).2 x c e rfl)
  by_cases hc:c∈X.fs
  ·show xbE sl q (slot c o (I.cne x c e) hc Vt ho xAv) (xaU q hd)
  ·exact xer (keep c o (I.cne x c e) hc Vt ho xAv) hd
 refine⟨I.ok,I.os,hg,⟨λ b o e n hb hx=>?_,λ b o e n hb hx=>?_,λ b o e n hx=>?_,λ b o e hx=>?_,λ b xs e=>tups b xs (xys b e),λ b o xs e=>frzs b o xs (xFf o xs e),xcW b ps⟩,?_,xcW x c,?_,xcW x c,xmK,hok,I.len⟩
 ·exact xz0 o (neL b o e) hb (Xn b o e hx) (xvm o e n hb hx) (xrM e n hx)
 ·obtain⟨sl,e1⟩:=xvs b e n hb hx;show xdm sl' e2 (slot b _ (neL b o e) hb (Xn b o e hx) e1 (xrM e n hx)) sl' e2
 ·show xbE o' e1 (xvf o e hx) (free b o' (Xn b o e hx) e1 (xrM e n hx))
 ·show xbE o' e1 (xvf o e hx) (there b o' (Xn b o e hx) e1)
 ·obtain⟨m1,e1⟩:=xyt b e;show xdm m2 e2 (tbls b _ e1) (m1++m2) (by rw [e2,Array.append_assoc])
 ·show xa0 m hn hl I.loc ⟨m,ns m hn,λ i x v e1 e2 e3=>?_⟩;show xa0 u r l (xrz x v e1 e2 e3) (Ψ u r);rcases l with l|⟨k,c,e,z⟩
  ·show xaT l
  ·show xbB ⟨k,c,e,cellK x c e _ z⟩
 ·show xdm v z (xpf e) v (cellK x c e v z)
 ·show xJd m o ho;exact free _ o (No (Δ (Sx _ z) rfl)) ho I.free
 ·obtain⟨v,o,ho,hd⟩:=xpf e;exact free c o (No (Δ (Sx c z).2 x c e rfl)) ho xAv
 ·obtain⟨e,n,ne,nf,d⟩:=xwY;have Vt:xak∉ch:=No (xzf (Sx xak z) p hp rfl)
  exact⟨keep xak xfE ne nf Vt e n,free xak xfE Vt e n,ne,nf,d⟩
def Inv.step0 {g':xJu}{t':Nat}{d':Drawn}{ch:Ω}(I:Ps)
  (Sx:xaY ch ((xxh b\/W1 xiA)/\xfF/\(∀x c,xcJ->xia)/\xrp b))
  (keep:∀b o,xfF->xzr->xoz->xaG=IO->xcg->xiG=IO)
  (slot:∀b o,xfF->b∈X.fs->xoz->xaG=IO->xcg->∃sl,xyy b o sl) (free:∀b o,xoz->xaG=IO->xcg->xi7)
  (there:∀b o,xoz->xaG=IO->∃o',xea b o')
  (tups:∀b xs,xcV b xs->xjf xde) (frzs:∀b o u,xfL xiT->NE xde xiT) (tbls:∀b ps,xfL xpZ->∃more,NE xde (.tbl (ps++more)))
  (ns:∀m,xIC m->xMI m) (hok:xw0 H' h') (hg:xK4):
  xIK s h' g' d' t':=by
 have neL:∀b o,xiA=IO->xfF:=λ b o e=>xDL
 have Xn:∀b o,xiA=IO->xDy->xoz:=λ b o e hx hb=>by
  show xcv (Sx b hb).1
  ·exact hx z
  ·show xeG z z
 have cellK:∀x c,xcJ->∀v,xJj v->h'.IsCell c v:=λ x c e v ⟨o,ho,hd⟩=>by
  have Vt:c∉ch:=No (Δ (Sx c z).2 x c e rfl)
  by_cases hc:c∈X.fs
  ·show xbE sl q (slot c o (I.cne x c e) hc Vt ho xAv) (xaU q hd)
  ·exact xer (keep c o (I.cne x c e) hc Vt ho xAv) hd
 refine⟨I.ok,I.os,hg,⟨λ b o e n hb hx=>?_,λ b o e n hb hx=>?_,λ b o e n hx=>?_,λ b o e hx=>?_,λ b xs e=>tups b xs (xys b e),λ b o xs e=>frzs b o xs (xFf o xs e),xcW b ps⟩,?_,xcW x c,?_,xcW x c,xmK,hok,I.len⟩
 ·exact xz0 o (neL b o e) hb (Xn b o e hx) (xvm o e n hb hx) (xrM e n hx)
 ·obtain⟨sl,e1⟩:=xvs b e n hb hx;show xdm sl' e2 (slot b _ (neL b o e) hb (Xn b o e hx) e1 (xrM e n hx)) sl' e2
 ·show xbE o' e1 (xvf o e hx) (free b o' (Xn b o e hx) e1 (xrM e n hx))
 ·show xbE o' e1 (xvf o e hx) (there b o' (Xn b o e hx) e1)
 ·obtain⟨m1,e1⟩:=xyt b e;show xdm m2 e2 (tbls b _ e1) (m1++m2) (by rw [e2,Array.append_assoc])
 ·show xa0 m hn hl I.loc ⟨m,ns m hn,λ i x v e1 e2 e3=>?_⟩;show xa0 u r l (xrz x v e1 e2 e3) (Ψ u r);rcases l with l|⟨k,c,e,z⟩
  ·show xaT l
  ·show xbB ⟨k,c,e,cellK x c e _ z⟩
 ·show xdm v z (xpf e) v (cellK x c e v z)
 ·show xJd m o ho;exact free _ o (No (Δ (Sx _ z) rfl)) ho I.free
 ·obtain⟨v,o,ho,hd⟩:=xpf e;exact free c o (No (Δ (Sx c z).2 x c e rfl)) ho xAv
 ·obtain⟨e,n,ne,nf,d⟩:=xwY;have Vt:xak∉ch:=No (xzf (Sx xak z) p hp rfl)
  exact⟨keep xak xfE ne nf Vt e n,free xak xfE Vt e n,ne,nf,d⟩
def Inv.un {t':Nat}(I:Ps)(u:Un X.fs [] H H' s.heap h')(hok:xw0 H' h'):xlt H' s t':=by
 obtain⟨m,⟨o,es,ep,ho,r⟩,_⟩:=id I.loc;show xbE sl hL (u.any ho I.free Z6) (I.step (g':=s.gens) (d':=s.drawn) (ch:=[]) (xpU z z) (λ b o _ hb _ e n=>u.keep b o e n hb Z6) (λ b o _ hb _ e n=>u.slot b o e n hb Z6) (λ b o _ e n=>u.free b o e n Z6) (λ b o _ e=>u.there b o e Z6) u.tups u.frzs u.tbls (λ m' hm=>by
  obtain⟨o',es',ep',Vy,r'⟩:=hm;show ρ ho Vy Vy;exact xdE es' ep' hL r') hok I.bare)
def Inv.call {g':xJu}{t':Nat}{d':Drawn}(I:Ps)(u:Un xFo ch H H' s.heap h')(hok:xw0 H' h')(hg:xK4)
  (Sx:xaY ch ((xxh b\/xrX b)/\xfF/\(∀x c,xcJ->xia)/\xrp b)):
  xIK s h' g' d' t':=by
 obtain⟨m,⟨o,es,ep,ho,r⟩,_⟩:=id I.loc;show xbE sl hL (u.any ho I.free (No (Δ (Sx _ z) rfl))) (I.step Sx (λ b o hL hb hc e n=>u.keep b o e n (No ((ET.mp (xGb z)).elim hL hb)) hc) (λ b o _ _ hc e n=>u.any e n hc) (λ b o hc e n=>u.free b o e n hc) (λ b o hc e=>u.there b o e hc) u.tups u.frzs u.tbls (λ m' hm=>by
  obtain⟨o',es',ep',Vy,r'⟩:=hm;show ρ ho Vy Vy;exact xdE es' ep' hL r') hok hg)
def Inv.turned {t':Nat}{it:LF}(I:Ps)(k:∀b o,xfc it->xaG=IO->xiG=IO)(hn:υ it)(hL:xAO it)
  (h1:xxh it\/xrX it) (h2:∀x c,xcJ->xcp it) (h3:xrp it):xlt H s t':=by
 have nit:∀b u,xfL u->xfc it:=λ b u e z=>by show xbb hn e e
 refine I.step (g':=s.gens) (ch:=[it]) xes (λ b o _ _ hc e _=>xfO o (xzJ (by simp [z])) e) (λ b o _ _ hc e _=>xCj (xfO o (xzJ (by simp [z])) e)) (λ _ _ _ _ n=>n)
  (λ b o hc e=>⟨o,xfO o (xzJ (by simp [z])) e⟩) (λ _ _ e=>e) (xGW e) (λ b ps e=>xAy (by show xbc e)) (PP m hm) (xcW b u) I.bare
 ·have e:b=it:=by show xl6
  subst e;show xav h1 hL h2 h3
 ·show xuF es ep ho r hm;exact⟨o,es,ep,xdp o (IG hL) ho,r⟩
 ·refine xvz b u e (λ c v hc q=>k c v ?_ q) (λ _ q=>q) xtA
  show xcv hc
  ·show LE z (nit b u e)
  ·exact nit c _ z
def Inv.tok (I:Ps)(t:Nat):xlD (xII t):=I.un (h':=s.heap) (t':=t) Un.refl I.hok
theorem Inv.kept {t':Nat}(I:Ps)(k:∀b u,xjJ xaG->xpn):xlt H s t':=I.un (Un.kept k) (I.hok.kept k)
theorem Inv.laid {a:LF}{o:HO}{t':Nat}(I:Ps)(k:∀b u,xjJ xaG->xpn)(hp:xu8 a)(new:xv4 xtJ h' a o):
  xlt xtJ s t':=I.un (Un.laid k hp (I.hok.fresh hp)) (I.hok.laid k hp new)
theorem Inv.write {x e:LF}{o:HO}{t':Nat}(I:Ps)(mu:Mut xhp)(he:e=x\/xp5 e x)(k:∀b u,xfK->xjJ xaG->xpn)(heo:∃u,xea e u)
  (new:xv4 (xdU x o) h' x o):xlt (xdU x o) s t':=I.un (Un.write mu he k heo) (I.hok.write mu he k heo new)
def Inv.pins_of {MC:Wp}(I:Ps)(h:xhh MC (xfg xak xfE/\υ xak/\xAO xak/\xak∉X.fs/\∀v,(xfE).data≠ xws)):xqE X σ H s:=
 ⟨I.ok,I.os,I.bare,I.base,I.loc,I.cell,I.free,I.freeC,λ p hp=>xnv hp (No (xvt (xld z))) (h p),I.hok,I.len⟩
def jA {N:xae}(hN:N.Nodup){i j:Nat}(a:xgb N)(b:xfd N x):i=j:=by
 obtain⟨h1,e1⟩:=ED.mp a;show xbE h2 e2 (ED.mp b) ((List.getElem_inj hN).mp (e1.trans e2.symm))
def lJ {M:Model}{A:LL}(I:Ps)(hN:X.N.Nodup)(hi:xww)(hx:xyd x)(r:xdn)
  (h:∀s',xkL xHG H s'->(∃a,xA7 a s'.heap/\(a=X.env.locals\/xIa x a))->xhi s') (hf:xsn (xsI x\/xnQ x)):xif (storeName X.env x u) Q E s:=by
 obtain⟨m,hn,hl⟩:=id I.loc;have V5:τ (xEZ .class||(xEZ .module&&X.env.locals !=X.env.globals)):=by show Τ I.ok.kind
 have hiσ:i<σ.length:=by show LE I.len (xbX hi)
 have cne:=I.cne;have tracked:∀{a} {h'},(∃o,s.heap.get? a=IO/\υ a)->xA7 a h'->xw0 H h':=λ {a h'} ha hs b ob e=>by
  show xxV NS ha (xvz b ob e (λ c w' hc q=>xnq hs c ?_ q) (λ _ q=>q) xtA)
  rintro rfl;rcases hc with rfl|hc
  ·show xjt NS
  ·show ρ NS hc hc
 rcases hx with hk|hk
 ·refine wpAny_storeName_local hk hn (Sc h' hn' hs) V5;obtain⟨oL,_,_,hoL,_⟩:=id hn;refine xcX ⟨I.ok,I.os,I.bare,⟨λ b o e n hb hx=>?_,λ b o e n hb hx=>?_,I.base.free,λ b o e hx=>?_,I.base.tups,I.base.frzs,I.base.tbls⟩,xaU hn' (λ j y v' e1 e2 e3=>?_),xcW y c,I.free,I.freeC,xmK,tracked ⟨oL,hoL,I.free⟩ hs,by simpa using I.len⟩ (xaU hs xbF)
  ·exact xhr hs xDL (xvm o e n hb hx)
  ·show xdm sl e1 (xvs b e n hb hx) sl (xhr hs xDL e1)
  ·show xdm o' e1 (xvf o e hx) o' (xhr hs xDL e1)
  ·by_cases hj:j=i
   ·show xbx hj hi e1 e1;show ρ (Gs hiσ) e2 e2;exact⟨u,r,.inl ⟨hk,Z6⟩⟩
   ·rw [HY xHr] at e2;show xa0 u' r' q (hl j y v' e1 e2 e3) (Ψ u' r');rcases q with⟨k,e⟩|⟨k,c,e,z⟩
    ·refine .inl (xbW k);have:y≠x:=λ e=>hj (jA hN e1 (e▸hi))
     simp [this,e]
    ·show xbB ⟨k,c,e,z.sameBut hs (cne y c e)⟩
  ·show xdm w' z (I.cell y c e) w' (z.sameBut hs (cne y c e))
  ·obtain⟨e,n,ne,nf,d⟩:=xwY;exact⟨xnq hs xak ne e,n,ne,nf,d⟩
 ·have hfn:xsI x:=by
   show xcv hf
   ·exact z
   ·show ρ z hk hk
  obtain⟨c,hc⟩:=I.ok.has x (.inl hk);show xbD w' z (xpf hc) (wpAny_storeName_cell I.ok.kind hk hc z (Sc h' Yd hs));show xa0 oc O4 hocd (id z) (h xeQ ⟨I.ok,I.os,I.bare,⟨λ b o e n hb hx=>?_,λ b o e n hb hx=>?_,I.base.free,λ b o e hx=>?_,I.base.tups,I.base.frzs,I.base.tbls⟩,⟨m,hn.sameBut hs (IG (cne x c hc)),λ j y v' e1 e2 e3=>?_⟩,xcW y c',I.free,I.freeC,xmK,tracked ⟨oc,O4,xDK hc⟩ hs,by simpa using I.len⟩ ⟨c,hs,.inr hc⟩)
  ·exact xhr hs (xsB xcS (xK5 c hfn hc)) (xvm o e n hb hx)
  ·show xdm sl e1 (xvs b e n hb hx) sl (xhr hs (xsB xcS (xK5 c hfn hc)) e1)
  ·show xdm o' e1 (xvf o e hx) o' (xhr hs (xsB xcS (xK5 c hfn hc)) e1)
  ·by_cases hj:j=i
   ·show xbx hj hi e1 e1;show ρ (Gs hiσ) e2 e2;exact⟨u,r,.inr ⟨.inl hk,c,hc,Yd⟩⟩
   ·rw [HY xHr] at e2;show xa0 u' r' q (hl j y v' e1 e2 e3) (Ψ u' r');rcases q with q|⟨k,c',e,z'⟩
    ·show xaT q
    ·refine .inr ⟨k,c',e,z'.sameBut hs ?_⟩;rintro rfl;exact hj (jA hN e1 (I.ok.inj _ _ _ e hc▸hi))
  ·by_cases hcc:c'=c
   ·subst hcc;exact xa1 Yd
   ·show xdm w2 z2 (I.cell y c' e) w2 (z2.sameBut hs hcc)
  ·obtain⟨e,n,ne,nf,d⟩:=xwY;refine⟨xnq hs xak ?_ e,n,ne,nf,d⟩;intro q;rw [q,O4] at e;have q':oc=xfE:=Fb e;exact d w' (by show xaC q' hocd)
def gP {M:Model}{A:LL}(I:Ps)(hN:X.N.Nodup)(hi:xww)(hx:xyd x)(r:xdn)
  (h:∀s',xkL xHG H s'->xhi s') (hf:xsn (xsI x\/xnQ x)):xif (storeName X.env x u) Q E s:=
 lJ I hN hi hx r (λ s' I' _=>h s' I') hf
def Inv.call' {s':LH}{ch:Ω}(I:Ps)(ho:s'.os=s.os)(u:Un xFo ch H H' s.heap s'.heap)(hok:xw0 H' s'.heap)(hg:xye)
  (Sx:xaY ch ((xxh b\/xrX b)/\xfF/\(∀x c,xcJ->xia)/\xrp b)):xi8:=by
 obtain⟨h',g',d',t',o'⟩:=s';have e:o'=s.os:=ho;subst e;exact I.call (g':=g') u hok hg Sx
universe s
abbrev XK:=LG->xe0 xhy
abbrev St:=List xca
abbrev VK:=xe0 V
abbrev TE:=St->Hp->xe3
abbrev TT:=St->Hp->Ο (xwx)
abbrev TA:=St->Hp->Ο (xe0 LT)
structure Ends where
 nx:xbR
 rt:VK
 bk:xbR:=xnk
 ct:xbR:=xnk
abbrev TS:=Ends->xbR
inductive EP (X:Cx) (LQ:Wp) (σ:St) (Q:VK) (u:LG) (s':LH):Prop
 |mk (v:V) (H':Hp) (h0:xi8) (h1:xdn) (h2:xbf v):xpg u s'
inductive TP (X:Cx) (LQ:Wp) (σ:St) (Q:xwx) (b:Bool) (s':LH):Prop
 |mk (H':Hp) (h0:xi8) (h1:xbf b):TP X LQ σ Q b s'
inductive AP (X:Cx) (LQ:Wp) (σ:St) (Q:xe0 LT) (us:xaI) (s':LH):Prop
 |mk (vs:LT) (H':Hp) (h0:xi8) (h1:xxF) (h2:xbf vs):AP X LQ σ Q us s'
def SP (X:Cx)(LQ:Wp)(D:Ends)(f:Flow)(s':LH):Prop:=
 match f with
 | .next=>∃σ' H',xuk/\D.nx σ' H'
 | .brk=>∃σ' H',xuk/\D.bk σ' H'
 | .cont=>∃σ' H',xuk/\D.ct σ' H'
 | .ret u=>∃v σ' H',xuk/\xdn/\D.rt v H'
def PE (X:Cx)(e:LN)(t:TE):Prop:=
 ∀(LQ:Wp) (s:LH) (σ:St) (H:Hp) Q,Ps->xdo Q->xkC xAu X Q s
def PT (X:Cx)(e:LN)(t:TT):Prop:=
 ∀(LQ:Wp) (s:LH) (σ:St) (H:Hp) Q,Ps->xdo Q->xgG (isTrue e X.env xAu) (TP X LQ σ Q)
def PW (X:Cx)(e:LN)(t:TT):Prop:=
 ∀(whole:xz1) (LQ:Wp) (s:LH) (σ:St) (H:Hp) (Q:xwx),Ps->xdo Q->xgG (isTrue e X.env whole) (TP X LQ σ Q)
def PW.pt {X:Cx}{t:TT}(h:PW X e t):xh5 e t:=xcX
def PA (X:Cx)(es:xl8)(t:TA):Prop:=
 ∀(pos:Pos) (LQ:Wp) (s:LH) (σ:St) H Q,Ps->xdo Q->xgG (spliced (xvW es)) (AP X LQ σ Q)
def PS (X:Cx)(st:LP)(t:TS):Prop:=
 ∀(LQ:Wp) (s:LH) (σ:St) H D,Ps->t D σ H->xgG (exec st X.env) xm6
def PSs (X:Cx)(st:xqe)(t:TS):Prop:=
 ∀(LQ:Wp) (s:LH) (σ:St) H D,Ps->t D σ H->xgG (execs st X.env) xm6
def thn {Q Q':xfw α}(h:xif t Q E s)(hQ:∀a s,Q a s->Q' a s):xif t Q' E s:=xcw h hQ x x
section
variable {X:Cx}
inductive Nk (i:Nat) (σ:St) (H:Hp) (Q:VK):Prop
 |mk (v:_) (h0:Ν σ xdV) (h1:Q v H):Nk i σ H Q
def tC (v:V):TE:=λ _ H Q=>Q v H
def Bo {i:Nat}{pos:Pos}(hN:xww)(hv:xJi x)(hd:xdw (x==xdQ))(OW:xdw (x==xMQ)):xal xsT (Nk i):=by
 intro LQ s σ H Q I h;obtain⟨v,e,h⟩:=h;obtain⟨m,hn,hl⟩:=I.loc;obtain⟨u,r,l⟩:=xrz x v hN e hv;have fin:xpg u s:=⟨v,H,I,r,h⟩;rcases l with⟨hk,hm⟩|⟨hk,c,hc,Oa⟩
 ·exact xKT (wpAny_loadName_local I.ok.kind hk hn hm fin)
 ·rcases hk with hk|hk
  ·exact xKT (wpAny_loadName_cell I.ok.kind hk hc Oa fin)
  ·exact xKT (wpAny_loadName_free I.ok.kind hk hc Oa fin OW)
def ak {i j pos}:xtu (xCk xcD pos) xcD:=λ _ _ _ H _ I h=>wpAny_Constant_int ⟨xcD,H,xek,xa4,h⟩
def dm {b j pos}:xtu (xCk (.bool b) pos) (.bl b):=λ _ _ _ H _ I h=>Constant_bool (xg0 b H I h)
def dO {j pos}:xtu (xCk .none pos) .non:=λ _ _ _ H _ I h=>Constant_none (xby .non H I h)
def eM {x j pos}:xtu (xCk xs7 pos) xs7:=λ _ _ _ H _ I h=>Calls.Constant_str ⟨xs7,H,xek,xa4,h⟩
def Gl (X:Cx)(x:Str):Prop:=xE4 x .globalImplicit
def dz {E:Ρ}{LQ:Wp}{σ:St}(I:Ps)(hg:xe8)(hm:xjJ xiO)(h:Q u s)
  (hd:xdw (x==xdQ)):xjU (xiv xsT) Q E s:=
 xLE hg (Calls.loadGlobal_global (by show LE I.ok.glob xID) hm h) hd
def dR {E:Ρ}{LQ:Wp}{σ:St}{pos:Pos}(I:Ps)(hg:xe8)(hm:xnA x)(hv:xyc x u)(h:Q u s)
  (hn:xuP xAw) (hd:xdw (x==xdQ)):xjU (xiv xsT) Q E s:=by
 show xay mb h1 h2 I.mod.blt (xLE hg (Calls.loadGlobal_builtin (by show LE I.ok.glob xID) hm (by show LE I.ok.blt (h1.keeps I.bk)) ((h2 x hn).trans hv) h) hd)
def aC (hg:xe8)(hm:xjJ xiO)(r:xdn)(hd:xdw (x==xdQ)):xtu xsT v:=
 λ _ _ _ H _ I h=>xrq I ⟨v,H,I,r,h⟩ hd
def jg {pos:Pos}(hg:xe8)(hm:xnA x)(hv:xyc x u)(r:xdn)(hn:xuP xAw)(hd:xdw (x==xdQ)):xtu xsT v:=
 λ _ _ _ H _ I h=>xuB hv ⟨v,H,I,r,h⟩ hn hd
variable {a b:LN}{ta tb:TE}{pos:Pos}
def PC (X:Cx)(op:CmpOp)(a b:LN)(t:TE):Prop:=
 ∀(LQ:Wp) (s:LH) (σ:St) (H:Hp) Q,Ps->xdo Q->
  xgG (xiv a) (λ v s₁=>xjW (xiv b) (λ u s₂=>xkC (compareOp op v u) X Q s₂) s₁)
def qi (b)(h:op≠ .In)(h2:op≠ .NotIn):xBd op b:=by
 have e1:τ (op==CmpOp.In):=by cases op<;>first|rfl|show xab rfl h
 have e2:τ (op==CmpOp.NotIn):=by cases op<;>first|rfl|show xab rfl h2
 cases b
 case Set l k _=>show τ (k==0&&(op== .In||op== .NotIn)&&l.all (constantsAlone 8));rw [e1,e2,Bool.or_self,Bool.and_false,Lz]
 all_goals rfl
def DU (ta:TE):TE:=λ σ H Q=>xgy λ x H1=>xuX (! xa2 x .non) H1
def RelV.none_iff (r:xm4):(xEq v)=xa2 x .non:=by
 cases x with
 |non=>cases r;rfl
 |bl _=>cases r;rfl
 |int _=>show xuE r
 |str _=>show xuE r
 |byt _=>show xuE r
 |flt _=>show xuE r
 |ref _=>cases r;rfl
 |ty _=>cases r;rfl
def y6 {j pos'}(ha:xli):PC X .IsNot a (xCk .none pos') (DU ta):=by
 intro LQ s σ H Q I h;show xgl (xdd xo2 v) x;exact Constant_none (isnot_none_gen ⟨.bl _,H1,I1,by show Τ r1.none_iff,q1⟩)
inductive tB_p (Q:xwx) (x:V) (H1:Hp):Prop
 |mk (c:_) (h0:x=.bl c) (h1:Q c H1):tB_p Q x H1
def tB (t:TE):TT:=λ σ H Q=>xdo λ x H1=>tB_p Q x H1
def rJ {op:CmpOp}(h:PC X op a b t)(h1:xBd op b:=by first|exact qi _ Z9 Z9|rfl):xh5 (xGc [op] [b] pos) (tB t):=by
 intro LQ s σ H Q I hw;show xgl (wpAny_isTrue_Compare1 (xc7 (h LQ s σ H _ I hw) v s1 h1 (xc7 h1 u s2 h2 (xgP h2 c s3))) h1) x;show xmR d q q1 r1;exact Ig ⟨H1,I1,q⟩
def bo {e:LN}(h:xal e t)(he:xpO (∀whole,isTrue e X.env whole=(do let v<-whole;standAt e.pos;xDi v (truthy v)))):xh5 e (tB t):=by
  intro LQ s σ H Q I hw
  show xgl (isTrue_plain (xdd (h LQ s σ H _ I hw) v) (he _)) x
  show xmR d q q1 r1
  exact Ig ⟨H1,I1,q⟩
variable {tA tB':TT}{rest:xl8}
def DW (t u:TT):TT:=λ σ H Q=>xdo λ c H1=>xbZ c (u σ H1 Q) (Q false H1)
def tOr (t u:TT):TT:=λ σ H Q=>xdo λ c H1=>xbZ c (xwS H1) (u σ H1 Q)
def Eh (t:TT):TT:=λ σ H Q=>xdo λ c H1=>Q (! c) H1
def fJ (ha:xh5 a tA):PW X (xpV .And xcj) tA:=by
 intro wh LQ s σ H Q I h;refine isTrue_and (xc7 (xG8 Q) c s1 e ?_);cases c with
 |true=>exact isTrue_and_nil e
 |false=>exact e
def ix (ha:xh5 a tA):PW X (xpV .Or xcj) tA:=by
 intro wh LQ s σ H Q I h;refine isTrue_or (xc7 (xG8 Q) c s1 e ?_);cases c with
 |false=>exact isTrue_or_nil e
 |true=>exact e
def iu (ha:xh5 a tA)(hb:PW X (xpV .And (b::rest)) tB'):PW X (xpV .And (a::b::rest)) (DW tA tB'):=by
 intro wh LQ s σ H Q I h;show xfo (isTrue_and (xdd xo2 c)) H1 I1 q1 z9;cases c with
 |true=>exact hb wh LQ s1 σ H1 Q I1 q1
 |false=>exact⟨H1,I1,q1⟩
def lB (ha:xh5 a tA)(hb:PW X (xpV .Or (b::rest)) tB'):PW X (xpV .Or (a::b::rest)) (tOr tA tB'):=by
 intro wh LQ s σ H Q I h;show xfo (isTrue_or (xdd xo2 c)) H1 I1 q1 z9;cases c with
 |true=>exact⟨H1,I1,q1⟩
 |false=>exact hb wh LQ s1 σ H1 Q I1 q1
def bO (ha:xh5 a tA):xh5 (.UnaryOp .Not a pos) (Eh tA):=by
 intro LQ s σ H Q I h;exact isTrue_not (xc7 (xG8 (λ c H1=>Q (! c) H1)) c s1 z9 (by show xay H1 I1 q1 z9 ⟨H1,I1,q1⟩))
inductive T1 (tb:TE) (σ:St) (Q:VK) (x:V) (H1:Hp):Prop
 |mk (c:_) (h0:x=.bl c) (h1:xbZ c (xxp H1 Q) (xuX false H1)):T1 tb σ Q x H1
def Al (ta tb:TE):TE:=λ σ H Q=>xgy λ x H1=>T1 tb σ Q x H1
inductive TX (Q:VK) (x:V) (H1:Hp):Prop
 |mk (c:_) (h0:x=.bl c) (h1:xuX (! c) H1):TX Q x H1
def Dv (ta:TE):TE:=λ σ H Q=>xgy λ x H1=>TX Q x H1
def ip {op}{t:TE}(h:xal a t):xal (xpV op xcj) t:=λ LQ s σ H Q I hw=>BoolOp_one (h LQ s σ H Q I hw)
def hJ (ha:xli)(hb:xre (xpV .And (b::rest))):xal (xpV .And (a::b::rest)) (Al ta tb):=by
 intro LQ s σ H Q I h;show xgl (BoolOp_and (xdd xo2 v)) x;show xmR c q1 q1 r1;refine Ig ?_;cases c with
 |true=>exact xtT s1 σ H1 Q I1 q1
 |false=>exact xg0 false H1 I1 q1
def Cb (ha:xli):xal (.UnaryOp .Not a pos) (Dv ta):=by
 intro LQ s σ H Q I h;show xgl (UnaryOp_ (xdd xo2 v)) x;show xmR c q1 q1 r1;exact not_of (Ig (xg0 (! c) H1 I1 q1))
def tIf (t:TT)(ta tb:TE):TE:=λ σ H Q=>xdo λ c H1=>xbZ c (ta σ H1 Q) (xxp H1 Q)
def j7 {c:LN}(hc:xh5 c tA)(ha:xli)(hb:xre b):xal (.IfExp c a b pos) (tIf tA ta tb):=by
 intro LQ s σ H Q I h;show xfo (wpAny_IfExp (xdd (hc LQ s σ H _ I h) d)) H1 I1 q1 z9;cases d with
 |true=>exact xE1 s1 H1 Q I1 q1
 |false=>exact xtT s1 σ H1 Q I1 q1
universe s
def K' (K:Frag)(H:Hp)(a:LF)(xs:LT):Prop:=
 Rd H a xv2\/
  ∃(o:LO) (its:xkj) (n:Nat),xLo=IO/\o.cls=xvj/\W1 o.dict/\xin (.seq its n)/\xc2 its.size/\Vals xs its.toList
def MD (K:Frag)(H:Hp)(a:LF)(xs:LT):Prop:=
 Rd H a (.tup xs)\/
  ∃(o:LO) (its:xkj) (n:Nat),xLo=IO/\o.cls=xBl/\xin (.seq its n)/\xc2 its.size/\Vals xs its.toList
noncomputable def Ep:LG->xca
 | .none=>some .non
 | .bool b=>some (.bl b)
 | .int i _=>xdR i
 | .str x _=>some xs7
 | .bytes b _=>some (.byt b)
 | .float b _=>some (.flt b)
 | .ref a=>xbA
 | .type n=>some (.ty n)
 |_=>none
def RelV.abs (r:xrK):NE (Ep u) x:=by
 cases x with
 |non=>cases r;rfl
 |bl _=>cases r;rfl
 |int _=>show xuE r
 |str _=>show xuE r
 |byt _=>show xuE r
 |flt _=>show xuE r
 |ref _=>cases r;rfl
 |ty _=>cases r;rfl
def RelV.inj (r:xrK)(q:xh8):x=y:=Fb (r.abs.symm.trans q.abs)
theorem Vals.inj (h:xmz)(g:xr0 ys):xs=ys:=by
 induction h generalizing ys with
 |nil=>cases g;rfl
 |cons r _ ih=>cases g with
  |cons r' t'=>rw [r.inj r',ih t']
section
variable {X:Cx}{LQ:Wp}{σ:St}{H:Hp}{s:LH}{a:LF}{xs ys:LT}
def K'.of {K:Frag}(h:XL=xdg):xgC:=.inl (.inl h)
def MD.of {K:Frag}(h:xjf XL):xna a xs:=.inl (.inl h)
def Inv.list (I:Ps)(h:xeV X.K a xs):∃its:xaI,xud/\PlainL s.heap a its.toArray/\xnw:=by
 rcases h with h|⟨o,its,n,hk,hc,hd,hs,hz,r⟩
 ·show xlc its n r e (h.ok I.hok);show xav its r (xgB _ n e rfl rfl) z
 ·refine⟨its.toList,r,⟨o,n,I.kIn a o hk,hc,hd,by simpa using hs⟩,?_⟩;have e:=r.length;simp only [FN] at e;exact G9 e hz
def Inv.tuple (I:Ps)(h:MD X.K H a xs):∃its:xaI,xud/\xBy a its.toArray/\xnw:=by
 rcases h with h|⟨o,its,n,hk,hc,hs,hz,r⟩
 ·obtain⟨z,its,r,p⟩:=h.ok I.hok;show xav its r p z
 ·refine⟨its.toList,r,⟨o,I.kIn a o hk,hc,n,by simpa using hs⟩,?_⟩;have e:=r.length;simp only [FN] at e;exact G9 e hz
def Inv.list_inj (I:Ps)(h:xeV X.K a xs)(h':xtz a ys):xs=ys:=by
 obtain⟨its,r,⟨o,n,e,_,_,d⟩,_⟩:=I.list h;obtain⟨its',r',⟨o',n',e',_,_,d'⟩,_⟩:=I.list h';show xeG e' e';rw [d] at d';injection d' with d1 _
 show xbL its its' (by simpa using congrArg Array.toList d1) (r.inj r')
universe s
noncomputable abbrev Cx.wish (X:Cx) (E:Ρ):Cx:={X with xe:=E}
noncomputable abbrev Cx.nox (X:Cx):Cx:=X.wish xnk
theorem Cx.Ok.wish {X:Cx}(ok:X.Ok)(E:Ρ):(xB6).Ok:=
 ⟨ok.mod,ok.kind,ok.glob,ok.blt,ok.above,ok.inj,ok.has,ok.cab,ok.hd,ok.frames,ok.stk,ok.exf,ok.bs,ok.bsz,ok.noex,ok.exfs,ok.funs,ok.frf⟩
def Cx.Ok.unwish {X:Cx}{E:Ρ}(ok:(xB6).Ok):X.Ok:=
 ⟨ok.mod,ok.kind,ok.glob,ok.blt,ok.above,ok.inj,ok.has,ok.cab,ok.hd,ok.frames,ok.stk,ok.exf,ok.bs,ok.bsz,ok.noex,ok.exfs,ok.funs,ok.frf⟩
section
variable {X:Cx}{LQ:Wp}{σ:St}{H:Hp}{s:LH}{E:Ρ}
theorem Inv.wish (I:Ps)(E:Ρ):xrQ xB6 H s:=⟨I.ok.wish E,I.os,I.bare,I.base,I.loc,I.cell,I.free,I.freeC,I.pin,I.hok,I.len⟩
theorem Inv.unwish (I:xrQ xB6 H s):Ps:=⟨I.ok.unwish,I.os,I.bare,I.base,I.loc,I.cell,I.free,I.freeC,I.pin,I.hok,I.len⟩
theorem SP.unwish {D:Ends}{f:Flow}{s':LH}(h:SP xB6 LQ D f s'):xm6 f s':=by
 cases f with
 |next=>show xgX σ' H' I q;show xav σ' H' I.unwish q
 |brk=>show xgX σ' H' I q;show xav σ' H' I.unwish q
 |cont=>show xgX σ' H' I q;show xav σ' H' I.unwish q
 |ret u=>obtain⟨v,σ',H',I,r,q⟩:=h;exact⟨v,σ',H',I.unwish,r,q⟩
theorem PSs.nox {st:xqe}(h:PSs X.nox st t):xgh st t:=λ LQ s σ H D I hw=>
 xcw (h LQ s σ H D (I.wish _) hw) (xEz q.unwish) z xse
universe s
section
variable {X:Cx}{st:LP}{rest:xqe}{t u:TS}{e:LN}{te:TE}{pos:Pos}
def Dl:TS:=λ D σ H=>xpc
def C7 (t u:TS):TS:=λ D σ H=>t {D with nx:=u D} σ H
def aA:xgh [] Dl:=λ _ _ σ H _ I h=>Jn ⟨σ,H,I,h⟩
def ac (h1:xh1 st t)(h2:xgh rest u):xgh (st::rest) (C7 t u):=by
 intro LQ s σ H D I h;refine wpAny_execs_cons (xc7 (h1 LQ s σ H {D with nx:=u D} I h) f s1 q ?_);cases f with
 |next=>
  obtain⟨σ',H',I',q⟩:=q;exact h2 LQ s1 σ' H' D I' q
 |ret v=>exact q
 |brk=>exact q
 |cont=>exact q
def af (h1:xh1 st t):xgh [st] t:=by
 intro LQ s σ H D I h;refine wpAny_execs_cons (xc7 (h1 LQ s σ H D I h) f s1 q ?_);cases f with
 |next=>exact Jn q
 |ret v=>exact q
 |brk=>exact q
 |cont=>exact q
def Cy:TS:=λ D σ H=>D.bk σ H
def oW:xh1 (.Break pos) Cy:=λ _ _ σ H _ I h=>wpAny_Break ⟨σ,H,I,h⟩
def Inv.quiet {LQ:Wp}{σ:St}{H:Hp}(I:Ps):τ (interactive X.env):=by simp [interactive,I.ok.kind]
def DB (te:TE):TS:=λ D σ H=>xfI λ _ H1=>xA5 H1
def aB (he:xrd e)(hs:Μ (xHI e none=xCe)):xh1 (.Expr e pos) (DB te):=by
 intro LQ s σ H D I h;exact wpAny_Expr_any (xc7 (xGw _ I h) v s1 z9 (by show xn4 x;show xav σ H1 I1 q1)) I.quiet hs
def D7 (te:TE):TS:=λ D σ H=>xfI D.rt
def aw (he:xrd e):xh1 (.Return (some e) pos) (D7 te):=by
 intro LQ s σ H D I h;exact wpAny_Return_some (xc7 (xGw _ I h) v s1 z9 (by show xn4 x;exact⟨x,σ,H1,I1,r1,q1⟩))
def El (c:TT)(t u:TS):TS:=λ D σ H=>c σ H λ b H1=>xbZ b (t D σ H1) (u D σ H1)
def aH {c:LN}{a b:xqe}{tc:TT}(hc:xh5 c tc)(ha:xgh a t)(hb:xgh b u):xh1 (.If c a b pos) (El tc t u):=by
 intro LQ s σ H D I h;show xfo (wpAny_If (xdd (hc LQ s σ H _ I h) d)) H1 I1 q1 z9;cases d with
 |true=>exact xE1 s1 H1 D I1 q1
 |false=>exact xtT s1 σ H1 D I1 q1
def wc:TS:=xEO
def aO:xh1 st wc:=λ _ _ _ _ _ _ h=>h.elim
def iE {sts:xqe}:xgh sts wc:=λ _ _ _ _ _ _ h=>h.elim
universe s
abbrev TG:=V->St->Hp->Ο (xbR)
abbrev TGs:=LT->St->Hp->Ο (xbR)
def PG (X:Cx)(LV:LN)(t:TG):Prop:=
 ∀(LQ:Wp) (s:LH) (σ:St) H v u Q,Ps->xdn->t v σ H Q->
  xgG (xF6 LV u) (λ _ s'=>∃σ' H',xuk/\xbf σ')
def PGs (X:Cx)(ts:xl8)(t:TGs):Prop:=
 ∀(LQ:Wp) (s:LH) (σ:St) H vs us Q,Ps->xxF->t vs σ H Q->
  xgG (assignInOrder ((assignEach ts X.env).map (·.2)) us) (λ _ s'=>∃σ' H',xuk/\xbf σ')
abbrev BN:=V->V->V->Hp->Ο (xrT)
def DI (X:Cx)(t:BN):Prop:=
 ∀(LQ:Wp) (s:LH) (σ:St) H o i v ov iv u Q,Ps->RelV o ov->RelV i iv->xdn->t o i v H Q->
  xgG (setItem ov iv u) (λ _ s'=>∃H',xi8/\Q H')
section
variable {X:Cx}{pos:Pos}
def cf (i:Nat):TG:=λ v σ H Q=>Q xHG H
def aN {i:Nat}{x:Str}(hN:X.N.Nodup)(hi:Μ xww)(hx:xsn (xyd x))(hf:xsn (xsI x\/xnQ x)):PG X xsT (cf i):=by
 intro LQ s σ H v u Q I r h;exact wpAny_assign_Name (gP I hN hi hx r (λ s' I'=>xfj H I' h) hf)
inductive U6 (vs:LT) (σ:St) (H:Hp) (Q:xbR):Prop
 |mk (h0:vs=[]) (h1:Q σ H):U6 vs σ H Q
inductive NU (t:TG) (u:TGs) (vs:LT) (σ:St) (H:Hp) (Q:xbR):Prop
 |mk (v:_) (r:_) (h0:vs=v::r) (h1:t v σ H λ σ' H'=>u r σ' H' Q):NU t u vs σ H Q
def gQ:PGs X [] U6:=by
 intro LQ s σ H vs us Q I r h;show xAG e h;subst e;cases r;exact assignInOrder_nil ⟨σ,H,I,h⟩
def cv {e:LN}(h1:PG X e t)(h2:PGs X es u)
  (hs:Μ ((assignEach (e::es) X.env).map (·.2)=assign e X.env::(assignEach es X.env).map (·.2))):PGs X xcu (NU t u):=by
 intro LQ s σ H vs us Q I r h;show xgX v vr e1 h;subst e1;cases r with
 |cons r rr=>
  show ST hs (assignInOrder_cons (xAD (h1 LQ s σ H _ _ _ I r h) s1 z9 ?_));obtain⟨σ1,H1,I1,q1⟩:=z9;exact h2 LQ s1 σ1 H1 _ _ Q I1 rr q1
inductive U5 (K:Frag) (n:Nat) (t:TGs) (v:V) (σ:St) (H:Hp) (Q:xbR):Prop
 |mk (a:_) (xs:_) (h0:v=Tm) (h1:xna a xs) (h2:xCX n) (h3:t xs σ H Q):U5 K n t v σ H Q
def kj {es:xl8}{k:Nat}(hc:xlY)(h:PGs X es t)
  (hn:Μ (xaJ (assignEach es X.env) n)) (Nd:Μ ((assignEach es X.env).findIdx? (·.1)=none)):PG X (xGx k pos) (U5 X.K n t):=by
 intro LQ s σ H v u Q I r hw;obtain⟨a,xs,e1,hq,hl,hw⟩:=hw;subst e1;cases r;show xsN rv ht hz hq;refine QQ.P8 I.hq ht (by simp [hn,<-hl,rv.length]) Nd (PP h' hx)
 have I1:xlD xeQ:=xGK (λ b o e=>hx b o xC9 e)
 exact h LQ _ σ H xs _ Q I1 (by simpa using rv) hw
def Ee (to ti:TE)(t:BN):TG:=λ v σ H Q=>to σ H λ o H1=>ti σ H1 λ i H2=>t o i v H2 λ H3=>Q σ H3
def lT {o i:LN}{to ti:TE}{t:BN}(ho:xal o to)(hi:xal i ti)(hs:DI X t)
    (ha:xpO (∀v,xF6 (xvr o i) v=(do
      let ov<-xDi v xoK
      let iv<-holding [v,ov] (xiv i)
      standAt pos
      holding [v,ov,iv] (setItem ov iv v)
      release [v,ov,iv] []))):PG X (xvr o i) (Ee to ti t):=by
  intro LQ s σ H v u Q I r h
  show xjw ha (Gf (xdd (xmN s H _ I h) ov))
  show xn4 x
  show xaa (Gf (xgP (xxq s1 σ H1 _ I1 q1) iv s2))
  show xrU y H2 I2 r2 q2
  show xE5 (Ev (Gf (xAD (hs LQ s2 σ H2 x y v ov iv u _ I2 r1 r2 r q2) s3 z9 ?_)))
  show xay H3 I3 q3 z9 (wpAny_release ⟨σ,H3,I3,q3⟩)
def C5 (te:TE)(g:TG):TS:=λ D σ H=>xfI λ x H1=>xwi H1 D.nx
def mW {tg e:LN}{te:TE}{g:TG}(he:xrd e)(hg:PG X tg g)(hs:Μ (swapsWithSole [tg] e pos.line X.env=xCe))(hw:Μ (swappedStores [tg] e X.env=pure none))
  (h1:Μ ((assignEach [tg] X.env).map (·.2)=[assign tg X.env])):xyU [tg] e pos (C5 te g):=by
 intro LQ s σ H D I h;show xgl (wpAny_Assign_stores (xq8 _ I h v) hs hw) x;show LE h1 (xAD (hg LQ s1 σ H1 x v _ I1 r1 q1) s2 q q)
def ap {i:Nat}{x:Str}{e:LN}{pos':Pos}(hN:X.N.Nodup)(he:xrd e)(hi:Μ xww)(hx:xsn (xyd x))(hs:Μ (xHI e (some (xyl pos'))=xCe))(hf:xsn (xsI x\/xnQ x)):
  xyU [xyl pos'] e pos (C5 te (cf i)):=by
 intro LQ s σ H D I h;show xgl (wpAny_Assign_Name (xq8 _ I h v) hs) y;exact gP I1 hN hi hx r1 (λ s2 I2=>xfj H1 I2 q1) hf
inductive Wj (c:TT) (tb:TS) (D:Ends) (σ:St) (H:Hp):Prop
 |mk (W:xaX xbR) (h0:(∃m,W m σ H)) (h1:∀m σ H,W m σ H->c σ H λ b H1=>xbZ b (∃N,(∀σ' H',N σ' H'->∃m',m'<m/\W m' σ' H')/\xLF D N N σ H1) (xA5 H1)):Wj c tb D σ H
def bJ {c:LN}{body:xqe}{tb:TS}(hp:PassesOwn xss X.A X.env X.xe)(hc:xh5 c tc)(hb:xgh body tb):xh1 (.While c body [] pos) (Wj tc tb):=by
 intro LQ s σ H D I h;obtain⟨W,⟨m0,w0⟩,turn⟩:=h;refine wpAny_While (codeAny_whileLoop (λ n s'=>∃σ' H',xuk/\W n σ' H') ?_ m0 ⟨σ,H,I,w0⟩);rintro n s1 ⟨σ1,H1,I1,w1⟩;show xfo (xxr (xgP (hc LQ s1 σ1 H1 _ I1 (turn n σ1 H1 w1)) b s2)) H2 I2 q2 z9;cases b with
 |true=>
  obtain⟨N,hN,q2⟩:=q2;show ST xag (xxr (xc7 (xtT s2 σ1 H2 _ I2 q2) f s3 q3 ?_));cases f with
  |next=>
   obtain⟨σ3,H3,I3,n3⟩:=q3;show xay m' hm w3 (hN σ3 H3 n3) ⟨m',hm,σ3,H3,I3,w3⟩
  |cont=>
   obtain⟨σ3,H3,I3,n3⟩:=q3;show xay m' hm w3 (hN σ3 H3 n3) ⟨m',hm,σ3,H3,I3,w3⟩
  |brk=>exact q3
  |ret v=>exact q3
 |false=>
  show xkF EX (Jn ⟨σ1,H2,I2,q2⟩)
universe s
structure It where
 go:xe0 Nat
 yld:xaX (Hp->xe0 V)
 stop:xe0 Nat
def MB (X:Cx)(LQ:Wp)(H:Hp)(b:LF):Prop:=
 xcg/\xfF/\xzr/\(xxh b\/xrX b)/\(∀x c,xcJ->xia)/\xrp b
def Inv.fpOk {X:Cx}{LQ:Wp}{σ:St}{b:LF}(I:Ps)(hb:xu8 b)(hn:xi7):xxJ b:=by
 refine⟨hn,Iy (Ey I.lt hb),I.nofs hb,.inr (Ew I.sz hb),λ x c e z=>?_,Sc p hp z⟩
 ·show xbE v q (xpf e) (absurd (Ey q.lt (by show LE z hb)) xmi)
 ·show xab (Ey (E1 xwY.1) (by show LE z hb)) xmi
structure Turn (P:LI)(w:LJ)(K:Frag)(tg:LN)(J:It)(fp:Ω)(it:LF)(tn:xti LM):Prop where
 mem:it∈fp
 obj:∀i h,xrA h->xfv (∃o,xiL=IO/\∀v,o.data≠ xws)
 keep:∀i h h',xrA h->(xfv (∀o,xiL=IO->xiG=IO))->xrA h'
 item:∀(X:Cx),X.prog=P->X.w=w->X.K=K->xlY->∀(i:Nat) (LQ:Wp) (s:LH) (σ:St) (H:Hp) (E:Ρ),Ps->(xqs H b)->xrA s.heap->xz2 H->
  xrP P w X.A xBN (λ r s1=>∃u,xjJ r/\
   xrP P w X.A (xMJ xnr u) (λ _ s2=>∃x H',xyp s2/\xrK/\xzt H x H'/\tn (i+1) s2.heap/\xfv xi7) E s1) E s
 done:∀(X:Cx),X.prog=P->X.w=w->X.K=K->xlY->∀(i:Nat) (LQ:Wp) (s:LH) (σ:St) (H:Hp) (E:Ρ),Ps->(xqs H b)->xrA s.heap->xzg H->
  xrP P w X.A xBN (λ r s1=>W1 r/\xlD s1) E s
 self:∀(A:LL) (i:Nat) (s:LH) (Q:Ρ) (E:Ρ),xrA s.heap->Q xnr s->xrP P w A (pyIter xnr) Q E s
abbrev TI:=St->Hp->Ο (xub)
def PIE (X:Cx)(LQ:Wp)(σ:St)(tg:LN)(R:xub)(itv:LG)(s2:LH):Prop:=
 ∃(it:LF) (fp:Ω) (tn:xti LM) (J:It) (H':Hp),itv=xnr/\xyp s2/\Turn X.prog X.w X.K tg J fp it tn/\tn 0 s2.heap/\(xqs H' b)/\R J H'
def PI (X:Cx)(tg iter:LN)(wi:TI):Prop:=
 ∀(LQ:Wp) (s:LH) (σ:St) H (R:xub),Ps->wi σ H R->
  xgG xLi (λ v s1=>xjW (pyIter v) (PIE X LQ σ tg R) s1)
def vZ (ho:s.heap.get? it=IO)(hc:o.cls=.type n)(hd:xin xnG)
  (hn: τ (["enumerate","zip","dict_itemiterator","dict_reverseitemiterator","odict_iterator","itertools.zip_longest","itertools.pairwise"].contains n)) (hQ:xhi s):xif (xMJ xnr u) Q E s:=by
 unfold letOwnedTupleGo;cases tg<;>first
  |exact EM hQ
  |(cases u<;>first
    |exact EM hQ
    |(show xaa (wpAny_load ho ?_)
      rw [hc,hd];show xif (xgo (Pi (["enumerate","zip","dict_itemiterator","dict_reverseitemiterator","odict_iterator","itertools.zip_longest","itertools.pairwise"].contains n&&vs[0]?==some (rawInt _)))) Q E s;show xkF (by intro h;show xjV hn Lz h h) (EM hQ)))
def VP (K:Frag)(a:LF):It:=
 ⟨λ i H=>∃xs x,xgC/\xkW,λ i H x H'=>H'=H/\∀xs,xgC->xkW,λ i H=>∃xs,xgC/\xs.length≤i⟩
def UU (lo:Int)(n:Nat):It:=⟨λ i _=>i<n,λ i H x H'=>H'=H/\x=.int (lo+i),λ i _=>n≤i⟩
def u8 {P:LI}{w:LJ}{K:Frag}{tg:LN}(a it:LF):Turn P w K tg xmW [it] it (λ i h=>h.IsListIter it a i) where
 mem:=Z6
 obj:=λ i h st b hb=>by
  have e:b=it:=by show xl6
  subst e;obtain⟨o,e,c,d⟩:=st;exact xer e (λ v z=>by show ρ d z z)
 keep:=λ i h h' st k=>st.at λ o e=>k it Z6 o e
 item:=by
  intro X hP hw hK hc i LQ s σ H E I hf st hg;subst hP hw hK;obtain⟨xs,x,hq,hx⟩:=hg;show xiu rv p hq;obtain⟨u,hu,ru⟩:=rv.get hx;obtain⟨f0,f1,f2,f3,f4,f5⟩:=xum;refine wpAny_pyNext_list_item st p.isList (by show xzL) (Sc h' st' sb)
  have I1:xlD xeQ:=xvI (λ b o hb e=>xhr sb hb e) f1 f3 f4 f5;show xn7 o e c d st';exact xd9 u (vZ e c d Z9 ⟨x,H,I1,ru,xcC (λ ys hy=>by show LE (I.list_inj hy hq) hx),st',xaw xmF.1⟩)
 done:=by
  intro X hP hw hK hc i LQ s σ H E I hf st hg;subst hP hw hK;obtain⟨xs,hq,hx⟩:=hg;show xiu rv p hq;obtain⟨f0,f1,f2,f3,f4,f5⟩:=xum;show xwy hl;exact QQ.Tc I.hq st p.isList (by simp;exact xK6 hx) λ h' eb=>xcC (xvI (λ b o hb e=>eb b o hb e) f1 f3 f4 f5)
 self:=xG9 h (wpAny_pyIter_listiter st h)
def qT {P:LI}{w:LJ}{K:Frag}(it)(lo)(n):Turn P w K tg (xtU n) [it] it (λ i h=>xBs h (lo+xjm i*1) (xai-xjm i) 1) where
 mem:=Z6
 obj:=λ i h st b hb=>by
  have e:b=it:=by show xl6
  subst e;exact xaU st (λ v z=>by
   have z':xJH=xKq:=z;cases z')
 keep:=λ i h h' st k=>k it Z6 _ st
 item:=by
  intro X hP hw hK hc i LQ s σ H E I hf st hg;subst hP hw hK;obtain⟨f0,f1,f2,f3,f4,f5⟩:=xum;refine xLY (by have:i<n:=hg;lia) (Sc h' Td sb)
  have st':xBs h' (lo+xhg*1) (xai-xhg) 1:=by
   have e1:lo+xhg*1=lo+xd0*1+1:=Z5;have e2:xai-xhg=xai-xd0-1:=Z5;rw [e1,e2];exact Td
  have I1:xlt H s xy9:=xvI (λ b o hb e=>xKl o hb e) f1 f3 f4 f5;refine xa9 (vZ st' rfl rfl Z9 ⟨.int (lo+i),H,I1,xbW s.toks,xj0,st',xaw xmF.1⟩);rw [Int.mul_one]
 done:=by
  intro X hP hw hK hc i LQ s σ H E I hf st hg;subst hP hw hK;obtain⟨f0,f1,f2,f3,f4,f5⟩:=xum;exact QQ.OO I.hq st (by have:n≤i:=hg;lia) λ h' eb=>xcC (xvI (λ b o hb e=>eb b o hb e) f1 f3 f4 f5)
 self:=xG9 h (xL1 h)
section
variable {X:Cx}{tg:LN}
inductive UC (K:Frag) (R:xub) (x:V) (H1:Hp):Prop
 |mk (a:_) (h0:x=Tm) (h1:(∃xs,K' K H1 a xs)) (h2:R xmW H1):UC K R x H1
def Dt (K:Frag)(tl:TE):TI:=λ σ H R=>tl σ H λ x H1=>UC K R x H1
def bS {l:LN}{tl:TE}(hl:xal l tl):PI X tg l (Dt X.K tl):=by
 intro LQ s σ H R I h;show xgl (xdd (hl LQ s σ H _ I h) v) x;obtain⟨a,e,⟨xs,hq⟩,q⟩:=q1;subst e;cases r1;show xuQ rv p hz (I1.list hq);show TD (wpAny_pyIter_list p.isList ?_) ⟨s1.heap.objs.size,[s1.heap.objs.size],_,_,H1,rfl,xBE s1.toks (λ b o e=>xdZ),u8 a _,xmy _ xfz,xes,q⟩;have e:b=s1.heap.objs.size:=by show xl6
 subst e;exact xLk xx8
def oz {LQ:Wp}{σ:St}{lo hi:Int}(I:Ps)(h1:-(2^62)≤lo)(h2:lo<2^62)(h3:-(2^62)≤hi)(h4:hi<2^62)
  (q:R (xtU (xoH hi lo)) H):xjU (pyIter xpE) (PIE X LQ σ tg R) E (xFF (s.heap.push (xve #[xbq lo,xtd u,xqn v])) tk):=by
 refine xMl (small_one h1 h2 h3 h4) ?_;have I1:xrR H s (s.heap.push (xve #[xbq lo,xtd u,xqn v])) tk:=I.kept λ b o e=>xdZ
 refine⟨xEb (xve #[xbq lo,xtd u,xqn v]),[xEb (xve #[xbq lo,xtd u,xqn v])],_,_,H,rfl,
  xBE tk (λ b o e=>xdZ),qT _ lo (xoH hi lo),?_,xes,q⟩
 ·have e1:lo+M2 0*1=lo:=Z6;have e2:M2 (xoH hi lo)-M2 0=Builtin.Range.rangeSize lo hi 1:=by rw [rangeSize_one];split<;>lia
  show IsRangeIter _ _ (lo+M2 0*1) (M2 (xoH hi lo)-M2 0) 1;rw [e1,e2];exact xfz
 ·have e:b=xEb (xve #[xbq lo,xtd u,xqn v]):=by show xl6
  subst e;exact xLk xx8
inductive UB (R:xub) (vs:LT) (H1:Hp):Prop
 |mk (j:_) (h0:vs=[xhL]) (h1:-(2^62)≤j) (h2:j<2^62) (h3:R (UU 0 j.toNat) H1):UB R vs H1
def CS (ta:TA):TI:=λ σ H R=>xgy λ vs H1=>UB R vs H1
inductive UA (R:xub) (vs:LT) (H1:Hp):Prop
 |mk (i:_) (j:_) (h0:vs=[xcD,xhL]) (h1:(-(2^62)≤i/\i<2^62/\-(2^62)≤j/\j<2^62)) (h2:R (UU i (xoH j i)) H1):UA R vs H1
def Dq (ta:TA):TI:=λ σ H R=>xgy λ vs H1=>UA R vs H1
def cY {a:LN}{ta:TA}{p pos:Pos}(hg:xGj)(hm:xGh)(ha:xiX xcj ta)(hs:Μ (xfS xcj=[xhD a])):PI X tg (xvV p xcj [] pos) (CS ta):=by
 intro LQ s σ H R I h;show xgl (Call_ (xKO (Gy (xdd xng us) hs rfl))) vs;obtain⟨j,e,q1,q2,q⟩:=q1;subst e;cases r1 with
 |cons r rr=>
  cases rr;show xf1 t r (call_range_1 (oz I1 Z5 Z5 q1 q2 (by simpa using q)))
def iq {a b:LN}{ta:TA}{p pos:Pos}(hg:xGj)(hm:xGh)(ha:xiX [a,b] ta)(hs:Μ (xfS [a,b]=[xhD a,xhD b]))(Ot:Μ (xfS [b]=[xhD b])):
  PI X tg (xvV p [a,b] [] pos) (Dq ta):=by
 intro LQ s σ H R I h;show xgl (Call_ (xKO (Gy (xdd xng us) (by rw [hs,Ot]) (by show Τ Ot)))) vs;obtain⟨i,j,e,⟨q1,q2,q3,q4⟩,q⟩:=q1;subst e;cases r1 with
 |cons r rr=>
  cases rr with
  |cons r' rr=>
   show xuu rr r;show xf1 t' r' (call_range_2 (oz I1 q1 q2 q3 q4 q))
def Ec (wi:TI)(g:TG)(tb:TS):TS:=λ D σ H=>wi σ H λ J H1=>∃W:xi3 xbR,(∃m,xwM σ H1)/\∀i m σ H,xwL σ H->
 (xzg H/\xpc)\/(xz2 H/\∃N,(∀σ' H',N σ' H'->∃m',m'<m/\W (i+1) m' σ' H')/\∀x H',xzt H x H'->xwi H' λ σ2 H2=>xrx D N N H2)
noncomputable def nP (fp:Ω) (h:LM):Wp:=fp.filterMap λ b=>xiF xiL o (b,o)
def bE {fp:Ω}(hb:b∈fp)(e:xiL=IO):(b,o)∈nP fp h:=List.mem_filterMap.mpr ⟨b,hb,by show Τ e⟩
def uT {fp:Ω}(hp:p∈nP fp h):xak∈fp/\xdO xak xfE:=by
 obtain⟨b,hb,e⟩:=List.mem_filterMap.mp hp;cases q:xiL with
 |none=>show xjt q
 |some o=>
  rw [q] at e;have e':(b,o)=p:=Fb e;subst e';show xar hb q
def Inv.pinned {LQ:Wp}{σ:St}{H:Hp}(I:Ps)(hf:xqs H b)(ho:xfv (∃o,xaG=IO/\∀v,o.data≠ xws)):Inv X (LQ++nP fp s.heap) σ H s:=
 I.pins_of λ p hp=>xnv hp (No (xvt (xnS z))) (No (by
  obtain⟨hb,e⟩:=uT z;obtain⟨f0,f1,f2,_⟩:=hf xak hb;obtain⟨o,e',d⟩:=ho xak hb;show xeG e' e';exact⟨e,f0,f1,f2,d⟩))
def Inv.unpinned {LQ pl:Wp}{σ:St}{H:Hp}(I:Inv X (LQ++pl) σ H s):Ps:=I.pins_of λ p hp=>xvt (xnS (xld hp))
def bw (hp:PassesOwn xss X.A X.env X.xe)(hc:xlY)(hi:xtK X tg wi)(hg:PG X tg g)(hb:xgh body tb)
  (hs:xpO (∀x,xwt x=xwT)):xh1 (.For tg iter body [] pos) (Ec wi g tb):=by
 intro LQ s σ H D I h;refine wpAny_For (xc7 (xxq s σ H _ I h) v s1 h1 (xc7 h1 itv s2 h2 ?_)) hs;obtain⟨it,fp,tn,J,H2,e,I2,T,OC,f2,W,⟨m0,w0⟩,turn⟩:=h2;subst e;have SV:∀{H'},(xfv xi7)->xqs H' b:=λ hn b hb=>⟨hn b hb,(f2 b hb).2⟩
 refine codeAny_forLoop_any (λ n s'=>∃i σ' H',xuk/\xrA s'.heap/\(xfv xi7)/\W i n σ' H') ?_ m0 ⟨0,σ,H2,I2,OC,xaw (f2 b hb).1,w0⟩;rintro n s3 ⟨i,σ3,H3,I3,MW,fr3,w3⟩;rcases turn i n σ3 H3 w3 with⟨stop,qn⟩|⟨go,N,hN,step⟩
 ·show xhB (xxr (xgP (T.done X rfl rfl rfl hc i LQ s3 σ3 H3 X.xe I3 (SV fr3) MW stop) r s4)) hr I4 z9;subst hr;exact Jn ⟨σ3,H3,I4,qn⟩
 ·show xfo (xxr (xgP (T.item X rfl rfl rfl hc i LQ s3 σ3 H3 X.xe I3 (SV fr3) MW go) r s4)) u hr h4 z9;subst hr;refine xxr (xAD h4 s5 z9 ?_);obtain⟨x,H5,I5,r5,y5,YF,Vo⟩:=z9;have I5':=I5.pinned (SV Vo) (xzu _ YF);refine xxr (xAD (hg _ s5 σ3 H5 x u _ I5' r5 (step x H5 y5)) s6 z9 ?_);show xwE H6 I6 q6 z9;refine xxr (xc7 (xq2 s6 σ6 H6 _ I6 q6) f s7 q7 ?_);have again:∀{σ7} {H7},Inv X (LQ++nP fp s5.heap) σ7 H7 s7->N σ7 H7->∃m,m<n/\∃i σ' H',xkL σ' H' s7/\xrA s7.heap/\(xfv xi7)/\xwL σ' H':=λ {σ7 H7} I7 n7=>by
   show xa0 m' hm w7 (hN σ7 H7 n7) ⟨m',hm,i+1,σ7,H7,I7.unpinned,xCK _ _ YF λ b hb o e=>(I7.pin (b,o) (xoe hb e)).1,xes,w7⟩;show xay o e d (xzu _ YF b hb) (Δ (I7.pin (b,o) (xoe hb e)))
  cases f with
  |next=>obtain⟨σ7,H7,I7,n7⟩:=q7;exact again I7 n7
  |cont=>obtain⟨σ7,H7,I7,n7⟩:=q7;exact again I7 n7
  |brk=>obtain⟨σ7,H7,I7,q7⟩:=q7;show xav σ7 H7 I7.unpinned q7
  |ret v=>obtain⟨x7,σ7,H7,I7,r7,q7⟩:=q7;exact⟨x7,σ7,H7,I7.unpinned,r7,q7⟩
universe s
def bZ {K:Frag}{a:LF}{xs:LT}{g:TG}{tb:TS}{D:Ends}(Pv:xaX xbR)(h0:xqC 0)(hl:∀i σ H,xlh->xpl->xgC)
  (hs:∀i x σ H,xkW->xpl->xjx λ σ2 H2=>xrx D xfN xfN H2) (hd:∀σ H,xqC xs.length->xpc):
  ∃W:xi3 xbR,(∃m,xwM σ H)/\∀i m σ H,xwL σ H->
   (xn8 xmW H/\xpc)\/(xoI xmW H/\∃N,(∀σ' H',N σ' H'->∃m',m'<m/\W (i+1) m' σ' H')/\∀x H',xok xmW H x H'->xwi H' λ σ2 H2=>xrx D N N H2):=by
 refine Ψ (λ i m σ H=>m=xfq i/\xlh/\xpl) ⟨xs.length,Z6,xac,h0⟩;rintro i m σ H ⟨rfl,hi,p⟩;have q:=xrz σ H hi p;by_cases LU:xeM i
 ·show xhB (.inr ⟨⟨xs,xs[i],q,by simp [LU]⟩,xfN,λ σ' H' p'=>xc8 (xfq (i+1)) xmI LU p',Sc x H' y⟩) e y y;subst e;exact xrB x σ _ (y xs q) p
 ·have e:xnO i:=xuj;show xqT e ⟨xAc xs q,hd σ H p⟩
def cR {lo:Int}{g:TG}{tb:TS}{D:Ends}(Pv:xaX xbR)(h0:xqC 0)
  (hs:∀i σ H,i<n->xpl->g (.int (lo+i)) σ H λ σ2 H2=>xrx D xfN xfN H2) (hd:∀σ H,xqC n->xpc):
  ∃W:xi3 xbR,(∃m,xwM σ H)/\∀i m σ H,xwL σ H->
   (xn8 (xtU n) H/\xpc)\/(xoI (xtU n) H/\∃N,(∀σ' H',N σ' H'->∃m',m'<m/\W (i+1) m' σ' H')/\∀x H',xok (xtU n) H x H'->xwi H' λ σ2 H2=>xrx D N N H2):=by
 refine Ψ (λ i m σ H=>m=n-i/\xbv i/\xpl) ⟨n,Z6,xac,h0⟩;rintro i m σ H ⟨rfl,hi,p⟩;by_cases LU:i<n
 ·show xhB (.inr ⟨LU,xfN,λ σ' H' p'=>xc8 (n-(i+1)) xmI LU p',Sc x H' y⟩) e y y;subst e y;exact xrB σ _ LU p
 ·have e:i=n:=xuj;show xqT e ⟨Tl,hd σ H p⟩
abbrev R2:=V->V->Hp->xe3
def NB (X:Cx)(f:LG->LG->xz1)(r:R2):Prop:=
 ∀(LQ:Wp) (s:LH) (σ:St) H x y v u Q,Ps->xm4->xh8->r x y H Q->
  xkC (f v u) X Q s
def UnR (X:Cx)(f:LG->xz1)(r:V->Hp->xe3):Prop:=
 ∀(LQ:Wp) (s:LH) (σ:St) H x v Q,Ps->xm4->r x H Q->
  xkC (f v) X Q s
def dX (X:Cx)(f:LG)(r:LT->Hp->xe3):Prop:=
 ∀(LQ:Wp) (s:LH) (σ:St) H xs us Q,Ps->xmz->r xs H Q->
  xkC (call f us) X Q s
def UE (r:R2)(ta tb:TE):TE:=λ σ H Q=>xgy λ x H1=>xxp H1 λ y H2=>r x y H2 Q
def tUn (r:V->Hp->xe3)(ta:TE):TE:=λ σ H Q=>xgy λ x H1=>r x H1 Q
inductive rI (C:Int->Ο Int) (g:Int->Int->V) (x:V) (y:V) (H:Hp) (Q:VK):Prop
 |mk (i:_) (j:_) (h0:x=xcD) (h1:y=xhL) (h2:C i j) (h3:Q xmS H):rI C g x y H Q
inductive Q3 (g:Int->Int->V) (x:V) (y:V) (H:Hp) (Q:VK):Prop
 |mk (i:_) (j:_) (h0:x=xcD) (h1:y=xhL) (h2:Q xmS H):Q3 g x y H Q
inductive rU (g:Int->V) (x:V) (H:Hp) (Q:VK):Prop
 |mk (i:_) (h0:x=xcD) (h1:Q (g i) H):rU g x H Q
section
variable {X:Cx}{a b c:LN}{ta tb tc:TE}{pos:Pos}
def binT (ha:xli)(hb:xre b){LQ:Wp}{s:LH}{σ:St}{R:V->xe0 V}(I:Ps)
  (h:xgy λ x H1=>xxp H1 λ y H2=>R x y H2) {Q:Ρ} {f:LG->LG->xz1}
  (hf:∀v u s2 x y H2,xiw H2 s2->xm4->xh8->R x y H2->xjW (f v u) Q s2):
  xgG (xiv a) (λ v s₁=>xjW (xiv b) (λ u s₂=>xjW (f v u) Q s₂) s₁):=by
 show xgl (xdd xo2 v) x;refine xgP (xtT s1 σ H1 _ I1 q1) u s2
 show xrU y H2 I2 r2 q2;exact hf v u s2 x y H2 I2 r1 r2 q2
def aq {op:Operator}{r:R2}(ho:xjG op r)(ha:xli)(hb:xre b):xal (.BinOp a op b pos) (UE r ta tb):=by
 intro LQ s σ H Q I h;exact wpAny_BinOp (binT ha hb I h λ v u s2 x y H2 I2 rx ry q=>xmN s2 H2 x y v u Q I2 rx ry q)
def xS {op:UnaryOp}{r:V->Hp->xe3}(ho:UnR X (unaryOp op) r)(ha:xli):xal (.UnaryOp op a pos) (tUn r ta):=by
 intro LQ s σ H Q I h;exact UnaryOp_ (xc7 xo2 v s1 z9 (by show xn4 x;exact xmN s1 H1 x v Q I1 r1 q1))
def opI {f:LG->LG->xz1}{g:Int->Int->Int}
  (rule:∀(i j:Int) (t u:Tok) (s:LH) (Q:Ρ) (E:Ρ),C i j->Q (.int xmS s.toks) xDf->xjU (f xmu (xhL u)) Q E s):
  NB X f (rI C (xhZ i j xmS)):=by
 intro LQ s σ H x y v u Q I rx ry h;obtain⟨i,j,rfl,rfl,hc,q⟩:=h;show xla;show xeu (rule i j t t' s _ _ hc (xoS xmS H xek xa4 q))
def xi {g:Int->Int->Int}
  (rule:∀(i j:Int) (t u:Tok) (s:LH) (Q:Ρ) (E:Ρ),Q (.int xmS s.toks) xDf->xjU (f xmu (xhL u)) Q E s):
  NB X f (Q3 (xhZ i j xmS)):=by
 intro LQ s σ H x y v u Q I rx ry h;show xdT i j rfl q h;show xla;show xeu (rule i j t t' s _ _ (xoS xmS H xek xa4 q))
def Ab {f:LG->LG->xz1}{g:Int->xkt Int}
  (rule:∀(i j:Int) (t u:Tok) (s:LH) (Q:Ρ) (E:Ρ),xGX xmS s->xjU (f xmu (xhL u)) Q E s):
  NB X f (Q3 λ i j=>.bl xmS):=by
 intro LQ s σ H x y v u Q I rx ry h;show xdT i j rfl q h;show xla;show xeu (rule i j t t' s _ _ (xg0 xmS H I q))
def D1 (i j:Int):Prop:=0<j/\j<1073741824
def Di (i j:Int):Prop:=0≤j/\j≤1000000/\i.natAbs<2^64
def ZO (i j:Int):Prop:=(-(2^64)<i/\i<2^64)\/(-(2^64)<j/\j<2^64)
def ZO.ok (h:ZO i j):IntMulOk i j:=by
 rcases h with⟨h1,h2⟩|⟨h1,h2⟩
 ·exact .of_left (intBits_le_64 h1 h2)
 ·exact .of_right (intBits_le_64 h1 h2)
def qA (k):xcU≤2^k:=by
 show LE two_pow_cast xe4
def aK:xjG .Add (Q3 (xhZ i j (i+j))):=xDU (add_int q)
def a9:xjG .Sub (Q3 (xhZ i j (i-j))):=xDU (sub_int q)
def dg:xjG .Mult (rI ZO (xhZ i j (i*j))):=opI λ _ _ _ _ _ _ _ hc q=>mul_int q hc.ok
def bu:xjG .FloorDiv (rI D1 (xhZ i j (i/j))):=opI λ i j _ _ _ _ _ hc q=>by
 have h1:xcU<j:=hc.1;have h2:j<1073741824:=hc.2;exact floordiv_int Z5 (by show LE (KO i (Lx h1)) q) (.inl (J6 Z4))
def bv:xjG .Mod (rI (λ _ j=>0<j) (xhZ i j (i%j))):=opI λ i j _ _ _ _ _ hc q=>by
 have h1:xcU<j:=hc;exact mod_int' (IG (Int.ne_of_lt hc)) (by show LE (Int.fmod_eq_emod_of_nonneg i (Lx hc)) q)
def di:xjG .LShift (rI Di (xhZ i j (i*2^j.toNat))):=opI λ _ _ _ _ _ _ _ hc q=>lshift_int_small hc.1 (Δ hc) (xbI hc) q
def io:xjG .RShift (rI (λ _ j=>0≤j) (xhZ i j (i/2^j.toNat))):=opI λ i j _ _ _ _ _ hc q=>
 rshift_int hc (by show LE (KO i (qA _)) q)
def ii:xjG .BitAnd (Q3 (xhZ i j (Builtin.bitAnd i j))):=xDU (and_int q)
def xg:xjG .BitOr (Q3 (xhZ i j (Builtin.bitOr i j))):=xDU (or_int q)
def rW:xjG .BitXor (Q3 (xhZ i j (Builtin.bitXor i j))):=xDU (xor_int q)
def unI {g:Int->Int}
  (rule:∀(i:Int) (t:Tok) (s:LH) (Q:Ρ) (E:Ρ),Q (.int (g i) s.toks) xDf->xjU (f xmu) Q E s):
  UnR X f (rU λ i=>.int (g i)):=by
 intro LQ s σ H x v Q I rx h;show xpG i q h;show xf1 t rx (rule i t s _ _ (xoS (g i) H xek xa4 q))
def qP:UnR X (unaryOp .USub) (rU λ i=>.int (-i)):=unI λ _ _ _ _ _ q=>neg_int q
universe s
noncomputable def DG:V->xkt V
 | .non,.non=>true| .non,.int _=>true| .int _,.non=>true| .non,.bl _=>true| .bl _,.non=>true| .non,.str _=>true| .str _,.non=>true
 | .int _,.int _=>true| .bl _,.bl _=>true| .str _,.str _=>true| .byt _,.byt _=>true
 | .int _,.str _=>true| .str _,.int _=>true| .bl _,.str _=>true| .str _,.bl _=>true
 |_,_=>false
inductive rEq (x:V) (y:V) (H:Hp) (Q:VK):Prop
 |mk (h0:Pi (DG x y)) (h1:xdK (xa2 x y)):rEq x y H Q
inductive rNe (x:V) (y:V) (H:Hp) (Q:VK):Prop
 |mk (h0:Pi (DG x y)) (h1:xdK (! xa2 x y)):rNe x y H Q
def tP:xCJ i j=(i==j):=by
 show xbc Jo
def wU:xa2 (V.bl i) (V.bl j)=(i==j):=by
 show xbc Jo
def sS:xa2 (V.str i) (V.str j)=(i==j):=by
 show xbc Jo
def uo:xa2 (V.byt i) (V.byt j)=(i.toList==j.toList):=by
 rw [Jo];cases i;cases j;simp
section
variable {X:Cx}{a b c:LN}{ta tb tc:TE}{pos:Pos}
def aX {LQ:Wp}{σ:St}{H:Hp}{s:LH}(I:Ps)(q:xdK k)(e:k=k'):xpg (.bool k') s:=by
 subst e;exact xg0 k H I q
def bG:xe9 .Eq rEq:=by
 intro LQ s σ H x y v u Q I rx ry h;show xAG hs q;cases x with
 |non=>
  cases rx;cases y with
  |non=>cases ry;exact PySem.EqNone.eq_none_none xdi
  |bl j=>cases ry;exact PySem.EqNone.eq_none_bool xdi
  |int j=>show xeu (PySem.EqNone.eq_none_int xdi)
  |str j=>show xeu (PySem.EqNone.eq_none_str xdi)
  |_=>show xo0
 |bl i=>
  cases rx;cases y with
  |non=>cases ry;exact PySem.EqNone.eq_bool_none xdi
  |bl j=>cases ry;exact eq_bool (xl3 wU)
  |str j=>show xeu (PySem.EqMixed.eq_bool_str xdi)
  |_=>show xo0
 |int i=>
  show xla;cases y with
  |non=>cases ry;exact PySem.EqNone.eq_int_none xdi
  |int j=>show xeu (eq_int (xl3 tP))
  |str j=>show xeu (PySem.EqMixed.eq_int_str xdi)
  |_=>show xo0
 |str i=>
  show xla;cases y with
  |non=>cases ry;exact PySem.EqNone.eq_str_none xdi
  |bl j=>cases ry;exact PySem.EqMixed.eq_str_bool xdi
  |int j=>show xeu (PySem.EqMixed.eq_str_int xdi)
  |str j=>show xeu (eq_str (xl3 sS))
  |_=>show xo0
 |byt i=>
  show xla;cases y with
  |byt j=>show xeu (PySem.W.eq_bytes (xl3 uo))
  |_=>show xo0
 |_=>cases y<;>exact absurd xIq EX
def qc:xe9 .NotEq rNe:=by
 intro LQ s σ H x y v u Q I rx ry h;show xAG hs q;cases x with
 |non=>
  cases rx;cases y with
  |non=>cases ry;exact PySem.EqNone.ne_none_none xdi
  |bl j=>cases ry;exact PySem.EqNone.ne_none_bool xdi
  |int j=>show xeu (PySem.EqNone.ne_none_int xdi)
  |str j=>show xeu (PySem.EqNone.ne_none_str xdi)
  |_=>show xo0
 |bl i=>
  cases rx;cases y with
  |non=>cases ry;exact PySem.EqNone.ne_bool_none xdi
  |bl j=>cases ry;exact ne_bool (xl3 (xFq wU))
  |str j=>show xeu (PySem.EqMixed.ne_bool_str xdi)
  |_=>show xo0
 |int i=>
  show xla;cases y with
  |non=>cases ry;exact PySem.EqNone.ne_int_none xdi
  |int j=>show xeu (ne_int (xl3 (xFq tP)))
  |str j=>show xeu (PySem.EqMixed.ne_int_str xdi)
  |_=>show xo0
 |str i=>
  show xla;cases y with
  |non=>cases ry;exact PySem.EqNone.ne_str_none xdi
  |bl j=>cases ry;exact PySem.EqMixed.ne_str_bool xdi
  |int j=>show xeu (PySem.EqMixed.ne_str_int xdi)
  |str j=>show xeu (ne_str (xl3 (xFq sS)))
  |_=>show xo0
 |byt i=>
  show xla;cases y with
  |byt j=>show xeu (PySem.W.ne_bytes (xl3 (xFq uo)))
  |_=>show xo0
 |_=>cases y<;>exact absurd xIq EX
def dQ:xe9 .Lt (Q3 λ i j=>xzU i j):=Ab (xAU (lt_int q))
def sf:xe9 .LtE (Q3 λ i j=>.bl (xhG i j)):=Ab (xAU (le_int q))
def c8:xe9 .Gt (Q3 λ i j=>xzU j i):=Ab (xAU (gt_int q))
def pk:xe9 .GtE (Q3 λ i j=>.bl (xhG j i)):=Ab (xAU (ge_int q))
def g9:xe9 .Is (λ x y H Q=>y=.non/\xdK (xa2 x .non)):=by
 intro LQ s σ H x y v u Q I rx ry h;show xnM rfl q h ry;refine is_none_gen (xl3 ?_);cases x<;>first
  |(cases rx;rfl)
  |(show xla;rfl)
def yO:xe9 .IsNot (λ x y H Q=>y=.non/\xdK (! xa2 x .non)):=by
 intro LQ s σ H x y v u Q I rx ry h;show xnM rfl q h ry;refine isnot_none_gen (xl3 ?_);cases x<;>first
  |(cases rx;rfl)
  |(show xla;rfl)
def ay (b)(h:xuP (op≠ .In))(h2:xuP (op≠ .NotIn)):xBd op b:=qi b h h2
def cJ {op:CmpOp}{r:R2}(ho:xe9 op r)(ha:xli)(hb:xre b)(hm:xBd op b):xal (xGc [op] [b] pos) (UE r ta tb):=by
 intro LQ s σ H Q I h;exact wpAny_Compare1 (binT ha hb I h λ v u s2 x y H2 I2 rx ry q=>xmN s2 H2 x y v u Q I2 rx ry q) hm
inductive TU (Q:xwx) (x:V) (H':Hp):Prop
 |mk (k:_) (h0:x=.bl k) (h1:xbf k):TU Q x H'
def o5 (t:TE):TT:=λ σ H Q=>xdo λ x H'=>TU Q x H'
def ax {op:CmpOp}{r:R2}(ho:xe9 op r)(ha:xli)(hb:xre b)(hm:xBd op b):xh5 (xGc [op] [b] pos) (o5 (UE r ta tb)):=by
 intro LQ s σ H Q I h;refine wpAny_isTrue_Compare1 (thn xo2 λ v s1 ⟨x,H1,I1,r1,q1⟩=>thn (xtT s1 σ H1 _ I1 q1) λ u s2 ⟨y,H2,I2,r2,q2⟩=>
  thn (xmN s2 H2 x y v u _ I2 r1 r2 q2) λ c s3 ⟨z,H3,I3,r3,k,e,q3⟩=>?_) hm
 subst e;cases r3;exact Ig ⟨H3,I3,q3⟩
inductive RA (r':R2) (tc:TE) (σ:St) (Q:VK) (y:V) (z:V) (H3:Hp):Prop
 |mk (k:_) (h0:z=.bl k) (h1:(xbZ k (tc σ H3 λ w' H4=>r' y w' H4 Q) (xuX false H3))):RA r' tc σ Q y z H3
def AZ (r r':R2)(ta tb tc:TE):TE:=λ σ H Q=>xgy λ x H1=>xxp H1 λ y H2=>r x y H2 λ z H3=>RA r' tc σ Q y z H3
def pD {op op':CmpOp}{r r':R2}(ho:xe9 op r)(Vy:xe9 op' r')(ha:xli)(hb:xre b)(hc:xal c tc)
  (hm:τ (lastMarks [op,op'] [b,c]):=by with_unfolding_all rfl):xal (xGc [op,op'] [b,c] pos) (AZ r r' ta tb tc):=by
 intro LQ s σ H Q I h;refine Compare_chain (thn xo2 λ v s1 ⟨x,H1,I1,r1,q1⟩=>chain_link (thn (xtT s1 σ H1 _ I1 q1) λ u s2 ⟨y,H2,I2,r2,q2⟩=>
  thn (xmN s2 H2 x y v u _ I2 r1 r2 q2) λ d s3 ⟨z,H3,I3,r3,k,e,q3⟩=>?_)) hm
 subst e;cases r3;refine Ig ?_;cases k with
 |false=>exact ite_ff (xg0 false H3 I3 q3)
 |true=>exact ite_tt (chain_last (xc7 (hc LQ s3 σ H3 _ I3 q3) w' s4 z9 (by show xrU z' H4 I4 r4 q4;exact Vy LQ s4 σ H4 y z' u w' Q I4 r2 r4 q4)))
def mQ:xjm sizeLine<2^63:=by show xpu IH
def gJ (r:xr0 xbT):∃u,us=[u]/\xrK:=by
 cases r with
 |cons r1 r2=>cases r2;exact xa9 r1
def sJ (r:xr0 [x,y]):∃u w',us=[u,w']/\xrK/\RelV y w':=by
 cases r with
 |cons r1 r2=>
  cases r2 with
  |cons r3 r4=>cases r4;exact xfQ _ r1 r3
def u9 (hc:xpK):xr4 X "max" (λ xs H Q=>∃i j,xs=[xcD,xhL]/\xjI (if j>i then j else i)):=by
 intro LQ s σ H xs us Q I r h;show xgX i j rfl q;obtain⟨u,w',rfl,⟨t,rfl⟩,⟨t',rfl⟩⟩:=sJ r;refine max_two_ints hc λ h' tk k=>xdE H (I.kept k) ?_ q
 by_cases hj:j>i
 ·rw [EU hj,EU hj];exact xa4
 ·rw [EI hj,EI hj];exact xa4
def ic (hc:xpK):xr4 X "min" (λ xs H Q=>∃i j,xs=[xcD,xhL]/\xjI (if j<i then j else i)):=by
 intro LQ s σ H xs us Q I r h;show xgX i j rfl q;obtain⟨u,w',rfl,⟨t,rfl⟩,⟨t',rfl⟩⟩:=sJ r;refine min_two_ints hc λ h' tk k=>xdE H (I.kept k) ?_ q
 by_cases hj:j<i
 ·rw [EU hj,EU hj];exact xa4
 ·rw [EI hj,EI hj];exact xa4
def vg:dX X xBo (λ xs H Q=>(∃i,xs=[xcD]/\Q xcD H)\/∃k,xs=[.bl k]/\xjI (if k then 1 else 0)):=by
 intro LQ s σ H xs us Q I r h;rcases h with⟨i,rfl,q⟩|⟨k,rfl,q⟩
 ·show xuv u rfl t (gJ r);exact call_int_int ⟨xcD,H,I,xa4,q⟩
 ·show xmR u r1 (gJ r) r1;exact call_int_bool (xoS (if k then 1 else 0) H xek xa4 q)
universe s
structure S3 (h:LM)(x dx C:LF)(mA:π):Prop where
 obj:xdO x (instObj C dx)
 ns:h.Ns1 dx mA
 ne:dx≠x
def vp {h:LM}(n:h.Ns1 dx mA):∃od,xdO dx od/\∀name,NE (lookIn name od) xGY:=by
 obtain⟨o,es,ep,ho,hd,hk,_,hm⟩:=n;refine xer ho (xdr name);have e:=hm name;unfold nsFind findBy at e;rw [<-Array.find?_toList] at e;show xaP lookIn hd;dsimp only
 split
 ·rename_i y q
  show WF q e (xpM e)
 ·rename_i q
  rw [q] at e;have a:τ xL2:=by
   rw [List.any_eq_false];intro y hy;obtain⟨z,t,N7⟩:=hk y (Array.mem_toList_iff.mp hy);simp [DictEntry.refKey,N7]
  have a':¬Pi xL2:=by show LE a EX
  show xkF a' (xpM e)
def S3.look (I:S3 h x dx C mA):∃od,InstAt h x (instObj C dx) C (some od)/\∀name,NE (lookIn name od) xGY:=
 let⟨od,ho,hl⟩:=vp I.ns
 ⟨od,xef I.obj rfl ho,hl⟩
section
variable {prog:LI}{w:LJ}{A:LL}{E:Ρ}{s:LH}{K:Frag}{x dx C f:LF}{mA:π}{name:Str}{v:LG}
def yz (X:xlQ)(I:S3 s.heap x dx C mA)(hg:Pi (xGd C name))(hh:xFy K C)
  (ha:xj2 K Γ name none) (hv:xlv xGY) (hv':Pi (handedIn v)) (h:Q v xDf):
  xeD (getAttr xbk name expr):=by
 show xay od J hl I.look (PySem.W.get_value X J (KI hg).1 (PySem.W.findObj_own hh ha rfl (by rw [hl,hv])) hv' h)
def wK (X:xlQ)(I:S3 s.heap x dx C mA)(hg:Pi (xGd C name))
  (hf:xj2 K Γ name xdB) (ht:xzj K xbN) (hv:W1 xGY) (h:Q (xbN,[xbk]) s):
  xeD (getMethod xbk name pl):=by
 show xay od J hl I.look (PySem.W.method_fn X J (KI hg).1 (KI hg).2 hf (Fv.mp ht) (by show(lookIn name od).map (·.isSome)=some false;rw [hl,hv];rfl) h)
def zg (X:xlQ)(I:S3 s.heap x dx C mA)
  (hs:xj2 K Γ "__setattr__" xLX) (hp:Pi (plainOver K C)) (ht:NE (takerIn K C name) none) (hh:xFy K C)
  (hw:xJh ns) (hsz:xc2 ns.length)
  (h:∀h',S3 h' x dx C (λ y=>xir y name xdV (mA y))->xA7 dx h'->xhi (xFF h' (s.toks+2))):
  xeD (setAttr xbk name v):=by
 show xa0 od J hl I.look (PySem.W.set_plain X J hs (PySem.W.osa_open X J hp ht (xdr b)));obtain⟨cd,hc,hd'⟩:=Kv hh;have hx:xfg x ⟨Γ,some dx,.plain,#[]⟩:=I.obj;show xaa (xwA (Ev (wpAny_loadPart hx (Ev (Looks.here (PySem.W.looks_clsIn X hc) ?_)))));show xmG hd' (xwA (xwA ?_)) (wpAny_nsSet1 I.ns (Sc h' Qc Ot))
 obtain⟨oD,esD,epD,hoD,hdD,hcD⟩:=Qc.count (PySem.Within.cons name v hw);show xaa (wpAny_lookBehind hoD (by show LE hdD (pastItsLine_dict (Ew hcD (by show LE EK (FY hsz 1))))) ?_);exact EM (xcX ⟨xnq Ot _ (IG I.ne) I.obj,Qc,I.ne⟩ Ot)
def x4 (X:xlQ)(hm:xvD K C)
  (hi:xvH K Γ xdB) (hf:NE (typeIn K xbN) (.type "function"))
  (h:xsb xhJ (xvx ⟨Γ::vs,kw⟩) xbN ⟨xv6::vs,kw⟩ (InitBack xcq R) (xlE xwq)):
  xsb xhJ A Γ ⟨vs,kw⟩ R s:=by
 obtain⟨hh,g,d,t,os⟩:=s;exact make_core (Ll X hm) (Jx X hi) (λ self=>PySem.W.bind_fn X self hf) xbF h
def vt (X:xlQ)(hm:xvD K C)
  (hi:xvH K Γ (some xAV))
  (hb:∀self,Looks xhJ s.heap (bindSpecial xAV self) (xAV,[self]))
  (h:xsb xhJ (xvx (xgU [Γ])) xAV (xgU [xv6]) (InitBack xcq R) (xlE xwq)):
  xsb xhJ A Γ (xgU []) R s:=by
 obtain⟨hh,g,d,t,os⟩:=s;exact make_core (Ll X hm) (Jx X hi) hb xv7 h
universe s
noncomputable def putF (f:Str) (v:V):xev->xev
 | []=>[(f,v)]
 |(g,x)::r=>xir g f ((g,v)::r) ((g,x)::xup r)
theorem ao (f g)(v):∀fs,(xHS).lookup g=xir g f xdV (fs.lookup g)
 | []=>by
  show List.lookup g [(f,v)]=_;by_cases h:g=f
  ·have hb:Pi (g==f):=Fv.mpr h;show xBU hb (EU h)
  ·have hb:τ (g==f):=Ja.mpr h;show xBU hb (EI h)
 |(k,x)::r=>by
  have ih:=ao f g v r;rw [xcd (xup ((k,x)::r)) (xcI (k=f) ((k,v)::r) ((k,x)::xup r))];by_cases hk:k=f
  ·rw [EU hk];by_cases h:g=k
   ·have hb:Pi (g==k):=Fv.mpr h;show xBU hb (EU (h.trans hk))
   ·have hb:τ (g==k):=Ja.mpr h;show xBU hb (EI (λ e:g=f=>h (e.trans hk.symm)))
  ·rw [EI hk];by_cases h:g=k
   ·have hb:Pi (g==k):=Fv.mpr h;show xBU hb (EI (λ e:g=f=>hk (h.symm.trans e)))
   ·have hb:τ (g==k):=Ja.mpr h;simp only [List.lookup,hb];exact ih
theorem ik (f)(v):∀fs,f∈(xHS).map (·.1)/\∀g,g∈fs.map (·.1)->g∈(xHS).map (·.1)
 | []=>⟨by simp [putF],λ g h=>by show xbd⟩
 |(k,x)::r=>by
  obtain⟨i1,i2⟩:=ik f v r;rw [xcd (xup ((k,x)::r)) (xcI (k=f) ((k,v)::r) ((k,x)::xup r))];by_cases hk:k=f
  ·rw [EU hk];subst hk;show xar Z6 (λ g h=>by show xtC)
  ·show ST (EI hk) (xeY ?_ g h)
   ·show LE FZ (xkg i1)
   ·rw [FZ] at h ⊢;show xix h e e
    ·exact ET.mpr xHa
    ·exact xkg (i2 g e)
theorem iU (f)(v):∀fs,xbg xHS (fs.length+1)
 | []=>by simp [putF]
 |(k,x)::r=>by
  have ih:=iU f v r;rw [xcd (xup ((k,x)::r)) (xcI (k=f) ((k,v)::r) ((k,x)::xup r))];by_cases hk:k=f
  ·rw [EU hk,EK,EK];exact xAh
  ·rw [EI hk,EK,EK];exact FY ih 1
def NO.some_of (r:NO xdV o):∃u,xjJ o/\xdn:=by
 cases o with
 |none=>show xjB xF4
 |some u=>exact xd9 u r
def NO.none_of (r:NO none o):W1 o:=by
 cases o with
 |none=>rfl
 |some u=>show xjB xF4
def vC (r:xdn):Pi (handedIn u):=by
 cases v with
 |non=>cases xgH Value.none r;rfl
 |bl b=>cases xgH (Value.bool b) r;rfl
 |int i=>show xnM t e (xwc (∃t,u=xst i)) e;rfl
 |str x=>show xnM t e (xwc (∃t,u=xCi x)) e;rfl
 |byt b=>show xnM t e (xwc (∃t,u=Value.bytes b t)) e;rfl
 |flt b=>show xnM t e (xwc (∃t,u=xKR b)) e;rfl
 |ref a=>cases xgH xcP r;rfl
 |ty n=>cases xgH (Value.type n) r;rfl
section
variable {P:LI}{w:LJ}{H H':Hp}{h h':LM}{a C dx:LF}{fs fs':xev}
def jh (hok:xij)(e:XL=xqS):∃mA,S3 h a dx C mA/\(∀f,NO xBv (mA f))/\xJh (fs.map (·.1))/\xb0 fs.length/\xp5 dx a:=by
 obtain⟨d,z,ne,ob,mA,n,r,q⟩:=(show xpt (.ins C dx fs) from hok a _ e);exact⟨mA,⟨ob,n,ne⟩,r,q,z,d⟩
universe s
structure Cls (K:Frag)(C:LF):Prop where
 pg:Pi (xGd C Str.empty)
 hd:xFy K C
 po:Pi (plainOver K C)
 sa:xj2 K Γ "__setattr__" xLX
def Cls.get {K:Frag}(c:xgw)(f):Pi (xGd C f):=c.pg
def NoAttr (K:Frag)(C:LF)(f:Str):Prop:=xj2 K Γ f none
def NoAttr.taker {K:Frag}(n:xcH f):NE (takerIn K C f) none:=by
 show xaP takerIn (show xj2 K Γ f none from n);rfl
structure Meth (K:Frag)(C:LF)(m:Str)(f:LF):Prop where
 at_:xj2 K Γ m xdB
 fn:xzj K xbN
 kp:xii
section
variable {X:Cx}{LQ:Wp}{σ:St}{H:Hp}{s:LH}{a C dx:LF}{fs:xev}{f:Str}{v:V}{A:LL}{E:Ρ}
def rG {b:Bool}{Q:Ρ}(I:Ps)(e:XL=xqS)(c:xty)(n:NoAttr X.K C f)(l:xlv xBv)
  (h:∀u s',xxE->xdn->Q u s'):xmY (getAttr Tm f b) Q E s:=by
 obtain⟨mA,O,r,_,_,_⟩:=xHb e;show xay u hu ru (NO.some_of (v:=v) (o:=mA f) (by show xaC l (r f))) (yz I.kIn O (c.get f) c.hd n hu (vC ru) (h u _ xek ru))
def dG {m:Str}{g:LF}{pl:xwe}(I:Ps)(e:XL=xqS)(c:xty)(k:xol X.K m g)(l:xJQ m)
  (h:Q (.ref g,xbK) s):xmY (getMethod Tm m pl) Q E s:=by
 obtain⟨mA,O,r,_,_,_⟩:=xHb e;have hn:W1 (mA m):=NO.none_of (by show xaC l (r m));exact wK I.kIn O (c.get m) k.at_ k.fn hn h
def rC {y:V}{u:LG}{Q:xfw Unit}(I:Ps)(e:XL=xqS)(c:xty)(n:NoAttr X.K C f)(hl:fs.length<1000)(ry:xh8)
  (h:∀s',xiw (xcL H a C dx (xEw y fs)) s'->xhi s'):xmY (setAttr Tm f u) Q E s:=by
 obtain⟨mA,O,r,wi,_,ho⟩:=xHb e;have hz:xc2 (fs.map (·.1)).length:=by rw [Es,IH];exact xdC (EZ hl)
 refine zg I.kIn O c.sa c.po n.taker c.hd wi hz λ h' O' sb=>xcX ?_
 have hd:∃o,h'.get? dx=IO:=let⟨o,_,_,e',_⟩:=O'.ns;⟨o,e'⟩;show TD (I.write (by show xdM True.intro) (.inr ho) (λ b q hb z=>xhr sb hb z) hd ?_) ⟨by show Re O.ne ho,?_,O.ne,O'.obj,_,O'.ns,xdr g,PP g hg⟩
 ·have:=iU f y fs;exact Ew this hl
 ·show NO ((xEw y fs).lookup g) (xyi (g=f) u (mA g));rw [ao];by_cases q:g=f
  ·rw [EU q,EU q];exact ry
  ·rw [EI q,EI q];exact r g
 ·by_cases q:g=f
  ·show LE q (ik f y fs).1
  ·refine(ik f y fs).2 g (wi g (No (hg ?_)));show W1 (xyi (g=f) u (mA g));show xkF q z
def Inv.made (I:Ps):xiw (xjO (xp6 s.heap.objs.size xcq) xcq C s.heap.objs.size) (xlE xwq):=by
 have e1:xfn xEp s.heap.objs.size emptyDict:=Fj s.heap rfl;have e2:xfn xwq xcq xBL:=by
  have:=Fj xEp (o:=xBL) rfl
  rwa [JB] at this
 have e3:(xEp).Ns s.heap.objs.size xA3:=⟨emptyDict,#[],_,e1,rfl,(xem e he he Z6),xf2⟩;have I1:=I.laid (a:=s.heap.objs.size) (o:=.own xcq) (t':=s.toks) (λ b u q=>xrN) Tl (xa1 e1);refine I1.laid (λ b u q=>xrN) (EL (JB _ _)) ?_;have ne:s.heap.objs.size≠xcq:=FA xtm;refine⟨by rw [ai ne,ad],xac,ne,e2,xA3,(Heap.Ns1.of_empty e3).at λ o q=>xrN,λ _=>True.intro,xem y hy rfl hy⟩
def zG (hb:xJk f env (xqa e)=xqa e)
  (h:xl1 (xqa e) (λ o s₁=>xvY (getAttr o f true) s₁) E s):xeD (xqa (xB0 e pos)):=
 Attribute_any_ h (by rw [arm_eval_Attribute,hb])
universe s
inductive Wm (K:Frag) (f:Str) (Q:VK) (x:V) (H1:Hp):Prop
 |mk (a:_) (C:_) (dx:_) (fs:_) (v:_) (h0:x=Tm) (h1:H1 a=xqS) (h2:xgw) (h3:xcH f) (h4:xlv xBv) (h5:Q v H1):Wm K f Q x H1
def CJ (K:Frag)(ta:TE)(f:Str):TE:=λ σ H Q=>xgy λ x H1=>Wm K f Q x H1
inductive WR (K:Frag) (f:Str) (D:Ends) (σ:St) (y:V) (x:V) (H2:Hp):Prop
 |mk (a:_) (C:_) (dx:_) (fs:_) (h0:x=Tm) (h1:H2 a=xqS) (h2:xgw) (h3:xcH f) (h4:fs.length<1000) (h5:xA5 (xcL H2 a C dx (xEw y fs))):WR K f D σ y x H2
def DZ (K:Frag)(ta tv:TE)(f:Str):TS:=λ D σ H=>tv σ H λ y H1=>ta σ H1 λ x H2=>WR K f D σ y x H2
section
variable {X:Cx}{o e value:LN}{f:Str}{pos pos' tpos:Pos}{ta tv:TE}
def az (he:xl4 e)(hb:xJk f X.env xAu=xAu):xal (xB0 e pos) (CJ X.K ta f):=by
 intro LQ s σ H Q I h;refine zG hb (xq8 _ I h u);obtain⟨x,H1,I1,rx,a,C,dx,fs,v,ex,ea,c,n,l,q⟩:=z9;subst ex;obtain rfl:u=xcP:=rx;exact rG I1 ea c n l λ u' s2 I2 ru=>⟨v,H1,I2,ru,q⟩
def aI (ha:xl4 o)(hv:xal value tv)(hs:xHI value (some (xB0 o pos'))=xCe):xyU [xB0 o pos'] value pos (DZ X.K ta tv f):=by
 intro LQ s σ H D I h;refine plainObj_wpAny_Assign_Attribute (thn (hv LQ s σ H _ I h) λ u s1 ⟨y,H1,I1,ry,q⟩=>xgP (xE1 s1 H1 _ I1 q) ov s2) hs;obtain⟨x,H2,I2,rx,a,C,dx,fs,ex,ea,c,n,l,q2⟩:=z9;subst ex;obtain rfl:ov=xcP:=rx;exact rC I2 ea c n l ry λ s3 I3=>⟨σ,_,I3,q2⟩
universe s
section
variable {X:Cx}{LQ:Wp}{σ:St}{H:Hp}{s:LH}{A:LL}{E:Ρ}{Q:Ρ}{c:LG}{b:Bool}
inductive Ow (K:Frag) (H:Hp):V->Ο LG where
 |non:xHT .non "NoneType"
 |bl (x:Bool):xHT (.bl x) "bool"
 |int (i:Int):xus xcD xBo
 |str (x:Str):xHT xs7 "str"
 |flt (x:UInt64):xHT (.flt x) "float"
 |lst {a:LF} {xs:LT} (e:XL=xdg):xus Tm xvj
 |frz {a:LF} {o:LO} {xs:LT} (e:xip (.frz o xv2)):xus Tm xvj
 |tup {a:LF} {xs:LT} (e:xjf XL):xus Tm xBl
 |dK {a:LF} {LY:xmw Key} (e:xip xp3):xus Tm xFc
 |dT {a:LF} {LY:xmw xnR} (e:xip xiK):xus Tm xFc
 |ins {a C dx:LF} {fs:xev} (e:XL=xqS) (cl:xgw) (ha:xj2 K Γ "__class__" (some xpz))
   (hn:NE (specialIn K xpz "__get__") (some xAS)) (htk:xj5 (takesIn K xpz))
   (hm:xA0 K C xBe):xus Tm Γ
def uM {x:V}{u t:LG}(I:Ps)(rx:xrK)(ty:Ow X.K H x t)(e:NE (xK7 t c) b)(h:∀tk,xGX b (xII tk)):
  xmY (xr6 "isinstance" [u,c]) Q E s:=by
 cases ty with
 |non=>cases xgH Value.none rx;exact xBG PySem.W.kitx_none e xho h
 |bl y=>cases xgH (Value.bool y) rx;exact xBG PySem.W.kitx_bool e xho h
 |int i=>show xnM t q (show∃t,u=xst i from rx) q;exact xBG PySem.W.kitx_int e xho h
 |str y=>show xnM t q (show∃t,u=xCi y from rx) q;exact xBG PySem.W.kitx_str e xho h
 |flt y=>show xnM t q (show∃t,u=xKR y from rx) q;exact xBG PySem.W.kitx_float e xho h
 | @lst a xs ea=>
  cases xgH xcP rx;obtain⟨_,_,n,_,h1⟩:=(show xCY H a xv2 from xf9 a ea);exact xsr kitx_list (xqt h1) e xho h
 | @frz a ob xs ea=>
  cases xgH xcP rx;obtain⟨_,_,_,n,_,h1⟩:=(show xCY H a (.frz ob xv2) from xf9 a ea);exact xsr kitx_list (xqt h1) e xho h
 | @tup a xs ea=>
  cases xgH xcP rx;obtain⟨_,_,_,p⟩:=(show xCY H a (.tup xs) from xf9 a ea);obtain⟨o,h1,h2,_⟩:=p;exact xsr PySem.W.kitx_tuple (xer h1 h2) e xho h
 | @dK a LY ea=>
  cases xgH xcP rx;obtain⟨_,_,vs,_,p⟩:=(show xCY H a xp3 from xf9 a ea);obtain⟨o,es,ep,h1,h2,_⟩:=p;exact xsr kitx_dict (xer h1 h2.1) e xho h
 | @dT a LY ea=>
  cases xgH xcP rx;obtain⟨_,_,xs,_,o,es,ep,h1,h2,_⟩:=(show xCY H a xiK from xf9 a ea);exact xsr kitx_dict (xer h1 h2.1) e xho h
 | @ins a C dx fs ea cl ha hn htk hm=>
  cases xgH xcP rx;obtain⟨mA,O,_⟩:=xHb ea;obtain⟨od,J,_⟩:=O.look;exact xsr (PySem.W.kitx_own (cl.get _) cl.hd ha hn htk hm) J e xho h
universe s
structure J' (k:Nat)(A:LL):Prop where
 hd:30≤k->xKb
 dp:xKU (A.depth+3*k+5)
 un:xmf (16*k)+200<cLine
 gd:NE A.guards []
def J'.mono (r:xpe A)(h:j≤k):J' j A:=⟨xG6 (Ew z h),by show xbu r.dp,by show xbu r.un,r.gd⟩
theorem J'.deeper (r:J' (k+1) A)(env):xvv k env:=
 ⟨xG6 (F3 z),by have:=r.dp;show A.depth+1+3*k+5<_;lia,by have:=r.un;show xmf 3+16*k+200<_;lia,r.gd⟩
theorem J'.in1 (r:J' (k+1) A):xpe A.in1:=
 ⟨xG6 (F3 z),by have:=r.dp;show A.depth+3*k+5<_;lia,by have:=r.un;show xmf 1+16*k+200<_;lia,r.gd⟩
def rX {A:LL}:(xvx ⟨Γ::us,kw⟩).depth=A.depth+1:=by
 first|rfl|simp [Around.under,Code.weight,Code.isCreation,Code.isGuard,Code.isCaller,Code.frames,Code.isFrame,guardIds]
def rN {A:LL}:(xvx ⟨Γ::us,kw⟩).units=xmf 1:=by
 first|rfl|simp [Around.under,Code.cUnits,Code.frames,Code.isFrame]
def Ss {A:LL}:(xvx ⟨Γ::us,kw⟩).guards=A.guards:=by
 first|rfl|simp [Around.under,Code.guards,Code.isGuard,guardIds,pushGuards]
def J'.make (r:J' (k+1) A)(C)(us)(kw):xpe (xvx ⟨Γ::us,kw⟩):=
 ⟨xG6 (F3 z),by have:=r.dp;show xaF rX,by have:=r.un;show xaF rN,Ss.trans r.gd⟩
theorem J'.depth (r:xpe A):xKU A.depth:=by show xbu r.dp
theorem J'.units (r:xpe A):xmf 64<cLine:=by show xbu r.un
def iW:TA:=λ _ H Q=>Q [] H
def jT (ta:TE)(tr:TA):TA:=λ σ H Q=>xgy λ x H1=>tr σ H1 λ xs H2=>Q (x::xs) H2
section
variable {X:Cx}{e:LN}{es:xl8}{te:TE}{t:TA}{pos:Pos}
def ag:xiX [] iW:=λ _ _ _ _ H Q I h=>K5 ⟨[],H,I,.nil,h⟩
def aa (ha:xrd e)(hr:xiX es t)(hs:Μ (xkY=xfH::xkV)):xiX xcu (jT te t):=by
 intro pos LQ s σ H Q I h;rw [hs];show xg3 (spliced (xfH::xvW es));show xgl (K0 (xdd xo2 u)) x;exact xc7 (hr pos LQ s1 σ H1 _ I1 q1) us s2 z9 (by show xrU xs H2 I2 r2 q2;exact⟨x::xs,H2,I2,.cons r1 r2,q2⟩)
inductive Wk (Q:VK) (xs:LT) (H1:Hp):Prop
 |mk (h0:xnw) (h1:∀p,xgW p->Q xad (xcn H1 p xs)):Wk Q xs H1
def Du (t:TA):TE:=λ σ H Q=>xdo λ xs H1=>Wk Q xs H1
inductive Wl (Q:VK) (xs:LT) (H1:Hp):Prop
 |mk (h0:xnw) (h1:∀p,xgW p->Q xad (xbi H1 p xs)):Wl Q xs H1
def CQ (t:TA):TE:=λ σ H Q=>xdo λ xs H1=>Wl Q xs H1
def dH {x1}(h:xiX es t):xal (xGx x1 pos) (Du t):=by
 intro LQ s σ H Q I hq;refine wpAny_Tuple_spliced (thn (h pos LQ s σ H _ I hq) λ us s1 ⟨xs,H1,I1,r,z,q⟩=>xbW (by show xaC r.length z));have hf:xMt:=xx8;refine xby xMe (xcn H1 s1.heap.objs.size xs) (xKV s1.toks (λ b u e=>xdZ) Tl ?_) (q _ hf);show xav z us r (xc8 _ xfz _ rfl)
def aY (h:xiX es t):xal (.List es pos) (CQ t):=by
 intro LQ s σ H Q I hq;refine wpAny_List_spliced (thn (h pos LQ s σ H _ I hq) λ us s1 ⟨xs,H1,I1,r,z,q⟩=>xbW (by show xaC r.length z));have hf:xMt:=xx8;refine xby xMe (xbi H1 s1.heap.objs.size xs) (xKV s1.toks (λ b u e=>xdZ) Tl ?_) (q _ hf);exact⟨z,us,0,r,xfz⟩
universe s
abbrev Sp:=LT->Hp->VK->Ο XK
abbrev VT:=xeO->Hp->LH->XK->Ρ
structure Qi (P:LI)(w:LJ)(K:Frag)(mg:π)(base:LM)(A:LL)(outer:xeO)(s:LH)(H:Hp):Prop where
 frames:NE A.frames outer
 mod:Mod K mg base
 bs:∀b o,base.get? b=IO->xaG=IO/\xcg
 bsz:base.objs.size≤s.heap.objs.size
 funs:xIG outer
 frf:xaY xKr xcg
 hok:xsY H s.heap
 bare:AllBare s.gens
 qt:Qt A H
def CE (outer:xeO)(P:LI)(w:LJ)(H:Hp)(s:LH)(Q:VK)(u:LG)(s':LH):Prop:=
 ∃v H',s'.os=s.os/\xye/\Un xKr [] H H' s.heap s'.heap/\xsY H' s'.heap/\xdn/\xbf v
def CR (CX:VT)(outer:xeO)(P:LI)(w:LJ)(H:Hp)(s:LH)(Q:VK)(E:XK)(r:Result)(s':LH):Prop:=
 match r with
 | .ok (.ret u)=>CE outer P w H s Q u s'
 | .ok _=>False
 | .error e=>CX outer H s E e s'
structure y' (P:LI)(w:LJ)(K:Frag)(mg:π)(base:LM)(CX:VT)(k:Nat)(f:LF)(fd:LK)(ps:xae)(sp:Sp):Prop where
 len:∀vs H Q E,xd7->xnx
 run:∀(A:LL) (outer:xeO) (s:LH) (H:Hp) (args:Args) (us:xaI) (vs:LT) (Q:VK) (E:XK),xpe A->Qi P w K mg base A outer s H->BindsTo s fd args xyG->xxF->xd7->
  xsb (model P w) A xbN args (CR CX outer P w H s Q E) s
theorem y'.mono {P:LI}{K:Frag}(F:xfe P w K CX j f fd ps sp)(h:j≤k):
  xfe P w K CX k f fd ps sp:=⟨F.len,λ A outer s H args us vs Q E hr=>F.run A outer s H args us vs Q E (hr.mono h)⟩
def y'.imp {P:LI}{K:Frag}(F:xfe P w K CX k f fd ps sp)
  (h:∀vs H Q E,sp' vs H Q E->xd7):xfe P w K CX k f fd ps sp':=
 ⟨λ vs H Q E q=>F.len vs H Q E (xkv _ _ q),λ A outer s H args us vs Q E hr he hb hv hs=>F.run A outer s H args us vs Q E hr he hb hv (xkv _ _ hs)⟩
def Qi.make {K:Frag}(e:Qi P w K mg base A outer s H)(C)(us)(kw):
  Qi P w K mg base (xvx ⟨Γ::us,kw⟩) outer s H:=⟨by first|exact e.frames|(simpa [Around.under,Code.envs,Code.isFrame,pushEnvs] using e.frames),e.mod,e.bs,e.bsz,e.funs,e.frf,e.hok,e.bare,e.qt⟩
theorem Qi.in1 {K:Frag}(e:Qi P w K mg base A outer s H):
  Qi P w K mg base A.in1 outer s H:=⟨e.frames,e.mod,e.bs,e.bsz,e.funs,e.frf,e.hok,e.bare,e.qt⟩
section
variable {X:Cx}{LQ:Wp}{σ:St}{H:Hp}{s s':LH}
def Inv.env0 (I:Ps):Qi X.prog X.w X.K X.mg X.base X.A X.stack s H:=
 ⟨I.ok.frames,I.ok.mod,I.bs,xFQ I.sz,I.stack,I.stkFree,I.hok,I.bare,I.qt⟩
def Inv.after {Q:VK}{u:LG}(I:Ps)(h:CE X.stack X.prog X.w H s Q u s'):xpg u s':=by
 obtain⟨v,H',os,bare,un,hok,r,q⟩:=h;obtain⟨hh,g,d,t,os'⟩:=s';obtain rfl:os'=s.os:=os;exact⟨v,H',I.call (h':=hh) (g':=g) (d':=d) (t':=t) (ch:=[]) un hok bare (xem b z z Z6),r,q⟩
universe s
def oQ (sp:Sp)(Nq:LT)(E:XK)(t:TA):TE:=λ σ H Q=>xdo λ vs H1=>sp (vs++Nq) H1 Q E
inductive TZ (C:LF) (m:Str) (sp:Sp) (Nq:LT) (E:XK) (t:TA) (σ:St) (Q:VK) (x:V) (H1:Hp):Prop
 |mk (a:_) (dx:_) (fs:_) (h0:x=Tm) (h1:H1 a=xqS) (h2:xJQ m) (h3:t σ H1 λ vs H2=>sp (x::(vs++Nq)) H2 Q E):TZ C m sp Nq E t σ Q x H1
def jV (C:LF)(m:Str)(sp:Sp)(Nq:LT)(E:XK)(ta:TE)(t:TA):TE:=λ σ H Q=>xgy λ x H1=>TZ C m sp Nq E t σ Q x H1
def Av (C:LF)(sp:Sp)(Nq:LT)(E:XK)(t:TA):TE:=λ σ H Q=>xdo λ vs H1=>∀x dx,xgW x->xgW dx->dx≠x->
 sp (xbk::(vs++Nq)) (xcL (xsR H1 dx x) x C dx []) (λ v H2=>v=.non/\Q xbk H2) E
def Binds (K:Frag)(fd:LK)(ps:xae)(ds:xaI):Prop:=
 ∀s us,xlQ->xu6 (xaN us ds)->xw6 s us (ps.zip (us++ds))
def Binds.all {K:Frag}{fd:LK}(h:∀us:xaI,xu6 us.length->bindArgs fd (xgU us)=pure xyG):xoA:=λ s us _ hl=>by
 show xjl Fw hl (.of_eq (h us hl))
def dl (CX:VT)(X:Cx)(E:XK):Prop:=∀(LQ:Wp) (σ:St) (H:Hp) s e s',Ps->CX X.stack H s E e s'->X.xe e s'
section
variable {X:Cx}{CX:VT}{k:Nat}{f C:LF}{fd:LK}{ps:xae}{sp:Sp}{Nq:LT}{ds:xaI}{E:XK}{x m:Str}{p pos apos:Pos}{e o:LN}{es:xl8}{ta:TE}{t:TA}
def iN {LQ:Wp}{σ:St}{H:Hp}{s:LH}{Q:VK}{us:xaI}(F:xne)(hr:xju)(hb:xmE)(hd:xmC)(hx:xtV X E)
  (I:Ps) (r:xxF) (h:sp (vs++Nq) H Q E):xkC (xqh us) X Q s:=by
 have r2:Vals (vs++Nq) (us++ds):=xJX;have hl:xu6 (xaN us ds):=by show xaC r2.length (F.len _ _ _ _ h)
 refine Kc (Kh (xFJ X.A s H (xgU us) (us++ds) (vs++Nq) Q E hr I.env0 (hb s us I.kIn hl) r2 h) (Sc r s' hq));cases r with
 |error e=>exact hx LQ σ H s e s' I hq
 |ok fl=>
  cases fl with
  |ret u=>exact I.after hq
  |next=>show xoX
  |brk=>show xoX
  |cont=>show xoX
def bq (F:xne)(hr:xju)(hg:xe8)(hm:xiO=xdB)(hk:xpB X.K xbN)(hb:xmE)(hd:xmC)(hx:xtV X E)
  (ha:xm5) (Rf:xdw (x==xdQ)) (he:Μ (xkY=xfH::xkV)) (Nu:xnl):
  xlb x p xcu [] (oQ sp Nq E t):=by
 intro LQ s σ H Q I h;show TD (GD (xrq I ?_ Rf)) (IA (h₀:=X.base) I.ok.mod.kin hk (thn xng (xJt us s1 I1.kIn)) he Nu);exact iN F hr hb hd hx I1 r q
def ou (F:xne)(hr:xju)(hg:xe8)(hm:xiO=xdB)(hk:xpB X.K xbN)(hb:xmE)(hd:xmC)(hx:xtV X E)
  (Rf:xdw (x==xdQ)):xlb x p [] [] (oQ sp Nq E iW):=by
 intro LQ s σ H Q I h;refine GD (xrq I ?_ Rf);exact Jb I.kIn hk (iN (us:=[]) F hr hb hd hx I .nil h)
def eE {pl:xwe}(he:xl4 o)(c:xty)(hm:xol X.K m f)(F:xne)(hr:xju)(hb:xmE)(hd:xmC)(hx:xtV X E)(ha:xm5)
    (Nd:Μ (xkY=xfH::xkV)) (Nu:xnl)
    (ht:Μ (xxS o m xcu=(do
      let ov<-xoK
      xu5
      let xwN f<-xva [ov] ov m pl
      xxm f xcu xxn))):
    xxR o m xcu (jV C m sp Nq E ta t):=by
  intro LQ s σ H Q I h
  refine IB (pl:=pl) (xq8 _ I h u) ht
  obtain⟨x,H1,I1,rx,a,dx,fs,ex,ea,l,q⟩:=z9
  subst ex
  obtain rfl:u=xcP:=rx
  show TD (dG I1 ea c hm l ?_) (IA (first:=xbK) (h₀:=X.base) I.ok.mod.kin hm.kp (thn (xFe s1 H1 _ I1 q) (xJg us s2 I2.kIn)) Nd Nu)
  exact iN (us:=Tm::us) (vs:=Tm::vs) F hr hb hd hx I2 (xGI r) q2
def jF {pl:xwe}(he:xl4 o)(c:xty)(hm:xol X.K m f)(F:xne)(hr:xju)(hb:xmE)(hd:xmC)(hx:xtV X E)
    (ht:Μ (xxS o m []=(do
      let ov<-xoK
      xu5
      let xwN f<-xva [ov] ov m pl
      xxm f [] xxn))):
    xxR o m [] (jV C m sp Nq E ta iW):=by
  intro LQ s σ H Q I h
  refine IB (pl:=pl) (xq8 _ I h u) ht
  obtain⟨x,H1,I1,rx,a,dx,fs,ex,ea,l,q⟩:=z9
  subst ex
  obtain rfl:u=xcP:=rx
  refine dG I1 ea c hm l ?_
  exact Jb (first:=xbK) I1.kIn hm.kp (iN (us:=xbK) (vs:=xbK) F hr hb hd hx I1 (xlU rfl) q)
structure Mk (K:Frag)(C f:LF):Prop where
 makes:xvD K C
 init:xvH K Γ xdB
 fn:xzj K xbN
 kp:xpB K Γ
def oA {LQ:Wp}{σ:St}{H:Hp}{s:LH}{Q:VK}{us:xaI}(M:Mk X.K C f)(F:xne)(hr:xvl (k+1))(hb:xmE)(hd:xmC)
  (hx:xtV X E) (I:Ps) (r:xxF)
  (h:∀x dx,υ x->υ dx->dx≠x->sp (xbk::(vs++Nq)) (xcL (xp6 dx x) x C dx []) (λ v H2=>v=.non/\Q xbk H2) E):
  xkC (call Γ us) X Q s:=by
 have hq:=h xcq s.heap.objs.size (I.hok.fresh xky) xlI (FA xtm);have I2:=Inv.made (C:=C) I;have r2:Vals (V.ref xcq::(vs++Nq)) (xsH xcq (us++ds)):=xGI xJX;have hl:xu6 (xaN (xsH xcq us) ds):=by
  have e:=r2.length;show WF (F.len _ _ _ _ hq) e e.symm
 refine Kc (x4 I.kIn M.makes M.init (Fv.mp M.fn) (Kh (xFJ _ _ _ (xgU (xsH xcq us)) (xsH xcq (us++ds)) _ _ E (hr.make C us []) (I2.env0.make C us []) (xq2 (xsH xcq us) I2.kIn hl) r2 hq) (Sc r s' UG)))
 cases r with
 |error e=>exact hx LQ σ _ _ e s' I2 UG
 |ok fl=>
  cases fl with
  |ret u=>
   obtain⟨v,H',I3,rv,ev,q3⟩:=I2.after UG;subst ev;show xar rv (xby (V.ref xcq) H' I3 q3)
  |next=>show xjX UG
  |brk=>show xjX UG
  |cont=>show xjX UG
def fF (M:Mk X.K C f)(F:xne)(hr:xvl (k+1))(hg:xe8)(hm:xiO=xgr)(hb:xmE)(hd:xmC)(hx:xtV X E)
  (ha:xm5) (Rf:xdw (x==xdQ)) (he:Μ (xkY=xfH::xkV)) (Nu:xnl):
  xlb x p xcu [] (Av C sp Nq E t):=by
 intro LQ s σ H Q I h;show TD (GD (xrq I ?_ Rf)) (IA (h₀:=X.base) I.ok.mod.kin M.kp (thn xng (xJt us s1 I1.kIn)) he Nu);exact oA M F hr hb hd hx I1 r q
def bX (M:Mk X.K C f)(F:xne)(hr:xvl (k+1))(hg:xe8)(hm:xiO=xgr)(hb:xmE)(hd:xmC)(hx:xtV X E)
  (Rf:xdw (x==xdQ)):xlb x p [] [] (Av C sp Nq E iW):=by
 intro LQ s σ H Q I h;refine GD (xrq I ?_ Rf);exact Jb I.kIn M.kp (oA (us:=[]) M F hr hb hd hx I .nil h)
universe s
section
variable {X:Cx}{CX:VT}{k:Nat}{f C:LF}{fd:LK}{ps ks:xae}{sp:Sp}{E:XK}{x m:Str}{p pos apos kpos:Pos}{e o:LN}{es:xl8}{kws:xJY}{te ta:TE}{t tk:TA}{nm:Option Str}
variable {g:xaI -> xaI -> xaI}{gV:LT -> LT -> LT}
universe s
structure i' (N P:xae)(sc:Scope):Prop where
 kind:xIJ sc.kind
 co:τ sc.isCoroutine
 gen:τ sc.isGenerator
 nd:N.Nodup
 pre:N.take P.length=P
 par:xgF P (xrZ x .local\/xrZ x .cell)
 nofree:∀y∈sc.names,xz3 y.2
def scB (N P:xae)(c:Scope):Bool:=xa2 c.kind .function&& ! c.isCoroutine&& ! c.isGenerator&&decide N.Nodup&&xa2 (N.take P.length) P&&P.all (xed x (NE (c.names.lookup x) .local\/NE (c.names.lookup x) .cell))&&c.names.all (xed y (xz3 y.2))
def L7 {N P:xae}{c:Scope}(h:Pi (scB N P c)):i' N P c:=by
 simp only [scB,JF,decide_eq_true_eq,K6,List.all_eq_true] at h;obtain⟨⟨⟨⟨⟨⟨a,b⟩,d⟩,e⟩,f⟩,g⟩,i⟩:=h;exact⟨a,b,d,e,f,g,i⟩
theorem lm {kindOf:Str->xE2}:∀{binds} {m},(∀v,(x,v)∉binds)->xFr binds m x=m x
 | [],_,_=>rfl
 |(n,v)::r,m,h=>by
  show xaP bindL (lm λ w hw=>xhQ w hw)
  split
  ·have:x≠n:=by rintro rfl;exact xlu v
   simp [this]
  ·rfl
theorem lS {kindOf:Str->xE2}:∀{binds} {m},(∀v,(x,v)∉binds)->xFs binds m x=m x
 | [],_,_=>rfl
 |(n,v)::r,m,h=>by
  show xaP bindC (lS λ w hw=>xhQ w hw)
  split
  ·rfl
  ·have:x≠n:=by rintro rfl;exact xlu v
   simp [this]
theorem k6 {kindOf:Str->xE2}:∀{P:xae} {vs} {i:Nat} {m},P.Nodup->xgb P->Ν vs v->NE (kindOf x) .local->
  xlv (xFr xy5 m x)
 | [],_,_,_,_,h,_,_=>by show xbd
 |_::_,[],_,_,_,_,h,_=>by show xbd
 |p::P,w::vs,0,m,nd,h1,h2,hk=>by
  simp at h1 h2;subst h1;subst h2;show xFr ((p,w)::xy5) m p=_;unfold bindL;rw [lm λ v hv=>xFW.1 (JU hv).1,EU hk];simp
 |p::P,w::vs,i+1,m,nd,h1,h2,hk=>by
  show xFr ((p,w)::xy5) m x=_;unfold bindL;exact k6 xFW.2 (by show xte) (by simpa using h2) hk
theorem lP {kindOf:Str->xE2}:∀{P:xae} {vs} {i:Nat} {m},P.Nodup->xgb P->Ν vs v->xq9 (kindOf x) .local->
  xlv (xFs xy5 m x)
 | [],_,_,_,_,h,_,_=>by show xbd
 |_::_,[],_,_,_,_,h,_=>by show xbd
 |p::P,w::vs,0,m,nd,h1,h2,hk=>by
  simp at h1 h2;subst h1;subst h2;show xFs ((p,w)::xy5) m p=_;unfold bindC;rw [lS λ v hv=>xFW.1 (JU hv).1,EI hk];simp
 |p::P,w::vs,i+1,m,nd,h1,h2,hk=>by
  show xFs ((p,w)::xy5) m x=_;unfold bindC;exact lP xFW.2 (by show xte) (by simpa using h2) hk
noncomputable def start (N:xae) (vs:LT):St:=vs.map some++xEe (N.length-vs.length)
noncomputable def cxOf (CX:VT) (P:LI) (w:LJ) (K:Frag) (mg:π) (base:LM) (N:xae) (qual:Str) (scope:Scope) (f:LF) (cd:LG) (A:LL) (outer:xeO) (s:LH) (H:Hp) (E:XK):Cx where
 prog:=P
 w:=w
 K:=K
 mg:=mg
 base:=base
 A:=A.deeper (xsX f cd)
 N:=N
 s₀:=s
 H₀:=H
 env:=xsX f cd
 outer:=outer
 stack:=xsX f cd::outer
 ex:=[]
 calm:=true
 fn:=λ _=>true
 pn:=[]
 xe:=λ e s'=>xrP P w (A.deeper (xsX f cd)) (leaving (xsX f cd) e) (λ _ Oq=>CX outer H s E e Oq) (λ e' Oq=>CX outer H s E e' Oq) s'
def oM {sc:Scope}(h:xrZ x .cell):∃c,NE ((cellsFrom n sc.names []).lookup x) c:=by
 have q:=J8 sc.names n [] (.inl h);exact Option.isSome_iff_exists.mp q
def ll {CX:VT}{K:Frag}
  (S:i' N ps scope) (e0:Qi P w K mg base A outer s H) (hl:xnx) (r:xxF)
  (x:InCallC s s.heap.objs.size (bindL (xsX f cd).kindOf xyG xA3) (xIR xcq []) (bindC (xsX f cd).kindOf xyG xA3) s1):
  xms (xq5 CX P w K N f cd A outer s H E) xiS H s1:=by
 have Nu:ps.length≤N.length:=by show xdA (xjS S.pre) EH;lia
 obtain⟨h1,tk,rfl,hk⟩:=x.done;have Xl:∀b,xgD (xq5 CX P w K N f cd A outer s H E).ex:=xem b z (xku b ([]:Ω) z) Z6
 refine⟨⟨e0.mod,S.kind,rfl,rfl,Tl,λ y z c h1 h2=>?_,PP y hy,λ y c _ h=>?_,e0.qt,xLK,xv7,xem b z z xAp,e0.bs,e0.bsz,λ b _ _=>xAp,xem b z z xAp,e0.funs,e0.frf⟩,
  rfl,e0.bare,xK8,xaU x.toInCall.ns (λ i y v h1 h2 h3=>?_),λ y c h=>xa1 (x.cell y c h),e0.hok.fresh Tl,Sc y c h,xem p hp (xku p ([]:Wp) hp) Z6,e0.hok.kept hk,?_⟩
 ·exact name_of_addr x.apart (FO h1) (FO h2)
 ·have hy:xrS y .cell\/xrS y .free:=hy;rcases hy with hy|hy
  ·exact oM hy
  ·show xab rfl (S.nofree _ (FO hy))
 ·exact EZ (x.above y c (FO h))
 ·have hi:i<vs.length:=by
   unfold start at h2;by_cases hi:i<vs.length
   ·exact hi
   ·rw [E4 (by simpa using hi)] at h2;rw [IW] at h2
    split at h2<;>cases h2
  have ha:Ν vs v:=by
   unfold start at h2;rw [Fs (by simpa using hi),Fq] at h2;cases e:vs[i]? with
   |none=>show xeG h2 h2
   |some a=>show xeG h2 h2;rfl
  obtain⟨u,hu,rv⟩:=r.get ha;have hp:Ν ps y:=by
   rw [<-S.pre,List.getElem?_take_of_lt (EJ hi hl)];exact h1
  have ndP:ps.Nodup:=by show xaC S.pre (S.nd.sublist (IK _ _))
  refine Ψ u rv;rcases S.par y (FG hp) with k|k
  ·show xaT ⟨k,k6 ndP hp hu k⟩
  ·show xbD c e (oM k) (.inr ⟨.inl k,c,e,?_⟩);have q:=x.cell y c e;show WF (lP ndP hp hu (by show scope.names.lookup y≠_;show xpu k)) q q
 ·exact e0.hok.fresh (EZ (x.above y c (FO h)))
 ·unfold start;show _=N.length;rw [Et,Es,Ff];lia
def oq {P:LI}{w:LJ}{K:Frag}{f:LF}{dV kV doc pm LS ct oc:LG}
    (lk:xkZ f oc od (xGy qual params body scope dV kV doc pm an LS ct) osl) (OW:xj8 K LS qual) (S:i' N ps scope)
  (len:∀vs H Q E,xd7->xnx)
  (Pj:∀(A:LL) (outer:xeO) (s:LH) (H:Hp) (vs:LT) (Q:VK) (E:XK),xvv k (xsX f LS)->xd7->
   ∃t,xwr (xq5 CX P w K N f LS A outer s H E) t/\xtb H' xpA Q xiS H):
  xfe P w K CX (k+1) f (xGy qual params body scope dV kV doc pm an LS ct) ps sp:=by
 refine⟨len,λ A outer s H args us vs Q E hr e0 hb r Pf=>?_⟩;have hl:=len _ _ _ _ Pf;have KX:xlQ:=e0.mod.kin.keeps λ b o e=>(e0.bs b o e).1
 have lim:s.heap.NoLimit:=e0.mod.nolimit.keeps λ b o e=>(e0.bs b o e).1
 have N9:∀y∈xyG,xwb xhj\/(xrS xhj .cell/\xke ((xIR xcq []).lookup xhj)):=λ⟨n,v⟩ hy=>by
  rcases S.par n (JU hy).1 with q|q
  ·show xaT q
  ·exact xcz q (J8 _ _ _ (.inl q))
 show TD (xLL (KX _ _ lk) rfl S.co S.gen rfl (codeRec_of KX OW) (xq2 _ _ _ ?_)) (xLH N9 λ env he s1 x=>?_)
 subst he;show xfo ⟨xL3,codeAny_func ?_⟩ t ht hq (Pj A outer s H vs Q E (hr.deeper _) Pf);have I:xms (xq5 CX P w K N f LS A outer s H E) xiS H s1:=ll S e0 hl r x;refine F9 (ht [] s1 xiS H _ I hq) (Sc fl s' hs) λ e s' hs=>hs
 have fin:∀{σ'} {H'} {v} {u},xms (xq5 CX P w K N f LS A outer s H E) σ' H' s'->xdn->xbf v->CE outer P w H s Q u s':=
  λ {σ' H' v u} J rv q=>⟨v,H',J.os,J.bare,J.base,J.hok,rv,q⟩
 cases fl with
 |ret u=>
  obtain⟨v,σ',H',J,rv,q⟩:=hs;exact fin J rv q
 |next=>
  obtain⟨σ',H',J,q⟩:=hs;exact fin (v:=V.non) J rfl q
 |brk=>
  show xE8 q hs q
 |cont=>
  show xE8 q hs q
section
variable {X:Cx}{x:Str}{p pos:Pos}{e:LN}{es:xl8}{t:TA}{id T:String}{r:LT -> Hp -> xe3}
def tCB (r:LT->Hp->xe3)(t:TA):TE:=λ σ H Q=>xdo λ vs H1=>r vs H1 Q
def a8 (hc:xr4 X id r)(hg:xe8)(hm:xnA x)(hv:xyc x (.builtin id))(ha:xm5)(hn:xuP xAw)(Rf:xdw (x==xdQ))
  (he:Μ (xkY=xfH::xkV)) (Nu:xnl):xlb x p xcu [] (tCB r t):=by
 intro LQ s σ H Q I h;refine GD (xuB hv ?_ hn Rf);exact PyProof.Rows.callWith_builtin1 (xc7 xng us s1 z9 (by show xn4 vs;exact hc LQ s1 σ H1 vs us Q I1 r1 q1)) he Nu
def bM (hc:dX X xGk r)(hg:xe8)(hm:xnA x)(hv:xyc x xGk)(ha:xm5)(hn:xuP xAw)(Rf:xdw (x==xdQ))
  (he:Μ (xkY=xfH::xkV)) (Nu:xnl):xlb x p xcu [] (tCB r t):=by
 intro LQ s σ H Q I h;refine GD (xuB hv ?_ hn Rf);exact Gy (xc7 xng us s1 z9 (by show xn4 vs;exact hc LQ s1 σ H1 vs us Q I1 r1 q1)) he Nu
universe s
universe L2
namespace HT
open PySem PyProof.Rows
section
open PySem.SeqAt
open PySem.AutoSeq1 (wpAny_loadPart')
open PySem.MeetsSeq PySem.MeetsSeq2 PySem.MeetsSeq3
universe s
section
variable {prog:LI}{w:LJ}{A:LL}{E:Ρ}{s:LH}
noncomputable def sIx (n d:Nat):xp2 xb9
 |none=>d
 |some v=>if v<0 then xi1 v xai else xKh
def PH (n d:Nat):xkP d none=d:=rfl
def Mz (n d k:Nat):xkP d (some xh2)=xxi k:=by
 show xcI (xh2<0) (xi1 xh2 xai) (xxi (xh2).toNat)=xxi k;rw [EI Z5,E6]
def Bu (n d:Nat)(hd:xbv d)(o:xb9):xbv (xkP d o):=by
 cases o with
 |none=>exact hd
 |some v=>
  show xbv (xcI (v<0) (xi1 v xai) xKh);by_cases hv:v<0
  ·rw [EU hv];omega
  ·show xkF hv (FX _ _)
def sF (v:Int)(n d:Nat):xcI (v<0) (max (v+xai) 0) (min v xai)=M2 (xkP d xdV):=by
 show xcI (v<0) (max (v+xai) 0) (min v xai)=M2 (xcI (v<0) (xi1 v xai) xKh);by_cases hv:v<0
 ·simp only [EU hv];omega
 ·simp only [EI hv];omega
def qN (lo hi:xb9)(n:Nat):xLQ hi 1 xai=(M2 (xkP 0 lo),M2 (xkP n hi)):=by
 have h1:¬(xb4<0):=Z4;unfold Builtin.Slice.sliceAdjust;simp only [h1,JO];refine Prod.ext ?_ ?_
 ·cases lo with
  |none=>rfl
  |some v=>exact sF v n 0
 ·cases hi with
  |none=>rfl
  |some v=>exact sF v n n
def rA (i j:Nat):xIE xd0 (Ty j)=j-i:=by
 unfold Builtin.Slice.slicePlaces;have h1:xb4>0:=Z4;simp only [h1,if_true,Int.ediv_one]
 split<;>omega
def kB {v:LG}{o:xb9}{Q:xfw xb9}(p:IsPart v o)(h:Q o s):xeD (Builtin.Slice.slicePartIndex v):=by
 cases p with
 |none=>exact slicePart_none h
 |int i t=>exact slicePart_int h
def eA {sl:LF}{vl vu:LG}{lo hi:xb9}{n:Nat}{Q:xfw (Int×Int×Nat)}(hs:xEy vl vu .none)(pl:xGz lo)(pu:xGA hi)
  (h:Q (M2 (xkP 0 lo),1,xkP n hi-xkP 0 lo) s):xeD (Builtin.Slice.sliceApplied xyS (pure xai)):=by
 show xn7 os YU SQ hds hs;unfold Builtin.Slice.sliceApplied Builtin.Slice.sliceFields;show xdu (Ev (Gw YU hds (x:=vl) rfl (Ev (Gw YU hds (x:=vu) rfl (Ev (Gw YU hds (x:=.none) rfl xeR)))))) (slicePart_none ?_);show xth (xb4==0);show xjw (EI Z9) (kB pl (Ev (kB pu (Ev xeR))));show xg3 (match xLQ hi 1 xai with|(lo,hi)=>pure (lo,xb4,xIE lo hi));rw [qN lo hi n];show xg3 (pure (M2 (xkP 0 lo),xb4,xIE (M2 (xkP 0 lo)) (M2 (xkP n hi))));show LE rA (EM h)
def xt (xs:xkj)(i k:Nat):((List.range k).filterMap λ(m:Nat)=>xs[xi1 xd0 (xk3*1)]?).toArray=(xz4 xnu).toArray:=by
 have e:(λ(m:Nat)=>xs[xi1 xd0 (xk3*1)]?)=λ m=>xs[i+m]?:=by
  funext m;have:xi1 xd0 (xk3*1)=i+m:=Z4;rw [this]
 rw [e];show xdA (pick_run xs i k) List.filterMap_map;have e2:((λ x=>xs[x]?)∘λ x=>i+x)=λ m=>xs[i+m]?:=rfl
 rw [e2] at this;rw [this]
def Om {t sl:LF}{items:xkj}{vl vu:LG}{lo hi:xb9}{Q:Ρ}(ht:xBy t items)(hs:xEy vl vu .none)(pl:xGz lo)(pu:xGA hi)
  (hw:¬(xe5=0/\xmA=items.size))
  (h:Q xpE (xlE (s.heap.push (xG3 (xsc (xIz xe5 (xmA-xe5)))))))
  (hsz:xc2 items.size):xeD (getItem xfr xyS):=by
 have TL:sizeOk (xsc (xIz xe5 (xmA-xe5))):=by
  show xc2 (xIz xe5 (xmA-xe5)).toArray.size;rw [EO,EH,EE,FN];omega
 have hj:xmA≤items.size:=Bu _ _ Tl hi;show xn7 os YU SQ hds hs;have hTs:s.TypeIs xyS "slice":=⟨os,YU,SQ⟩;unfold getItem
 try with_reducible refine Gf ?_
 first|show xaa xeR|skip
 show xdu (xLV Z9 ?_) (Hb (name:=xLZ) ht.typeIs Gh
  (Io Gh ht.typeIs entry_tuple_getitem ?_ (xMm _)))
 show xg3 (xLO>>=_);show xdu (tupleItemsOf_ ht ?_) (wpAny_typeOf hTs ?_);show xjw (EU Z9) (eA hs pl pu ?_);have hno:¬(Pi (M2 xe5==0&&xb4==1&&xGs (xmA-xe5))):=by
  intro q;rw [JF,JF] at q;have q1:M2 xe5=0:=eq_of_beq xa5.1;have q2:xmA-xe5=items.size:=eq_of_beq xbl;exact hw ⟨Z4,Z4⟩
 show xth (M2 xe5==0&&xb4==1&&xGs (xmA-xe5));rw [EI hno,xt]
 first
  |exact Ev (m:=xEl) (Ic (xDO h) TL)
  |exact Ev (m:=xEl) (Ic (Ev (EM (xDO h))) TL)
  |exact Ev (Ev (m:=xEl) (Ic (EM (xDO h)) TL))
  |exact Ev (Ev (m:=xEl) (Ic (xDO h) TL))
universe s
universe HT
namespace L2
open PySem PySem.Spec PyProof.Rows
abbrev TO:=St->Hp->Ο (xe0 xb9)
def PO (X:Cx)(e:Option LN)(t:TO):Prop:=
 ∀(LQ:Wp) (s:LH) (σ:St) H Q,Ps->xdo Q->
  xgG (evalPart e X.env) (λ u s'=>∃o H',xi8/\IsPart u o/\xbf o)
def uf:TO:=λ _ H Q=>xDY H
inductive TV (Q:xe0 xb9) (x:V) (H1:Hp):Prop
 |mk (i:_) (h0:x=xcD) (h1:Q (some i) H1):TV Q x H1
def An (t:TE):TO:=λ σ H Q=>xdo λ x H1=>TV Q x H1
def cW:∀{us},xr0 xeI->xvT us:=by
 induction ns with
 |nil=>intro us r;show ρ KQ r r;show xeE
 |cons n ns ih=>
  intro us r;rw [FZ] at r;cases r with
  |cons r1 r2=>
   obtain⟨t,e⟩:=r1;subst e;exact .cons n t (ih r2)
section
variable {X:Cx}{e:LN}{te:TE}{lo hi:Option LN}{tl th:TO}{pos p2:Pos}
def bQ:PO X none uf:=by
 intro LQ s σ H Q I h;show LE evalPart_none (EM ⟨none,H,I,.none,h⟩)
def aP (h:xrd e):PO X (some e) (An te):=by
 intro LQ s σ H Q I hw;show ST evalPart_some (xdd (h LQ s σ H _ I hw) u)
 show xn4 x;show xpG i q q1;show xf1 t r1 ⟨some i,H1,I1,xmu,q⟩
def Xd (X:Cx)(r:V->xb9->xb9->Hp->xe3):Prop:=
 ∀(LQ:Wp) (s:LH) (σ:St) (H:Hp) x v vl vu lo hi sl Q,Ps->xm4->xEy vl vu .none->xGz lo->xGA hi->r x lo hi H Q->
  ∃T id,xMv xGk=pure (xA8 id)/\s.TypeIs v T/\xkC (getItem v xyS) X Q s
def Xd.or {r r':V->xb9->xb9->Hp->xe3}(h:Xd X r)(h':Xd X r'):Xd X (λ x lo hi H Q=>r x lo hi H Q\/r' x lo hi H Q):=by
 intro LQ s σ H x v vl vu lo hi sl Q I rx hs pl pu q;rcases q with q|q
 ·exact h LQ s σ H x v vl vu lo hi sl Q I rx hs pl pu q
 ·exact h' LQ s σ H x v vl vu lo hi sl Q I rx hs pl pu q
def tSl (r:V->xb9->xb9->Hp->xe3)(te:TE)(tl th:TO):TE:=λ σ H Q=>xfI λ x H1=>tl σ H1 λ l H2=>th σ H2 λ u H3=>r x l u H3 Q
def aV {r:V->xb9->xb9->Hp->xe3}(hr:Xd X r)(he:xrd e)(hl:PO X lo tl)(hu:PO X hi th):xal (xvr e (.Slice lo hi none p2)) (tSl r te tl th):=by
 intro LQ s σ H Q I h;show xgl (Subscript_ (xq8 _ I h v)) x;refine wpAny_Slice (thn (hl LQ s1 σ H1 _ I1 q1) λ vl s2 ⟨l,H2,I2,pl,q2⟩=>xgP (hu LQ s2 σ H2 _ I2 q2) vu s3);show xrU u H3 I3 pu q3;show ST evalPart_none xeR;have I4:xiw H3 (xI7 s3 (xxU "slice" #[vl,vu,.none])):=I3.kept (t':=s3.toks) λ b ob q=>xrN
 obtain⟨T,id,hT,ht,hg⟩:=hr LQ (xI7 s3 (xxU "slice" #[vl,vu,.none])) σ H3 x v vl vu l u s3.heap.objs.size Q I4 r1 (Heap.IsSliceOf.new ..) pl pu q3;show xkC (subscriptTail e (.Slice lo hi none p2) v (.ref s3.heap.objs.size)) X Q (xI7 s3 (xxU "slice" #[vl,vu,.none]));exact tail_any ht hT hg (by with_unfolding_all rfl)
def cutV (xs:LT)(lo hi:xb9):LT:=xgn (xs.drop xuL) (xBC hi) xuL
def iP (xs:LT)(lo hi):xbg (xDs lo hi) xs.length:=by
 unfold cutV;rw [EH,EE];exact xmd _ _ xmO
inductive rSlT (K:Frag) (x:V) (lo:xb9) (hi:xb9) (H:Hp) (Q:VK):Prop
 |mk (a:_) (xs:_) (h0:x=Tm) (h1:xna a xs) (h2:¬(xuL=0/\xnO (xBC hi))) (h3:∀p,xid->Q xad (xcn H p (xDs lo hi))):rSlT K x lo hi H Q
def Bh:Xd X (rSlT X.K):=by
 intro LQ s σ H x v vl vu lo hi sl Q I rx hs pl pu h;obtain⟨a,xs,rfl,hx,hw,q⟩:=h;cases rx;show xsN r ht hz hx;have hlen:xMF:=by show LE EO r.length.symm
 show TD ⟨"tuple",_,Gh.lookup,ht.typeIs,?_⟩ (HT.Om ht hs pl pu (by show LE hlen hw) ?_ (by show LE hlen hz));show ST hlen (xby xpE _ (I.laid (t':=s.toks) (o:=.tup (xDs lo hi)) (λ b ob q=>xrN) Tl ?_) (q _ xlI));show xav (Ew (iP xs lo hi) hz) _ (xgn (r.drop xuL) (xBC hi) xuL) (IsTup.new _ _)
universe s
noncomputable def ixN (n:Nat) (i:Int):xiD:=if 0≤i then(xxd (i<n) i.toNat) else xxd (-xai≤i) (xi1 i n)
noncomputable def XD {α:Type} (xs:xbH) (i:Int):Option α:=(xBp i).bind λ j=>xs[j]?
def sV {n:Nat}(h:NE (ixN n i) j):NE (seqIndex? i n) j/\j<n/\-xai≤i/\i<n:=by
 unfold ixN at h;by_cases h0:0≤i
 ·rw [EU h0] at h;by_cases h1:i<n
  ·rw [EU h1] at h;have e:i.toNat=j:=Fb h;show xav (by rw [xJv h1,e]) Z5 Z5 h1
  ·show ρ xoq h h
 ·rw [EI h0] at h;by_cases h1:-xai≤i
  ·rw [EU h1] at h;have e:xi1 i n=j:=Fb h;show xav (by rw [xI9 h0 h1,e]) Z5 h1 Z5
  ·show ρ xoq h h
def sL {α:Type}{xs:xbH}{v:α}(h:xlv (XD xs i)):∃j,NE (seqIndex? i xs.length) j/\xfd xs v/\xeM j/\-Ty xs.length≤i/\xeM i:=by
 unfold XD at h;cases e:xBp i with
 |none=>show xeG h h
 |some j=>
  rw [e] at h;obtain⟨h1,h2,h3,h4⟩:=sV e;exact⟨j,h1,h,h2,h3,h4⟩
def aF {j:Nat}{v:α}(h:xfd xs v):xlv (XD xs (Ty j)):=by
 have hj:xeM j:=xbX h;have e:NE (xBp (Ty j)) j:=by
  unfold ixN;rw [EU Z5,EU (Iv.mpr hj)];simp
 unfold XD;show xdM h
def tR (b:LN):Prop:=∀o i,xE0 b o i=xKi [o,i] o i
def IxR (X:Cx)(r:R2):Prop:=
 ∀(value slice:LN) (LQ:Wp) (s:LH) (σ:St) H x y v u Q,Ps->xm4->xh8->r x y H Q->
  xE0 slice v u=xKi [v,u] v u->xkC (subscriptTail value slice v u) X Q s
def MtR (X:Cx)(id:String)(r:V->LT->Hp->xe3):Prop:=
 ∀(LQ:Wp) (s:LH) (σ:St) (H:Hp) x xs v us Q,Ps->xm4->xmz->r x xs H Q->
  xkC (xr6 id (v::us)) X Q s
section
variable {X:Cx}{a b:LN}{ta tb:TE}{pos:Pos}
def aR {r:R2}(hr:IxR X r)(ha:xli)(hb:xre b)(hs:tR b):xal (xvr a b) (UE r ta tb):=by
 intro LQ s σ H Q I h;exact Subscript_ (binT ha hb I h λ v u s2 x y H2 I2 rx ry q=>hr a b LQ s2 σ H2 x y v u Q I2 rx ry q (hs _ _))
inductive Zp (K:Frag) (x:V) (y:V) (H:Hp) (Q:VK):Prop
 |mk (p:_) (xs:_) (i:_) (v:_) (h0:x=xad) (h1:y=xcD) (h2:xeV K p xs) (h3:xlv (XD xs i)) (h4:Q v H):Zp K x y H Q
inductive rIxT (K:Frag) (x:V) (y:V) (H:Hp) (Q:VK):Prop
 |mk (p:_) (xs:_) (i:_) (v:_) (h0:x=xad) (h1:y=xcD) (h2:xna p xs) (h3:xlv (XD xs i)) (h4:Q v H):rIxT K x y H Q
def a6:IxR X (Zp X.K):=by
 intro value slice LQ s σ H x y v u Q I rx ry h hs;obtain⟨p,xs,i,z,rfl,rfl,hq,he,q⟩:=h;show xuu rx ry;show xiu r pl hq;obtain⟨j,h1,h2,h3,h4,h5⟩:=sL he;obtain⟨w,ew,Xi⟩:=r.get h2;have hl:=r.length;have hn:=mQ;have fin:xpg w s:=⟨z,H,I,Xi,q⟩;by_cases h0:0≤i
 ·have hj:i.toNat=j:=by
   show WF (xJv h5) h1 (Fb h1)
  exact item_listR pl.isList h0 Z5 (by rw [hj];simpa using ew) fin hs
 ·have hj:xi1 i xMC=j:=by
   rw [xI9 h0 h4] at h1;rw [EO,<-hl];exact Fb h1
  exact subscriptTail_builtinR pl.isList.typeIs slot_list_getitem.lookup
   (wpAny_getItem_list_neg pl.isList (JG h0) (by rw [EO]<;>exact G9 (congrArg Neg.neg (congrArg Nat.cast hl.symm)) h4) Z5 (by rw [hj];simpa using ew) (xcC fin)) hs
def bj:IxR X (rIxT X.K):=by
 intro value slice LQ s σ H x y v u Q I rx ry h hs;obtain⟨p,xs,i,z,rfl,rfl,hq,he,q⟩:=h;show xuu rx ry;show xsN r pl hz hq;obtain⟨j,h1,h2,h3,h4,h5⟩:=sL he;obtain⟨w,ew,Xi⟩:=r.get h2;have hl:=r.length;have hn:=mQ;have fin:xpg w s:=⟨z,H,I,Xi,q⟩;exact subscriptTail_builtinR pl.typeIs Gh.lookup
  (getItem_tuple pl Z4 Z4 (by rw [EO,<-hl];exact h1) (by simpa using ew) (xcC fin)) hs
def qG (its:xaI)(n j)(u):Obj.mapSeq (·.setIfInBounds j u) xwJ=xuW (xsc (its.set j u) n):=by
 simp [Obj.mapSeq]
theorem Inv.lst {LQ:Wp}{σ:St}(I:Ps)(h:xbh=xdg):
  ∃its n,xud/\xfg p xwJ/\xnw:=by
 show xlc its n r e (xf9 p h);exact⟨its,n,r,e,z⟩
def Inv.lstUpd {LQ:Wp}{σ:St}{its its':xaI}(I:Ps)(h:xbh=xdg)
  (ho:xfg p xwJ) (hf:f xwJ=xuW (.seq its'.toArray n')) (r:Vals ys its') (hz:xFx) (t):
  xrR (xjb p ys) s (xJl f) t:=by
 have e:xfn (xJl f) p (xuW (.seq its'.toArray n')):=by
  rw [HR f ho (by rw [hf]<;>rfl),hf]
 refine I.write (by rw [h];trivial) xbF (λ b u hb q=>(Gv _ _ xC0).trans q) xmT ?_;exact⟨hz,its',n',r,e⟩
inductive YD (o:V) (i:V) (v:V) (H:Hp) (Q:xrT):Prop
 |mk (p:_) (xs:_) (k:_) (j:_) (h0:o=xad) (h1:i=.int k) (h2:xbh=xdg) (h3:NE (xBp k) j) (h4:Q (xjb p (xs.set j v))):YD o i v H Q
def gX:DI X YD:=by
 intro LQ s σ H o i v ov iv u Q I ro ri rv h;obtain⟨p,xs,k,j,rfl,rfl,hp,hj,q⟩:=h;show xuu ro ri;obtain⟨its,n,r,ho,hz⟩:=I.lst hp;obtain⟨h1,h2,h3,h4⟩:=sV hj;have hl:=r.length;have hn:=mQ;have I':xiw (xjb p (xs.set j v)) (xlE (xJl (Obj.mapSeq (·.setIfInBounds j u)))):=
  I.lstUpd hp ho (qG its n j u) (r.set rv j) (by show LE Hv hz) s.toks
 by_cases h0:0≤k
 ·have hk:k.toNat=j:=by
   show WF (xJv h4) h1 (Fb h1)
  exact PySem.W.ki_setAt ho h0 Z4 (by rw [EO,<-hl];exact h4) (by show LE hk (xaU I' q))
 ·have hk:xi1 k xMC=j:=by
   rw [xI9 h0 h3] at h1;rw [EO,<-hl];exact Fb h1
  exact PySem.W.ki_setBack ho (JG h0) (by rw [EO,<-hl];exact h3) Z4 (by show LE hk (xaU I' q))
def sbP {i:Int}{n:Nat}(h:¬i<0):xHc (xxi i)=M2 (xxi i.toNat):=by
 show xbM k (Int.eq_ofNat_of_zero_le (xJI h));rw [E6,Int.max_eq_right (Int.le_min.2 ⟨xe4,xe4⟩)];rcases Lv k n with e|e
 ·rw [Fp e,Int.min_eq_left (Int.ofNat_le.2 e)]
 ·rw [Ha e,Int.min_eq_right (Int.ofNat_le.2 e)]
def sbN {i:Int}{n:Nat}(h:i<0):xHc (xxi (i+n))=Ty (xi1 i n):=by
 rw [Int.min_eq_left (Int.le_trans (Int.add_le_add_right (Lx h) n) (Int.le_of_eq (Int.zero_add _))),Int.toNat_eq_max,Int.max_comm]
def ni (lo hi:xb9)(n):(xJw hi none n).1=M2 (HT.sIx n 0 lo)/\Δ (xJw hi none n)=M2 (HT.sIx n n hi)/\xbI (xJw hi none n)=1:=by
 refine xee ?_ ?_
 ·cases lo with
  |none=>simp [sliceBounds,HT.sIx]
  |some i=>
   simp only [sliceBounds,HT.sIx,Option.getD_none,show xb4>0 by decide,if_true];by_cases h:i<0
   ·simp only [h,if_true,sbN h]
   ·simp only [h,JO,sbP h]
 ·cases hi with
  |none=>simp [sliceBounds,HT.sIx]
  |some i=>
   simp only [sliceBounds,HT.sIx,Option.getD_none,show xb4>0 by decide,if_true];by_cases h:i<0
   ·simp only [h,if_true,sbN h]
   ·simp only [h,JO,sbP h]
def kJ (its:xaI)(lo hi):slicePick its.toArray lo hi none=(xgn (its.drop (xI2 0 lo)) (xI2 its.length hi) (xI2 0 lo)).toArray:=by
 obtain⟨h1,h2,h3⟩:=ni lo hi its.toArray.size;unfold slicePick;rw [h1,h2,h3];simp only [sliceRange_one,pick_run,EO]<;>rfl
inductive XI (K:Frag) (x:V) (lo:xb9) (hi:xb9) (H:Hp) (Q:VK):Prop
 |mk (a:_) (xs:_) (h0:x=Tm) (h1:xgC) (h2:∀p,xid->Q xad (xjb p (xDs lo hi))):XI K x lo hi H Q
def bh:Xd X (XI X.K):=by
 intro LQ s σ H x v vl vu lo hi sl Q I rx hs pl pu h;show xdT a xs hx q h;cases rx;show xiu r ht hx;show xjM hlen r.length ⟨"list",_,slot_list_getitem.lookup,ht.isList.typeIs,?_⟩ (wpAny_getItem_list_slice ht.isList hs pl pu .none Z6 ?_ (by rw [EO]<;>lia));rw [kJ,<-hlen];refine xby xpE _ (I.laid (t':=s.toks) (λ b ob q=>xrN) Tl ?_) (q _ xlI);exact⟨Ew (iP xs lo hi) hz,_,0,xgn (r.drop xuL) (xBC hi) xuL,xfz⟩
def Aw:xkt V
 | .non=>true
 | .bl _=>true
 | .int _=>true
 | .str _=>true
 |_=>false
def eqV:V->xkt V
 | .non,.non=>true
 | .bl a,.bl b=>a==b
 | .bl a,.int b=>xcI a 1 0==b
 | .int a,.bl b=>a==xcI b 1 0
 | .int a,.int b=>a==b
 | .str a,.str b=>a==b
 |_,_=>false
def Br (ry:xh8)(rx:xm4)(fy:Pi (Aw y))(fx:Pi (Aw x)):SeqAt.EqAt A s u v (eqV y x):=by
 cases y with
 |non=>
  cases ry;cases x with
  |non=>cases rx;exact SeqAt.EqAt.same _
  |bl b=>cases rx;exact SeqAt.EqAt.none_bool b
  |int b=>show xf1 t rx (SeqAt.EqAt.none_int b t)
  |str b=>show xf1 t rx (SeqAt.EqAt.none_str b t)
  |_=>show xab xHB EX
 |bl a=>
  cases ry;cases x with
  |non=>cases rx;exact SeqAt.EqAt.bool_none a
  |bl b=>cases rx;exact SeqAt.EqAt.bool_bool a b
  |int b=>show xf1 t rx (SeqAt.EqAt.bool_int a b t)
  |str b=>show xf1 t rx (SeqAt.EqAt.bool_str a b t)
  |_=>show xab xHB EX
 |int a=>
  show xbM t' ry;cases x with
  |non=>cases rx;exact SeqAt.EqAt.int_none a t'
  |bl b=>cases rx;exact SeqAt.EqAt.int_bool a t' b
  |int b=>show xf1 t rx (SeqAt.EqAt.int_int a t' b t)
  |str b=>show xf1 t rx (SeqAt.EqAt.int_str a t' b t)
  |_=>show xab xHB EX
 |str a=>
  show xbM t' ry;cases x with
  |non=>cases rx;exact SeqAt.EqAt.str_none a t'
  |bl b=>cases rx;exact SeqAt.EqAt.str_bool a t' b
  |int b=>show xf1 t rx (SeqAt.EqAt.str_int a t' b t)
  |str b=>show xf1 t rx (SeqAt.EqAt.str_str a t' b t)
  |_=>show xab xHB EX
 |_=>show xab (xuY false fy) EX
def cF:xr4 X "len" (λ xs H Q=>∃p ys,xs=xaV/\(xtz p ys\/MD X.K H p ys)/\xjI ys.length):=by
 intro LQ s σ H xs us Q I r h;show xdT p ys hq q h;show xmR u rx (gJ r) rx;have hn:=mQ;rcases hq with hq|hq
 ·show xiu r' pl hq;have hlen:=r'.length;exact Calls.call_len_list pl.isList (by simp only [EO]<;>lia) (xoS ys.length H xek ⟨xy9,by rw [EO,hlen]⟩ q)
 ·show xsN r' pl hz hq;have hlen:=r'.length;exact len_tuple pl (by simp only [EO]<;>omega) (xoS ys.length H xek ⟨xy9,by rw [EO,hlen]⟩ q)
def bD:dX X xvj (λ xs H Q=>∃p ys,xs=xaV/\(xtz p ys\/MD X.K H p ys)/\∀l,Ξ->xrJ (xfb ys)):=by
 intro LQ s σ H xs us Q I r h;show xdT p ys hq q h;show xmR u rx (gJ r) rx;have fin:∀(its:xaI),Vals ys its->xFx->∀(h':LM) (c':Nat),(∀b o',NE xaG o'->xea b o')->
   xea s.heap.objs.size {cls:=xvj,dict:=none,data:=xEf c',slots:=#[]}->xpg xpE xeQ:=λ its r' hz h' c' kp e=>
  xby xpE _ (I.laid kp Tl (show xv4 _ h' _ (.lst ys) from⟨hz,its,c',r',e⟩)) (q _ xlI)
 rcases hq with hq|hq
 ·show xiu r' pl hq;have hlen:=r'.length;show xuF ho hc n hd pl.isList;exact call_list_seq p xbF ho hc hd (λ h' c' kp e=>fin its r' hz h' c' kp e) (by simp only [EO]<;>exact xJZ hz)
 ·show xsN r' pl hz hq;have hlen:=r'.length;show xuF ho hc n hd pl;exact call_list_seq p xsv ho hc hd (λ h' c' kp e=>fin its r' hz h' c' kp e) (by simp only [EO]<;>exact xJZ hz)
def kP:dX X xBl (λ xs H Q=>∃p ys,xs=xaV/\((xtz p ys/\∀l,Ξ->xrJ (xcn H l ys))\/(MD X.K H p ys/\Q xad H))):=by
 intro LQ s σ H xs us Q I r h;show xgX p ys rfl h;show xmR u rx (gJ r) rx;rcases h with⟨hq,q⟩|⟨hq,q⟩
 ·show xiu r' pl hq;have hlen:=r'.length;refine call_tuple_list pl.isList (PP h' kp) (by simp only [EO]<;>exact xJZ hz);have I1:xlD xeQ:=xGK kp;have I2:xiw (xcn H h'.objs.size ys) (xlE (h'.push (xG3 xEf))):=
   xKV s.toks (λ b o e=>xdZ) Tl (show xv4 _ _ _ (.tup ys) from⟨hz,its,r',IsTup.new _ _⟩)
  exact xby (.ref h'.objs.size) _ I2 (q _ xx8)
 ·show xsN r' pl hz hq;exact call_tuple_same pl (xby xad H I q)
def tyV (K:Frag)(T:String)(x:V)(H:Hp):Prop:=match x with
 | .str _=>T="str"
 | .int _=>T="int"
 | .ref p=>(T="list"/\∃xs,xeV K p xs)\/(T="tuple"/\∃o,K.lookup p=IO/\o.cls=xBl/\W1 o.dict)\/
   (T="dict"/\((∃LY,xfh p xp3)\/∃LY,xfh p xiK))\/(T="set"/\∃S n,xfh p (.set S n))
 |_=>False
def Bf {LQ:Wp}{σ:St}{H:Hp}(I:Ps)(r:xm4)(ty:tyV X.K T x H):
  s.TypeIs v T/\∀a,v=Tm->∃ob,xfg a ob/\W1 ob.dict:=by
 cases x with
 |str z=>
  show xbM t r;cases(xaA T "str" ty);show xar (typeIs_str s z t) (xpU e e)
 |int i=>
  show xbM t r;cases(xaA T "int" ty);show xar (typeIs_int s i t) (xpU e e)
 |ref p=>
  cases r;rcases ty with⟨rfl,xs,hq⟩|⟨rfl,o,hk,hc,hd⟩|⟨rfl,hk⟩|⟨rfl,S,n,hk⟩
  ·obtain⟨its,_,pl,_⟩:=I.list hq;refine xeY pl.isList.typeIs a e;cases e;obtain⟨o,n,e,c,hd,_⟩:=pl;exact xer e hd
  ·refine xeY (xer (I.kIn p o hk) hc) a e;cases e;exact xer (I.kIn _ o hk) hd
  ·have z:∃o,s.heap.get? p=IO/\o.ExactDict:=by
    rcases hk with⟨LY,hk⟩|⟨LY,hk⟩
    ·obtain⟨_,_,_,_,o,_,_,e,ex,_⟩:=xf9 p hk;exact xer e ex
    ·obtain⟨_,_,_,_,o,_,_,e,ex,_⟩:=xf9 p hk;exact xer e ex
   show xa0 o e ex z (xeY (xer e ex.1) a e2);cases e2;exact xer e (Δ ex)
  ·obtain⟨o,_,_,_,e,ex,_⟩:=xf9 p hk;refine xeY (xer e ex.1) a e2;cases e2;exact xer e (Δ ex)
 |_=>show xjX ty
inductive Ys (K:Frag) (T:String) (r:V->LT->Hp->xe3) (t:TA) (σ:St) (Q:VK) (x:V) (H1:Hp):Prop
 |mk (h0:tyV K T x H1) (h1:t σ H1 λ xs H2=>r x xs H2 Q):Ys K T r t σ Q x H1
def tBM (K:Frag)(T:String)(r:V->LT->Hp->xe3)(to:TE)(t:TA):TE:=λ σ H Q=>to σ H λ x H1=>Ys K T r t σ Q x H1
variable {o e:LN}{es:xl8}{to:TE}{t:TA}{name:Str}{apos QY:Pos}{T id:String}{r:V -> LT -> Hp -> xe3}
def dn (pa:PlainAttrs T)(slot:Slot T name id)(hty:typeOf (.builtin id)=pure (.type "method_descriptor"))(hm:MtR X id r)(ho:xal o to)(ha:xm5)
  (Wd:Μ (attributeBase o name X.env xoK=xoK))
  (hfew:Μ (Pi ((backTo QY (xfS xcu)).all (λ x=> ! xgt)&&(xLG QY []).all (λ x=>(xgt).isSome)
   &&xft ((xcu).length+([]:xJY).length+xcI ([]:xJY).isEmpty 0 1) 30)))
  (hline:Μ (Pi (apos.endLine==QY.line))) (hs:Μ (xkY=xfH::xkV)) (Pn:Μ ((backTo QY (starEach es X.env)).any (·.1)=false)):
  xal (xIo o name xcu [] QY) (tBM X.K T r to t):=by
 intro LQ s σ H Q I h;refine wpAny_Call_method_late Wd hfew hline rfl (xdd (xmN s H _ I h) v);obtain⟨x,H1,I1,r1,ty,q1⟩:=z9;show xbD h1 h2 (Bf I1 r1 ty) ⟨T,id,pa,slot,hty,h1,h2,?_⟩;have hA:=ha QY LQ s1 σ H1 _ I1 q1;rw [hs] at hA ⊢;refine Calls.callWith_builtin (by show(false||(backTo QY (starEach es X.env)).any (·.1))=false;rw [Pn]<;>rfl) (Calls.evalArgs_plain ?_);exact xc7 hA us s2 z9 (by show xrU vs H2 I2 r2 q2;exact hm LQ s2 σ H2 x vs v us Q I2 r1 r2 q2)
universe s
def MtM (X:Cx)(id:String)(r:V->LT->Hp->xe3):Prop:=
 ∀(LQ:Wp) (s:LH) (σ:St) (H:Hp) x xs v us Q,Ps->xm4->xmz->r x xs H Q->
  xkC (xr6 id (v::us)) X Q s
theorem Vals.one:∀{x} {us},xr0 xbT->∃u,us=[u]/\xrK
 |_,_,.cons r .nil=>xa9 r
theorem Vals.rep (h:xmz):∀k,Vals (xjR k xs) (xjR k us)
 |0=>.nil
 |k+1=>by
  rw [FW,FW,Gd,Gd];exact Vals.append h (Vals.rep h k)
theorem lE (its:xaI):∀k acc,
  List.foldl (λ x1 x2=>x1++x2) acc.toArray (xIA k)=(acc++xjR k its).toArray
 |0,acc=>by simp
 |k+1,acc=>by
  have e:acc.toArray++its.toArray=(acc++its).toArray:=Z6;have e2:(acc++its)++xjR k its=acc++xjR (k+1) its:=by
   rw [FW,Gd,Eu]
  rw [<-e2,<-lE its k (acc++its),<-e,FW,List.foldl_cons]
section
variable {X:Cx}{LQ:Wp}{σ:St}{H:Hp}{s:LH}{l b:LF}{xs ys zs:LT}
def Inv.lset {its its':xaI}{n:Nat}{f:xkj->xkj}(I:Ps)(hH:H l=xdg)
  (e:xfg l xwJ) (hf:f its.toArray=its'.toArray) (hv:Vals ys its') (hz:xFx):
  xrR (xfb ys) s (s.heap.update l (Obj.mapSeq f)) t':=by
 show xaD q (PySem.IsL.update e f) hf q;refine I.write (by show LE hH trivial) xbF (λ b' u hb hu=>(Gv s.heap (Obj.mapSeq f) xC0).trans hu) (xa1 q) ?_;exact⟨hz,its',_,hv,q⟩
def Inv.lnew {its:xaI}{t':Nat}(I:Ps)(hv:Vals ys its)(hz:xFx):
  xrR (xjb s.heap.objs.size ys) s (s.heap.push (xuW xEf)) t':=
 I.laid (xEz xrN) Tl ⟨hz,its,0,hv,xfz⟩
theorem Inv.fresh (I:Ps):xME:=xlI
def Inv.lstM (I:Ps)(hH:H l=xdg):xnw/\∃(its:xaI) (n:Nat),xud/\xvw xs.length/\xfg l xwJ:=by
 show xlc its n r e (xf9 l hH);exact⟨z,its,n,r,r.length,e⟩
def pT (h:xc2 n):τ (Builtin.List.listTooLong n):=by
 unfold Builtin.List.listTooLong;exact F7 (K4.mpr h)
universe s
section
variable {X:Cx}
inductive Q1 (x:V) (vs:LT) (H:Hp) (Q:VK):Prop
 |mk (l:_) (xs:_) (y:_) (h0:x=xax) (h1:vs=xc0) (h2:H l=xdg) (h3:xAT xs.length) (h4:xkA (xfb (xs++xc0))):Q1 x vs H Q
def bx:MtM X "list.append" Q1:=by
 intro LQ s σ H x vs v us Q I rx rv h;obtain⟨l,xs,y,rfl,rfl,hH,hz,q⟩:=h;cases rx;show xpG u ru rv.one;obtain⟨z,its,n,r,hl,e⟩:=xGB;show TD (xKN FK e F.entry_list_append (F.args_list_append_2 _ _) (PySem.list_append l its.toArray n u (by show LE EO (xhH hl.symm (EZ hz)))) (xbW e)) (xby .non _ (I.lset (its':=its++[u]) hH e Z6 (r.append (xlU ru)) ?_) q);rw [Et,Ir]
 assumption
inductive Uw (x:V) (vs:LT) (H:Hp) (Q:VK):Prop
 |mk (l:_) (b:_) (xs:_) (zs:_) (h0:x=xax) (h1:vs=[xmc]) (h2:H l=xdg) (h3:xb7=Υ zs) (h4:xc2 (xs.length+zs.length)) (h5:xkA (xfb (xs++zs))):Uw x vs H Q
def d9:MtM X "list.extend" Uw:=by
 intro LQ s σ H x vs v us Q I rx rv h;obtain⟨l,b,xs,zs,rfl,rfl,hH,hB,hz,q⟩:=h;cases rx;show xmR u ru rv.one ru;obtain⟨z,its,n,r,hl,e⟩:=xGB;obtain⟨z2,OZ,n2,r2,Mu,e2⟩:=I.lstM hB;have hsz:xc2 (its.toArray.size+OZ.toArray.size):=by rw [EO,EO];lia
 have V':¬Pi (! its.toArray.isEmpty&&Builtin.List.listTooLong (its.toArray.size+OZ.toArray.size)):=by
  rw [pT hsz,Bool.and_false];exact EX
 show TD (xKN Hy e F.entry_list_extend (F.args_list_extend_2 _ _) (AutoSeq1.list_extend_list_list_0 l its.toArray n b OZ.toArray n2 V' (by show LE EO (xK6 z)) (F3 hsz)) (Ψ e e2)) (xby .non _ (I.lset (its':=its++OZ) hH e Z6 (r.append r2) ?_) q);rw [Et]
 assumption
inductive Zr (x:V) (y:V) (H:Hp) (Q:VK):Prop
 |mk (l:_) (b:_) (xs:_) (zs:_) (h0:x=xax) (h1:y=xmc) (h2:H l=xdg) (h3:xb7=Υ zs) (h4:xc2 (xs.length+zs.length)) (h5:∀p,xid->Q xad (xjb p (xs++zs))):Zr x y H Q
def bP:xjG .Add Zr:=by
 intro LQ s σ H x y v u Q I rx ry h;obtain⟨l,b,xs,zs,rfl,rfl,hH,hB,hz,q⟩:=h;cases rx;cases ry;obtain⟨z,its,n,r,hl,e⟩:=xGB;obtain⟨z2,OZ,n2,r2,Mu,e2⟩:=I.lstM hB;refine PySem.P.add_list e e2 ?_ (by rw [EO,EO];omega);have ea:its.toArray++OZ.toArray=(its++OZ).toArray:=Z6;show LE ea (xby (.ref _) _ (I.lnew (r.append r2) (by rw [Et];assumption)) (q _ I.fresh))
inductive rRep (x:V) (y:V) (H:Hp) (Q:VK):Prop
 |mk (l:_) (k:_) (xs:_) (h0:x=xax) (h1:y=.int k) (h2:H l=xdg) (h3:-(2^63)≤k) (h4:k<2^63) (h5:xc2 (xs.length*k.toNat)) (h6:∀p,xid->Q xad (xjb p (xjR k.toNat xs))):rRep x y H Q
def y0 {α:Type}(xs:xbH)(k):(List.replicate k xs).flatten.length=k*xs.length:=by
 induction k with
 |zero=>simp
 |succ k ih=>rw [FW,Gd,Et,ih,Nat.succ_mul,Iw]
def il:xjG .Mult rRep:=by
 intro LQ s σ H x y v u Q I rx ry h;obtain⟨l,k,xs,rfl,rfl,hH,h1,h2,hz,q⟩:=h;show xuu rx ry;obtain⟨z,its,n,r,hl,e⟩:=xGB;have hlen:xc2 xKf:=by rw [EO,<-hl];exact hz
 have hcap:¬xKf>(2^63-1)/8:=by
  have:xjm sizeLine≤(2^63-1)/8:=Z9;lia
 have XZ:¬Pi (! Builtin.List.listFitsIndex k):=by
  show LE (fitsIndex_both h1 h2) EX
 have V':¬Pi (Builtin.List.listTooLong xKf):=by
  show LE (pT hlen) EX
 have hnew:List.foldl (λ x1 x2=>x1++x2) #[] (xIA (xbZ its.toArray.isEmpty 0 k.toNat))=xLW k.toNat its:=by
  have f0:∀m,List.foldl (λ x1 x2=>x1++x2) #[] (xIA m)=xLW m its:=λ m=>by
   show xg4 (lE its m []) FJ
  rw [f0];cases its with
  |nil=>simp
  |cons a r'=>rw [EI Z6]
 show xg6 (wpAny_binaryOp_repeat_ref Z9 (xqt e) (λ s'=>typeIs_int s' k t) noFill_list_mul F.fills_int_mul F.slot_int_rmul repeat_list F.slot_int_index.lookup
  (call_meets F.slot_int_rmul (typeIs_int s k t) F.entry_int_rmul (F.args_int_rmul_2 _ _) (int___rmul___int_list k t l its.toArray n)
   (xfC e (xqt e) (xKN F.slot_list_mul e F.entry_list_mul (F.args_list_mul_2 _ _) (AutoListH.list___mul___list_int_3 l its.toArray n k t XZ hcap V') (xbW e))))) hnew (xby (.ref _) _ (I.lnew (r.rep k.toNat) (by rw [y0,F5];exact hz)) (q _ I.fresh))
universe s
section
variable {prog:LI}{w:LJ}{A:LL}{E:Ρ}{s:LH}
set_option maxRecDepth 100000 in
universe s
section
variable {X:Cx}
universe s
universe L2
namespace Att
open PySem PySem.W PySem.Calls PyProof.Rows
def iX:∀ns vs,WellAll P h vs xMn->xvT vs:=by
 intro ns
 induction ns with
 |nil=>
  intro vs w;show ρ KQ w w;show xeE
 |cons n ns ih=>
  intro vs w;rw [FZ] at w;cases w with
  |cons a b=>
   cases a;exact .cons _ _ (ih _ b)
def vD {l:OpenLaw}(hn:xH4 n)
  (XU:Pi (l.row.toRowW.claim.pre args)) (YR:WellAll P h vals args):
  ∃a vs ns,vals=[xcP]/\args=[WData.list xMn]/\xio xDc/\xvT vs/\xCm n:=by
 have hsh:Pi (WShape.hasAll [] args [.list .int]):=(pre_splitW XU).1;have hc:Pi (l.pre.holds [] {args:=args}):=(pre_splitW XU).2;show xdT d r h1 h2 (hasAllW_cons hsh);obtain rfl:=hasAllW_nil h2;show xpG xs h3 (hasW_list h1);show xbM ns (items_int h3);have hlen:xCm n:=by
  unfold OpenLaw.pre at hc;have h4:Pi ((WTm.not (.lt (.lit (.int xai)) (.len (.arg 0)))).holds [] {args:=[.list (ns.map .int)]}):=by
   have h4:=(holds_andW hc).1;show WF hn h4 h4
  show xaD h5 (condW_of h4 (w_not (w_lt w_lit (w_len_list (w_arg rfl))))) Es h5;refine FS (xdr q)
  have q':xai<Ty ns.length:=Z4
  first
   |(rw [Ez q'] at h5;show xab h5 Z9)
   |(simp at h5;omega)
 cases YR with
 |cons w1 w2=>
  cases w2;cases w1 with
  |list ho Mf=>exact⟨_,_,ns,rfl,rfl,ho,iX ns _ Mf,hlen⟩
def vc (l:OpenLaw)(args:List WData):Pi (l.row.toRowW.claim.post args xr8 args):=
 postW_of
  (show Pi (WShape.has [] xr8 .bool) by first|rfl|decide|simp [WShape.has,WShape.arms,WShape.armsAll])
  (show NE ((WTm.eq .res (.lit xr8)).value [] {args:=args,res:=some xr8,after:=args}) (.bool (true==true)) from w_eq_bool (w_res rfl) w_lit) rfl
def Su {l:OpenLaw}
  (hn:xH4 n) (hdf:xJr [])
  (call:∀(w:LJ) (s₀ s₁:LH) (mg mb:π) (fa:LF) (o:LO) (pm cd doc:LG) (a:LF) (vs:xaI) (ns:xkk),
   Ground q loose [] XP w s₀ mg mb s₁.heap->YP w s₁.heap->
   s₁.heap.get? fa=IO->xin (.func (docDef d.name d.params d.body d.scope pm cd doc))->s₁.heap.CodeRec cd d.name->mg d.name=SC fa->
   xJf a xDc->xvT vs->xCm n->s₁.gens=#[]->
   xsb (model l.prog w) callerA xLg xHF (λ r s'=>r=.ok xLp/\xJx s'.heap/\s'.os=s₁.os/\xye) s₁):
  WalkO q loose XP YP l.row.toRowW d [] (λ f vs=>xJ0 vs):=by
 intro w s₀ s₁ mg mb G Y fa o pm cd doc dV kV ho hd OW hD hmg hg args vals as XU hlay hrd YR O5;obtain rfl:dV=.none:=Dflts.none hD hdf;obtain rfl:kV=.none:=Dflts.noKw hD;obtain⟨a,vs,ns,rfl,rfl,Zy,hints,hlen⟩:=vD hn XU YR;refine enter_call (Kh (call w s₀ s₁ mg mb fa o pm cd doc a vs ns G Y ho (fd_plain hd) OW hmg Zy hints hlen hg) (Sc r s' hq));obtain⟨rfl,h2,h3,h4⟩:=hq;show xav (.inl ⟨xr8,xr8,[],rfl,xf2,xr8,vc l _,λ _=>⟨List.Pairwise.nil,λ _ hm=>(nomatch hm)⟩⟩) h2 h3 h4
section
variable {prog:LI}{w:LJ}{A:LL}{E:Ρ}{s:LH}{K:Frag}
universe s
universe Att
namespace L2
open PySem PySem.Spec PyProof.Rows
def uA (h:xvT vs):Vals xeI vs:=by
 induction h with
 |nil=>show xeE
 |cons n t _ ih=>exact xkm (xck t)
noncomputable def aE (s:LP) (j:Nat):LP:=match s with
 | .ClassDef _ _ _ body _ _ _ _ _ _ _=>body.getD j (.Pass ⟨0,0,0,0⟩)
 |_=>.Pass ⟨0,0,0,0⟩
noncomputable def aZ (s:LP):Arguments:=match s with
 | .FunctionDef _ a _ _ _ _ _ _ _ _=>a
 |_=>{posonlyargs:=[],args:=[],vararg:=none,kwonlyargs:=[],kw_defaults:=[],kwarg:=none,defaults:=[]}
noncomputable def aS (s:LP):xqe:=match s with
 | .FunctionDef _ _ b _ _ _ _ _ _ _=>b
 |_=>[]
noncomputable def aj (s:LP):Scope:=match s with
 | .FunctionDef _ _ _ _ _ _ sc _ _ _=>sc
 |_=>{kind:=.function,names:=[],isGenerator:=false,isCoroutine:=false}
abbrev LZ:VT:=λ _ _ _ _ _ _=>False
abbrev E0:XK:=xEO
def a7 {X:Cx}:dl LZ X E0:=λ _ _ _ _ _ _ _ h=>h.elim
structure Mm (K:Frag)(x qual:Str)(st:LP)(f:LF)(fd:LK):Prop where
 ex:∃(oc:LG) (od:xhy) (kV doc pm:LG) (an:xhy) (LS ct:LG) (osl:xnU),
  fd=xyD x qual .none doc pm an LS ct/\xkZ f oc od fd osl/\xj8 K LS qual
 kp:xii
section
variable {P:LI}{w:LJ}{K:Frag}{mg:π}{base:LM}
def Mm.ok {x qual:Str}{st:LP}(F:Χ x qual st)(S:P3 N ps st)
  (Pj:∀(LS:LG) (A:LL) (outer:xeO) (s:LH) (H:Hp) (vs:LT) (Q:VK) (E:XK),xvv k (xBh xjZ f LS)->xd7->
   let X:=(xw5 LZ P w K N xjZ f LS A outer s H E).nox;∃t,xgh xuU t/\xtb H' xpA Q xiS H) (len:xyA (∀vs H Q E,xd7->xnx)):Η (k+1) ps sp:=by
 obtain⟨oc,od,kV,doc,pm,an,LS,ct,osl,rfl,lk,OW⟩:=F.ex;refine oq lk OW S len λ A outer s H vs Q E hr Pf=>?_
 show xay t h q (Pj LS A outer s H vs Q E hr Pf) ⟨t,h.nox,q⟩
def fun_mk {st:LP}{kV doc pm LS ct:LG}(l:xkZ f oc od (xyD x qual .none doc pm an LS ct) osl)
  (c:xj8 K LS qual) (k:xii):Mm K x qual st f (xyD x qual .none doc pm an LS ct):=⟨⟨oc,od,kV,doc,pm,an,LS,ct,osl,rfl,l,c⟩,k⟩
universe s
def lI (h:xb0 n):xAT n:=xkD h
section
variable {X:Cx}
def pv (i){x:Str}{pos:Pos}(hN:Μ xww)(hv:autoParam (xJi x) ZT)(hd:xdw (x==xdQ))
  (OW:xdw (x==xMQ)):xal xsT (Nk i):=Bo hN hv hd OW
universe s
def bi {A B:Prop}(h:B):xbZ false A B:=by
 show xkF EX h
def cU {A B:Prop}(h:A):xbZ true A B:=by
 show LE xag h
def aU {c A B:Prop} [xBV] (h1:c->A)(h2:¬c->B):if c then A else B:=by
 by_cases h:c
 ·show xmt h (h1 h)
 ·show xkF h (h2 h)
def CI {c A B:Prop} [xBV] (hc:c)(h:B):xbZ (! decide c) A B:=by
 show LE (Ez hc) (bi h)
def C' (H H':Hp):Prop:=∀b o,xb7=IO->xde=IO
def C'.refl (H:Hp):xco H:=λ _ _ h=>h
def C'.trans {H H1 H2:Hp}(a:xou)(b:C' H1 H2):xkS:=λ c o h=>b c o (a c o h)
def C'.seq {K:Frag}{H H':Hp}{a:LF}{xs:LT}(e:UV)(h:xgC):K' K H' a xs:=by
 rcases h with(h|⟨o,h⟩)|h
 ·show xDJ (e _ _ h)
 ·show xaT (xcz o (e _ _ h))
 ·show xbB h
def AB (n:Nat)(wi:TI)(g:TG)(te:TE):TE:=λ σ H Q=>wi σ H λ J H1=>∀l,xgW l->∃W:xoR,
 (∃m,xrn xzR)/\∀i m ys σ' H',xoE->
  (xzg H'/\xao)\/(xz2 H'/\∀x H2,xzt H' x H2->xrr x λ σ3 H3=>xqU λ y H4=>
   xgu=xdf/\xgO/\∃m',m'<m/\xpw (i+1) (ys++xc0))
def Au (i:Nat)(t:TE):TS:=λ D σ H=>xdo λ v H1=>D.nx xHG H1
def z8 {K:Frag}{g:TG}{te:TE}{R:xrT}(Pv:xaX (xe0 LT))(h0:Pv 0 [] xsE)(hl:∀i ys H,xlh->xig H->xgC)
  (hs:∀i x ys σ H,xkW->xig H->xwa n->xjx λ σ3 H3=>xqU λ y H4=>xgu=xdf/\xgO/\xCD n/\xfN (ys++xc0) xy4)
  (hd:∀ys H,xFA H->R H) (mg:∀x σ H (A B:xbR),(∀σ' H',xjE σ'->xjF σ')->xjx A->xjx B) (mt:∀σ H (A B:VK),(∀v H',xjE v->xjF v)->xfI A->xfI B):
  ∃W:xoR,(∃m,xrn xzR)/\∀i m ys σ' H',xoE->
   (xn8 xmW H'/\R H')\/(xoI xmW H'/\∀x H2,xok xmW H' x H2->xrr x λ σ3 H3=>xqU λ y H4=>
    xgu=xdf/\xgO/\∃m',m'<m/\xpw (i+1) (ys++xc0)):=by
 refine Ψ (λ i m ys σ H=>m=xfq i/\xlh/\xwa n/\xig H) ⟨xs.length,Z6,xac,Ff,h0⟩;rintro i m ys σ H ⟨rfl,hi,hn,p⟩;have q:=xrz ys H hi p;by_cases LU:xeM i
 ·show xhB (xcz ⟨xs,xs[i],q,by simp [LU]⟩ (Sc x H' y)) e y y;subst e;exact mg _ _ _ _ _ (λ σ3 H3 z=>mt _ _ _ _ (λ y H4 z9=>by obtain⟨z1,z2,z3,z4⟩:=z9;exact⟨z1,z2,xfq (i+1),xmI,rfl,LU,z3,z4⟩) z) (xrB x ys σ _ (y xs q) p hn)
 ·have e:xnO i:=xuj;show xqT e ⟨xAc xs q,hd ys H p⟩
def xD (hc:xpK):xr4 X "sum" (λ xs H Q=>∃(p:LF) (ns:xkk),xs=xaV/\xtz p xeI/\xjI ns.sum):=by
 intro LQ s σ H xs us Q I r h;show xdT p ns hq q h;show xmR u rx (gJ r) rx;show xiu rv pl hq;show xn1 hi (cW rv) ys hx hi.allInts.items;have hl:xJm (intItems ys):=hx▸pl.isList;refine sum_intListG hc hl λ h' tk t' hk=>?_
 have e1:ns=xIM:=by
  rw [<-nums_intItems,<-hx];exact(xaA xL4 ns hi.numsOf).symm
 have e2:preSum xCw ys.size=ns.sum:=by
  rw [preSum_eq,EV Z6,e1]
 show LE e2 (xoS ns.sum H (I.kept hk) xa4 q)
def jz:xJU X (λ xs H Q=>∃x c t b,xs=[x,.ty c]/\Ow X.K H x t/\NE (xK7 t (.type c)) b/\xdK b):=by
 intro LQ s σ H xs us Q I r h;obtain⟨x,c,t,b,rfl,ty,e,q⟩:=h;show xdT u v ru rv (sJ r);cases rv;exact uM I ru ty e λ tk=>xg0 b H (I.tok tk) q
noncomputable def aW (X:Cx) (N:xae) (scope:Scope) (cl:xt6) (fp:Ω) (s:LH) (H:Hp):Cx where
 prog:=X.prog
 w:=X.w
 K:=X.K
 mg:=X.mg
 base:=X.base
 A:=X.A
 N:=N
 s₀:=s
 H₀:=H
 env:=compEnvC scope cl s.heap.objs.size X.env
 outer:=X.stack
 stack:=X.stack
 ex:=fp
 fn:=λ _=>false
 calm:=X.calm
 pn:=[]
 xe:=xnk
def Zf (js:List xiD)(σ:St):St:=js.map λ o=>match o with
 |none=>none
 |some j=>xyX (σ[j]?)
structure S4 (X:Cx)(N:xae)(scope:Scope)(cl:xt6)(js:List xiD):Prop where
 kind:xBS
 nocell:xlw (xgv≠ .cell)
 names:xlw (xgv=.local->xwb xgt)
 clos:xJa X.env=pure cl
 sub:∀x c,xyx x c->xcJ
 has:∀x,(NE (xJc x) .cell\/NE (xJc x) .free)->∃c,xyx x c
 len:js.length=N.length
 slot:∀(i:Nat) (x:Str) (j:Nat),xgb N->Ν js (some j)->xfd X.N x/\xIb x .cell/\NE (xJc x) .cell/\∀c,xcJ->xyx x c
def uD {σ:St}{fp:Ω}(I:Ps)(C:xwF X N cl js)
  (hf:xqs H b) (LU:xds b fp b s.heap.objs.size) (hn:xMf m) (hk:∀b o,xaG=IO->xiG=IO):
  xms xgA (Zf js σ) H (xFF h' t'):=by
 have sub:∀{x} {c},NE ((xgA).env.cells.lookup x) c->xcJ:=λ {x c} e=>C.sub x c e
 refine⟨⟨I.ok.mod,C.kind,I.ok.glob,I.ok.blt,Tl,λ x y c e1 e2=>I.ok.inj x y c (sub e1) (sub e2),λ x hx=>C.has x hx,λ x c e _=>(by cases e),I.qt,I.ok.frames,xbF,
  xaw ⟨FA (LU b hb),λ x c e=>xoM xmF x c xC1⟩,I.bs,xFQ I.sz,λ b o e hb=>?_,Sc b hb hs,I.stack,I.stkFree⟩,
  rfl,I.bare,xK8,⟨m,hn,λ i x v h1 h2 h3=>?_⟩,xcW x c,xlI,λ x c e=>xDK xC1,xmK,I.hok.kept hk,by unfold Zf;show xdl C.len⟩
 ·show xcv (xny xmF)
  ·exact xKp o e z
  ·show xab (Ey xcS (xFQ z)) xmi
 ·show xix (xGb hs) z z
  ·exact Δ xmF z
  ·exact Δ xmF.2 z
 ·unfold Zf at h2;rw [Fq] at h2;cases ej:js[i]? with
  |none=>show ρ ej h2 h2
  |some o=>
   rw [ej] at h2;cases o with
   |none=>cases h2
   |some j=>
    have Rk:xlv (xyX (σ[j]?)):=Fb h2;obtain⟨hj1,W7,Rc,hc⟩:=C.slot i x j h1 ej;have Qa:xfd σ xdV:=by
     cases e:σ[j]? with
     |none=>show xeG Rk Rk
     |some w'=>show WF e Rk (xpM Rk)
    obtain⟨mo,hno,hl⟩:=I.loc;show xa0 u r l (hl j x v hj1 Qa (xvG W7)) (Ψ u r);rcases l with⟨q,_⟩|⟨_,c,ec,o,ho,hd⟩
    ·have q':xnQ x:=q;show ρ W7 q' q'
    ·show xbB ⟨.inl Rc,c,hc c ec,o,hk c o ho,hd⟩
 ·obtain⟨v,o,ho,hd⟩:=xpf xC1;show xav v o (hk c o ho) hd
 ·show xab (xku p ([]:Wp) hp) Z6
def qS {σ:St}{σ':St}(I:Ps)(hf:xqs H b)(I':xqE xgA σ' H' s'):xi8:=
 I.call' I'.os I'.base I'.hok I'.bare (xaw ⟨xny xmF,Δ xmF,xoM xmF,xtk xmF⟩)
def yj (js:List xiD)(wi:TI)(g:TG)(te:TE):TE:=λ σ H Q=>wi σ H λ J H1=>∀l,xgW l->∃W:xoR,
 (∃m,xrn (Zf js σ))/\∀i m ys σ' H',xoE->
  (xzg H'/\xao)\/(xz2 H'/\∀x H2,xzt H' x H2->xrr x λ σ3 H3=>xqU λ y H4=>
   xgu=xdf/\xgO/\∃m',m'<m/\xpw (i+1) (ys++xc0))
def eC (js:List xiD)(wi:TI)(g:TG)(tt:TT)(te:TE):TE:=λ σ H Q=>wi σ H λ J H1=>∀l,xgW l->∃W:xoR,
 (∃m,xrn (Zf js σ))/\∀i m ys σ' H',xoE->
  (xzg H'/\xao)\/(xz2 H'/\∀x H2,xzt H' x H2->xrr x λ σ3 H3=>xz5 H3 λ c H5=>xbZ c (xvA H5 λ y H4=>
   xgu=xdf/\xgO/\∃m',m'<m/\xpw (i+1) (ys++xc0)) (∃m',m'<m/\xCl (i+1) ys H5))
def xV (n:Nat)(wi:TI)(g:TG)(tt:TT)(te:TE):TE:=λ σ H Q=>wi σ H λ J H1=>∀l,xgW l->∃W:xoR,
 (∃m,xrn xzR)/\∀i m ys σ' H',xoE->
  (xzg H'/\xao)\/(xz2 H'/\∀x H2,xzt H' x H2->xrr x λ σ3 H3=>xz5 H3 λ c H5=>xbZ c (xvA H5 λ y H4=>
   xgu=xdf/\xgO/\∃m',m'<m/\xpw (i+1) (ys++xc0)) (∃m',m'<m/\xCl (i+1) ys H5))
def ug (prog:LI)(w:LJ)(A:LL)(elt LV iter:LN)(cs:xl8)(scope:Scope)(pos:Pos)(tw:Env->(xfw Bool)->xfw (Ρ)):Prop:=
 ∀(R:xfw Result) (s:LH) (it acc:LG) (env:Env) (J:xfw Nat),(∀n z,J n z->xl1 (pyNext it) (λ r z1=>match r with
   |none=>R (.ok .next) z1
   |some v=>xl1 (letOwnedTupleGo LV it v) (λ _ z2=>xl1 (assign LV env v) (λ _ z3=>tw env (λ b z6=>xbZ b (xl1 (xqa elt) (λ x z4=>
     xl1 (xr6 "list.append" [acc,x]) (λ _ z5=>∃m,m<n/\J m z5) (xyO A env λ e s'=>R xsu s') z4) (xyO A env λ e s'=>R xsu s') z6) (∃m,m<n/\J m z6)) (xyO A env λ e s'=>R xsu s') z3) (xyO A env λ e s'=>R xsu s') z2) (xyO A env λ e s'=>R xsu s') z1) (xyO A env λ e s'=>R xsu s') z)->
  ∀n,J n s->codeAny xhJ A (.compLoop (xi0 [xux]) 0 it acc env) R s
def twI (prog:LI)(w:LJ)(A:LL)(Xb:LN):Env->(xfw Bool)->xfw (Ρ):=λ env Q E z=>xvY (isTrue Xb env (xqa Xb)) z
def tw0:Env->(xfw Bool)->xfw (Ρ):=λ _ Q _ z=>xwS z
def sW
    (h:(∃Xb,cs=[Xb]/\tw=twI prog w A Xb)\/(cs=[]/\tw=tw0)):ug prog w A elt LV iter cs scope pos tw:=by
  intro R s it acc env J turn n h0
  refine codeAny_loop rfl J (Sc k z hz) n h0
  show xki ((compTurn (xi0 [xux]) 0 it acc env).onRaise (λ q=>do noteFrame q env;theTreesLotGoes q)) z
  refine wpAny_noted ?_
  rw [compTurn_list]
  show xE5 (Ev (xcw (turn k z hz) (Sc r z1 g1) q q))
  cases r with
  |none=>exact EM g1
  |some v=>
    show xaa (xcw g1 (λ _ z2 g2=>Ev (xcw g2 (λ _ z3 g3=>?_) q q)) q q)
    rcases h with⟨Xb,rfl,rfl⟩|⟨rfl,rfl⟩
    · show xaa (wpAny_tests_one (xcw g3 (Sc b z6 g6) q q))
      cases b with
      |false=>exact EM (xcC g6)
      |true=>exact Ev (Ev (xcw g6 (λ x z4 g4=>Ev (xcw g4 (λ _ z5 g5=>EM (EM (xcC g5))) q q)) q q))
    · exact Ev (xwA (Ev (xcw g3 (λ x z4 g4=>Ev (xcw g4 (λ _ z5 g5=>EM (EM (xcC g5))) q q)) q q)))
def PTw (X:Cx)(tw:Env->(xfw Bool)->xfw (Ρ))(tt:TT):Prop:=∀LQ s σ H Q Q' E,Ps->tt σ H Q->(∀b s',(∃H',xi8/\xbf b)->Q' b s')->tw X.env Q' E s
def ttT:TT:=λ _ H Q=>xwS H
def wm:PTw X tw0 ttT:=λ _ _ _ H _ _ _ I h k=>xmo ⟨H,I,h⟩
def CD (ht:xh5 Xb tt)(hx:∀e s,X.xe e s->False):PTw X (twI X.prog X.w X.A Xb) tt:=
 λ LQ s σ H Q Q' E I h k=>xcw (ht LQ s σ H Q I h) (λ b s' z9=>by show xay H' x y z9 (xfO s' ⟨H',x,y⟩)) z (hx _ _ z).elim
def oB {N:xae}{σ:St}:Zf xF1 σ=xEe N.length:=by
 unfold Zf;show LE GG Lr
def Aj (N9:xBS)(NS:xlw (xz3 xgv))(Oa:xlw (xgv≠ .cell))(Pq:xlw (xgv=.local->xwb xgt)):xwF X N [] xF1:=by
 have rl:xgF (xIY).names (x∈scope.names):=by
  intro x hx;obtain⟨⟨n,k⟩,m,e⟩:=Hh.mp hx;have hk:xz3 k:=NS _ m;have:τ (k==NameKind.free):=by simpa using hk
  simp [this] at e;show xaC e m
 refine⟨N9,Oa,Pq,closureFor_none NS,λ x c h=>(by cases h),PP x h,Es ..,λ i x j h1 h2=>?_⟩
 ·rcases h with h|h
  ·show xab rfl (Oa _ (rl _ (FO h)))
  ·show xab rfl (NS _ (rl _ (FO h)))
 ·rw [Fq] at h2;cases e:N[i]? with
  |none=>show xeG h2 h2
  |some y=>show xeG h2 h2
def Dh {N:xae}{te:TE}{σ:St}{H:Hp}(h:AB N.length wi g te σ H Q):eC xF1 wi g ttT te σ H Q:=by
 unfold eC;show LE oB h
def Dg {N:xae}{wi:TI}{g:TG}{tt:TT}(h:xV N.length wi g tt te σ H Q):eC xF1 wi g tt te σ H Q:=by
 unfold eC;show LE oB h
def jq {X:Cx}{N:xae}{scope:Scope}{σ:St}{RR:LG->LF->xfw Result}{Wx:Ω->LH->Hp->Ρ}
  (hc:xlY) (Cp:xwF X N cl js)
  (hi:xtK X LV wi) (hg:∀fp s H,PG xgA LV g) (LR:ug X.prog X.w X.A elt LV iter cs scope pos tw) (ht:∀fp s H,PTw xgA tw tt) (he:∀fp s H,xxj ((xgA).wish (Wx fp s H)) te)
  (I:Ps) (h:eC js wi g tt te σ H Q)
  (hR:∀(l C:LF) (H':Hp) (s':LH),xi8->xxJ C->(∃m,s'.heap.Ns C m)->xao->RR xax C (.ok .next) s')
  (hE:∀(l:LF) (fp:Ω) (s3:LH) (H3:Hp) (e:LG) (s':LH),xiw H3 s3->(xqs H3 b)->Wx fp s3 H3 e s'->xjU (noteFrame e X.env) (λ _ s'=>xIZ xax xsu s') (λ e s'=>xIZ xax xsu s') s'):
  xgG xLi (λ x s₁=>xjW (pyIter x) (λ it s₂=>xjW (newList []) (λ acc s₃=>
   xjW (newFunctionEnv scope X.env.globals cl [] X.env.qual none .none (some X.env)) (λ cenv s₄=>
    xGi X.A (.compStart (xi0 [xux]) 0 it acc {cenv with scope:=xIY}) (RR acc cenv.locals) s₄) s₃) s₂) s₁):=by
 refine xc7 (xxq s σ H _ I h) v s1 h1 (xc7 h1 itv s2 h2 ?_)
 obtain⟨it,fp,tn,J,H2,e,I2,T,OC,f2,hw⟩:=h2;subst e;have Mu:W1 (H2 s2.heap.objs.size):=xI5;obtain⟨W,⟨m0,w0⟩,turn⟩:=hw s2.heap.objs.size Mu;have lt2:xds b fp b s2.heap.objs.size:=xaw (let⟨o,e,_⟩:=xzu _ OC b hb;xcS)
 refine xEG;have I3:xiw (xbi H2 s2.heap.objs.size []) {s2 with heap:=xEU (xsc ([]:xaI))}:=
  I2.laid (t':=s2.toks) (λ b u e=>xdZ) Tl ⟨xac,[],0,.nil,xfz⟩
 have MW:tn 0 (xEU (xsc ([]:xaI))):=xCK _ _ OC λ b hb o e=>xdZ
 have lt3:xds b fp b (xEU (xsc ([]:xaI))).objs.size:=xaw (by show LE JB (Ka (lt2 b hb)))
 have f3:xqs (xbi H2 s2.heap.objs.size []) b:=xaw ⟨by show Re (FA (lt2 b hb)) (f2 b hb).1,(f2 b hb).2⟩
 show xrY s2.heap.objs.size l (xcB H2 []) H3;have hs3:∃s3:LH,s3={s2 with heap:=xEU (xsc ([]:xaI))}:=xa4;obtain⟨s3,e3⟩:=hs3;rw [<-e3] at I3;rw [<-e3];have MW:tn 0 s3.heap:=by show LE e3 MW
 have lt3:xds b fp b s3.heap.objs.size:=by show LE e3 lt3
 clear e3;refine wpAny_newFunctionEnv Cp.nocell (by intro y hy;simp at hy) (Sc h4 hns hsb) Cp.kind;have kp:∀b o,s3.heap.get? b=IO->h4.get? b=IO:=λ b o e=>hsb.extBut b o xC9 xdZ
 have I4:=uD (N:=N) (t':=s3.toks+([]:xuR LG).length) I3 Cp f3 lt3 hns kp;have NJ:tn 0 h4:=xCK _ _ MW λ b hb o e=>kp b o e
 have SV:∀{H':Hp},(xfv xi7)->xfv (MB (xy3 s3 H3) [] H' b):=λ hn b hb=>
  ⟨hn b hb,(I4.ok.exf b hb).1,I4.ok.exfs b hb,.inl hb,(I4.ok.exf b hb).2,xem p hp (xku p ([]:Wp) hp) Z6⟩
 have loop:xGi X.A (.compLoop (xi0 [xux]) 0 xnr xax (compEnvC scope cl s3.heap.objs.size X.env)) (xIZ xax) {s3 with heap:=h4,toks:=s3.toks+([]:xuR LG).length}:=by
  refine LR _ _ _ _ _ (λ n s'=>∃i ys σ' H',xms (xy3 s3 H3) σ' H' s'/\xrA s'.heap/\(xfv xi7)/\W i n ys σ' H') ?_ m0 ⟨0,[],_,_,I4,NJ,xaw (f3 b hb).1,w0⟩;rintro n s5 ⟨i,ys,σ5,H5,I5,YF,Vo,w5⟩;rcases turn i n ys σ5 H5 w5 with⟨stop,q⟩|⟨go,step⟩
  ·show xhB (xgP (T.done (xy3 s3 H3) rfl rfl rfl hc i [] s5 σ5 H5 _ I5 (SV Vo) YF stop) r s6) hr I6 z9;subst hr;exact hR _ _ _ _ (qS I3 f3 I6) (I3.fpOk Tl I6.free) (let⟨m,hn,_⟩:=I6.loc;⟨m,hn⟩) q
  ·show xfo (xgP (T.item (xy3 s3 H3) rfl rfl rfl hc i [] s5 σ5 H5 _ I5 (SV Vo) YF go) r s6) u hr h6 z9;subst hr;refine xAD h6 s7 z9 ?_
   obtain⟨x,H7,I7,r7,y7,st7,Zd⟩:=z9;have I7':=I7.pinned (SV Zd) (xzu _ st7);refine xcw (hg fp s3 H3 _ s7 σ5 H7 x u _ I7' r7 (step x H7 y7)) (λ _ s8 z9=>?_) z xse;obtain⟨σ8,H8,I8,q8⟩:=z9;show xfo (ht fp s3 H3 _ s8 σ8 H8 _ _ _ I8 q8 (Sc bb s85 z85)) H85 I85 q85 z85;cases bb with
   |false=>
    rw [EI EX] at q85 ⊢;show xa0 m' hm' w9 q85 ⟨m',hm',i+1,ys,σ8,H85,I85.unpinned,xCK _ _ st7 λ b hb o e=>(I85.pin (b,o) (xoe hb e)).1,xes,w9⟩;show xay o e d (xzu _ st7 b hb) (Δ (I85.pin (b,o) (xoe hb e)))
   |true=>
   rw [xag] at q85 ⊢;refine F9 (he fp s3 H3 _ s85 σ8 H85 _ (I85.wish _) q85) (Sc v s9 z9) λ e s' z=>hE l fp s3 H3 e s' I3 f3 z
   obtain⟨y,H9,I9',r9,hl9,hz9,m',hm',w9⟩:=z9;have I9:=I9'.unwish;refine xcw (bx (X:=xy3 s3 H3) _ s9 σ8 H9 xax xc0 xax [v] (λ z Hz=>Hz=xcB H9 (ys++xc0)) I9 rfl (xlU r9) ⟨l,ys,y,rfl,rfl,hl9,hz9,rfl⟩) (λ _ s10 ⟨z,Hz,I10,_,eH⟩=>?_) z xse
   subst eH;refine⟨m',hm',i+1,ys++xc0,σ8,_,I10.unpinned,xCK _ _ st7 λ b hb o e=>(I10.pin (b,o) (xoe hb e)).1,xes,w9⟩;show xay o e d (xzu _ st7 b hb) (Δ (I10.pin (b,o) (xoe hb e)))
 exact codeAny_compStart_list loop (T.self X.A 0 _ _ _ NJ loop)
def jZ {X:Cx}{N:xae}{scope:Scope}{cl:xt6}(hc:xlY)(Cp:xwF X N cl js)
  (hi:xtK X LV wi) (hg:∀fp s H,PG xgA LV g) (LR:ug X.prog X.w X.A elt LV iter cs scope pos tw) (ht:∀fp s H,PTw xgA tw tt) (he:∀fp s H,xxj xgA te)
  (hs:xpO (∀x,xwt x=xwT)):xal (xi0 [xux]) (eC js wi g tt te):=by
 intro LQ s σ H Q I h;show ST eval_ListComp (xLR hs Cp.clos Cp.kind Cp.names (jq hc Cp hi hg LR ht he I h ?_ λ _ _ _ _ _ _ _ _ z=>xse))
 rintro l C H' s' I' fC ⟨m,hn⟩ q;exact⟨m,hn,λ h' sb'=>xby xax H' (I'.turned (λ b o hb e=>xhr sb' hb e) fC.1 (Δ fC) (xny fC) (xoM fC) (xtk fC)) q⟩
def yM {X:Cx}{N:xae}{scope:Scope}{cl:xt6}{i:Nat}{y:Str}{py VV:Pos}(hN:X.N.Nodup)(hiy:Ν X.N y)(hy:xyd y)
    (hc:xlY) (Cp:xwF X N cl js)
    (hi:xtK X LV wi) (hg:∀fp s H,PG xgA LV g) (LR:ug X.prog X.w X.A elt LV iter cs scope pos tw) (ht:∀fp s H,PTw xgA tw tt) (he:∀fp s H,xxj xgA te)
    (hsw:xIt (xi0 [xux]) (some xzK) VV.line=pure true)
    (hs:xpO (∀x,xwt x=xwT)) (hf:xsn (xsI y\/xnQ y)):
    xyU [xzK] (xi0 [xux]) VV (Au i (eC js wi g tt te)):=by
  intro LQ s σ H D I h
  rw [exec_Assign_Name_used _ _ _ _ hsw]
  show xE5 (Ev ?_)
  show xEi X.A (do let _<-comprehension (xi0 [xux]) scope X.env _ (newList []) false xLi (some (xF6 xzK))) s
  show xaa (xcw (xLR hs Cp.clos Cp.kind Cp.names (jq hc Cp hi hg LR ht he I h ?_ λ _ _ _ _ _ _ _ _ z=>xse)) (λ _ s' hq=>EM (EM hq)) e e)
  rintro l C H' s' I' fC ⟨m,hn⟩ q
  show xEi X.A (xF6 xzK xax) _
  show xfo (wpAny_assign_Name (lJ I' hN hiy hy (show RelV xax xax from rfl) (Sc s2 I2 z9) hf)) a sb ha z9
  have hCa:C≠a:=by
    rcases ha with ha|ha
    · show LE ha (Δ fC)
    · exact IG (xoM fC y a ha)
  exact⟨m,hn.sameBut sb hCa,λ h' sb'=>xfj H' (I2.turned (λ b o hb e=>xhr sb' hb e) fC.1 (Δ fC) (xny fC) (xoM fC) (xtk fC)) q⟩
def yY (hc:xlY)(N9:xBS)(NS:xlw (xz3 xgv))(Oa:xlw (xgv≠ .cell))(Pq:xlw (xgv=.local->xwb xgt))(hi:xtK X LV wi)(hg:∀fp s H,PG (xym X N [] s H) LV g)(he:∀fp s H,xxj (xym X N [] s H) te)(hs:xpO (∀x,xwt x=xwT)):
  xal (xi0 [xAn []]) (AB N.length wi g te):=
 λ LQ s σ H Q I h=>jZ hc (Aj N9 NS Oa Pq) hi hg (sW xv7) xJn he hs LQ s σ H Q I (Dh h)
def jt {X:Cx}{N:xae}{scope:Scope}{elt:LN}(hc:xlY)(N9:xBS)(NS:xlw (xz3 xgv))(Oa:xlw (xgv≠ .cell))(Pq:xlw (xgv=.local->xwb xgt))(hi:xtK X LV wi)(hg:∀fp s H,PG (xym X N [] s H) LV g)(ht:∀fp s H,PT (xym X N [] s H) Xb tt)(he:∀fp s H,xxj (xym X N [] s H) te)(hs:xpO (∀x,xwt x=xwT)):
  xal (xi0 [xAn [Xb]]) (xV N.length wi g tt te):=
 λ LQ s σ H Q I h=>jZ hc (Aj N9 NS Oa Pq) hi hg (sW (xIh rfl)) (λ _ _ _=>CD (ht _ _ _) xqr) he hs LQ s σ H Q I (Dg h)
def jO {X:Cx}{N:xae}{scope:Scope}(hc:xlY)(Cp:xwF X N cl js)(hi:xtK X LV wi)(hg:∀fp s H,PG xgA LV g)(he:∀fp s H,xxj xgA te)(hs:xpO (∀x,xwt x=xwT)):
  xal (xi0 [xAn []]) (yj js wi g te):=
 λ LQ s σ H Q I h=>jZ hc Cp hi hg (sW xv7) xJn he hs LQ s σ H Q I (h)
def xR {X:Cx}{N:xae}{scope:Scope}{py VV:Pos}(hN:X.N.Nodup)(hiy:Ν X.N y)(hy:xyd y)(hc:xlY)(Cp:xwF X N cl js)(hi:xtK X LV wi)(hg:∀fp s H,PG xgA LV g)(he:∀fp s H,xxj xgA te)(hsw:xIt (xi0 [xAn []]) (some xzK) VV.line=pure true)(hs:xpO (∀x,xwt x=xwT))(hf:xsn (xsI y\/xnQ y)):
  xyU [xzK] (xi0 [xAn []]) VV (Au i (yj js wi g te)):=
 λ LQ s σ H D I h=>yM hN hiy hy hc Cp hi hg (sW xv7) xJn he hsw hs hf LQ s σ H D I (h)
def lG {lo:Int}{g:TG}{te:TE}{R:xrT}(Pv:xaX (LT->xbR))(h0:Pv 0 [] σ0 xsE)
  (hs:∀i ys σ H,i<k->xig σ H->g (.int (lo+xjm i)) σ H λ σ3 H3=>xqU λ y H4=>xgu=xdf/\xgO/\xfN (ys++xc0) σ3 xy4)
  (hd:∀ys σ H,Pv k ys σ H->R H) (mg:∀x σ H (A B:xbR),(∀σ' H',xjE σ'->xjF σ')->xjx A->xjx B) (mt:∀σ H (A B:VK),(∀v H',xjE v->xjF v)->xfI A->xfI B):
  ∃W:xoR,(∃m,xrn σ0)/\∀i m ys σ' H',xoE->
   (xn8 (xtU k) H'/\R H')\/(xoI (xtU k) H'/\∀x H2,xok (xtU k) H' x H2->xrr x λ σ3 H3=>xqU λ y H4=>
    xgu=xdf/\xgO/\∃m',m'<m/\xpw (i+1) (ys++xc0)):=by
 refine Ψ (λ i m ys σ H=>m=k-i/\i≤k/\xig σ H) ⟨k,Z6,xac,h0⟩;rintro i m ys σ H ⟨rfl,hi,p⟩;by_cases LU:i<k
 ·show xhB (xcz LU (Sc x H' y)) e y y;subst e y;exact mg _ _ _ _ _ (λ σ3 H3 z=>mt _ _ _ _ (λ y H4 z9=>by show xay z1 z2 z4 z9 ⟨z1,z2,k-(i+1),xmI,rfl,LU,z4⟩) z) (xrB ys σ _ LU p)
 ·have e:i=k:=xuj;show xqT e ⟨Tl,hd ys σ H p⟩
structure MY (K:Frag)(x qual:Str)(st:LP)(dV:LG)(f:LF)(fd:LK):Prop where
 ex:∃(oc:LG) (od:xhy) (kV doc pm:LG) (an:xhy) (LS ct:LG) (osl:xnU),
  fd=xyD x qual dV doc pm an LS ct/\xkZ f oc od fd osl/\xj8 K LS qual
 kp:xii
def MY.ok {K:Frag}{st:LP}(F:xk7 x qual st dV f fd)(S:P3 N ps st)
  (hb:∀(LS:LG) (A:LL) (outer:xeO) (s:LH) (H:Hp) (vs:LT) (Q:VK) (E:XK),xvv k (xBh xjZ f LS)->xd7->
   let X:=(xw5 LZ P w K N xjZ f LS A outer s H E).nox;∃t,xgh xuU t/\xtb H' xpA Q xiS H) (len:xyA (∀vs H Q E,xd7->xnx)):Η (k+1) ps sp:=by
 obtain⟨oc,od,kV,doc,pm,an,LS,ct,osl,rfl,lk,OW⟩:=F.ex;refine oq lk OW S len λ A outer s H vs Q E hr Pf=>?_
 show xay t h q (hb LS A outer s H vs Q E hr Pf) ⟨t,h.nox,q⟩
def AG (P:LI)(w:LJ)(h:LM)(d:LF)(a b:Int):Prop:=∃t t':Tok,h.MapOf (intKind P w) d (valueAt [(xlg,xst a),(16,.int b t')])
def at8 (a b:LG):NE (valueAt [(xlg,a),(16,b)] 8) a:=rfl
def Ed (a b:LG):NE (valueAt [(xlg,a),(16,b)] 16) b:=rfl
def S2 (K:Frag)(d:LF)(a b:Int):Prop:=τ (xpQ d)/\∃(t1 t2 t3 t4:Tok) (ep:Nat),xAR d ⟨xFc,none,.dict #[⟨8,.int 8 t1,.int a t2⟩,⟨16,.int 16 t3,.int b t4⟩] ep,#[]⟩
def S2.map {K:Frag}{d:LF}{a b:Int}{h:LM}(P:LI)(w:LJ)(T:S2 K d a b)(X:xqu):AG P w h d a b:=by
 obtain⟨_,t1,t2,t3,t4,ep,e⟩:=T;refine⟨t2,t4,_,_,ep,X _ _ e,xd9 rfl rfl,rfl,?_,?_⟩
 ·intro en hen;have hen':en=⟨8,.int 8 t1,.int a t2⟩\/en=⟨16,.int 16 t3,.int b t4⟩:=by simpa using hen
  show xja hen'
  ·exact⟨8,intKind_is P w 8 t1,by show xDz (xlg=hashInt 8)⟩
  ·exact⟨16,intKind_is P w 16 t3,by show xDz (Ty 16=hashInt 16)⟩
 ·intro k;show findBy Value.isInt _ k=_;unfold findBy valueAt;by_cases h8:k=8
  ·subst h8;simp [Value.isInt]
  ·by_cases h16:k=16
   ·subst h16;simp [Value.isInt]
   ·have e1:¬xlg=k:=No (h8 z.symm)
    have e2:¬Ty 16=k:=No (h16 z.symm)
    simp [Value.isInt,e1,e2]
def D9 (P:LI)(w:LJ)(d:LF)(a b:Int):HO:=.ext λ h=>AG P w h d a b
def Sq2 (X:Cx)(H:Hp)(d:LF)(a b:Int):Prop:=S2 X.K d a b\/xfh d (D9 X.prog X.w d a b)
def Inv.map2 {X:Cx}{LQ:Wp}{σ:St}{H:Hp}{s:LH}{d:LF}{a b:Int}(I:Ps)(h:Sq2 X H d a b):AG X.prog X.w s.heap d a b:=by
 rcases h with h|h
 ·exact h.map _ _ I.kIn
 ·exact(xf9 d h).1
inductive rIx2 (X:Cx) (x:V) (y:V) (H:Hp) (Q:VK):Prop
 |mk (d:_) (i:_) (a:_) (b:_) (h0:x=xqx) (h1:y=xcD) (h2:Sq2 X H d a b) (h3:((i=8/\xjI a)\/(i=16/\xjI b))):rIx2 X x y H Q
def nD {X:Cx}:IxR X (rIx2 X):=by
 intro value slice LQ s σ H x y v u Q I rx ry h hs;obtain⟨d,i,a,b,rfl,rfl,hm,hq⟩:=h;show xuu rx ry;obtain⟨t1,t2,hm⟩:=I.map2 hm;rcases hq with⟨rfl,q⟩|⟨rfl,q⟩
 ·exact xLS hm.typeIs (wpAny_getItem_of (xJ1 _ _ _) hm (at8 _ _) (xoS a H xek xa4 q)) hs
 ·exact xLS hm.typeIs (wpAny_getItem_of (xJ1 _ _ _) hm (Ed _ _) (xoS b H xek xa4 q)) hs
def mw {X:Cx}:xe9 .NotIn (λ x y H Q=>∃d i a b,x=xcD/\y=xqx/\S2 X.K d a b/\(i=8\/i=16)/\xdK false):=by
 intro LQ s σ H x y v u Q I rx ry h;obtain⟨d,i,a,b,rfl,rfl,hT,hi,q⟩:=h;show xla;cases ry;show xa0 t1 t2 hm (hT.map X.prog X.w I.kIn) (wpAny_notIn_of (xJ1 _ i t) hT.1 hm ?_);show xja hi
 ·exact xg0 false H xek q
 ·exact xg0 false H xek q
def rQ {X:Cx}(hu:xsP 64<cLine):xe9 .Eq (λ x y H Q=>∃(p q:LF) (ns ms:xkk),x=xad/\y=xwB/\xtz p xeI/\xtz q xyj/\xdK (xa2 ns ms)):=by
 intro LQ s σ H x y v u Q I rx ry h;obtain⟨p,q,ns,ms,rfl,rfl,h1,h2,k⟩:=h;cases rx;cases ry;show xiu rv pl h1;obtain⟨OZ,rv2,pl2,Q5⟩:=I.list h2;exact PySem.W.eq_intsK pl.isList (cW rv) pl2.isList (cW rv2) hu (xg0 _ H I k)
universe L2
namespace QQ
open PySem
def p5 {os:OsState}
  (hC:xdO C (excClassObj nm q C N bs bm hdct sn sub ab col dd k0 k1 k2 k3 k5 newId)) (hD:xdO D (excClassObj nm' q' D N' bs' bm' hdct' sn' sub' ab' col' dd' j0 j1 j2 j3 j5 newId'))
  (he:xdO e oe) (V5:oe.cls=Γ) (Wd:Pi (bm'.contains xAX)) (hm:xKY (xsH C bm) (.ref D)) (ne:C≠D)
  (hq:xwS ⟨h,g,d,t,os⟩):xif (excMatches xf6 (.ref D)) Q E ⟨h,g,d,t,os⟩:=by
 have hcB:xKY (xsH D bm') xAX:=by rw [List.contains_cons,Wd,Bool.or_true]
 have f:=tc_notTuple;unfold excMatches
 repeat (first|(with_reducible refine wpAny_loadPart_at he ?_;rw [V5])|with_reducible refine wpAny_loadPart_at hD ?_|(with_reducible refine wpAny_isSubtype_exc hD ?_;rw [hcB])|(with_reducible refine wpAny_isSubtype_exc hC ?_;rw [hm])|wp_step)
 exact hq
universe QQ
set_option maxHeartbeats 8000000
namespace L2
open PySem PySem.Spec PyProof.Rows QQ
def Mb.there (x:xpt o):∃ob,xio ob:=by
 cases o with
 |lst xs=>show xBt e x xmT
 |tup xs=>obtain⟨_,_,_,ob,e,_⟩:=x;exact xmT
 |dK LY=>show xEH e x;exact xmT
 |dT LY=>show xEH e x;exact xmT
 |set S n=>obtain⟨o,_,_,_,e,_⟩:=x;exact xmT
 |ins C dx fs=>show xFP e x xmT
 |own y=>exact x
 |xd fs=>obtain⟨_,⟨_,_,_,e,_⟩,_⟩:=x;exact xmT
 |rng lo hi=>show xpL e x xmT
 |frz ob u=>obtain⟨e,_⟩:=x;exact xmT
 |tbl ps=>exact xa1 (show xio _ from x)
 |met f y=>exact xa1 (show xio _ from x)
 |ext φ=>obtain⟨_,e,_⟩:=x;exact e
def NC.gone (x:xij)(e:W1 xwh):υ a:=by
 cases q:XL with
 |none=>rfl
 |some u=>
  obtain⟨ob,r⟩:=(x a u q).there;show xeG r r
def Bk (h0:LM)(H:Hp)(e:LF)(c:LG):Prop:=Xh H e c/\∀b,c=xmc->W1 (h0.get? b)
def VU (D:Ο LG)(P:LI)(w:LJ):VT:=λ outer H s E e s'=>∃ea cls fp H',e=xsV/\s'.os=s.os/\xye/\Un xKr [] H H' s.heap s'.heap/\xsY H' s'.heap/\
 (∃c,D c/\xkN s'.heap ea fp c/\Bk s.heap H' ea c)/\(xfv (W1 xaG/\xi7))/\E cls none H'
abbrev UW:LI->LJ->VT:=VU λ _=>True
structure V6 (X:Cx)(LQ:Wp)(b:LF):Prop where
 s0:W1 xiA
 loc:xfF
 cel:∀x c,xcJ->xia
 pin:xrp b
def BkX (X:Cx)(LQ:Wp)(H:Hp)(e:LF)(c:LG):Prop:=Xh H e c/\∀b,c=xmc->V6 X LQ b
structure UT (X:Cx)(LQ:Wp)(H:Hp)(b:LF):Prop where
 s0:W1 xiA
 h:xcg
 loc:xfF
 cel:∀x c,xcJ->xia
 pin:xrp b
def Inv.newA {σ:St}(I:Ps)(e:W1 xaG)(hx:xDy):V6 X LQ b:=by
 refine⟨?_,xg8,λ x c ec z=>?_,Sc p hp z⟩
 ·cases q:xiA with
  |none=>rfl
  |some o=>
   obtain⟨o',r⟩:=xvf o q hx;show xeG r r
 ·show xJd m o ho;rw [<-z,e] at ho;cases ho
 ·obtain⟨v,o,ho,_⟩:=xpf ec;show xbb e ho ho
 ·have:=xwY.1;show xq6 e
def Inv.new {σ:St}(I:Ps)(e:W1 xaG)(n:xi7)(hx:xDy):xmJ X H' b:=
 let a:=I.newA e hx
 ⟨a.s0,n,a.loc,a.cel,a.pin⟩
def UT.ch (n:xmJ X H b):(xxh b\/W1 xiA)/\xfF/\(∀x c,xcJ->xia)/\xrp b:=⟨.inr n.s0,n.loc,n.cel,n.pin⟩
def Inv.landed {σ:St}{fp:Ω}(I:Ps)(hn:xfv (xmJ X H b))(k:∀b o,xaG=IO->xgD fp->xgD xLT->xiG=IO)
  (sl:∀b o,xaG=IO->xgD fp->∃z,xyy b o z) (th:∀b o,xaG=IO->∃o',xea b o'):xlD xeQ:=by
 have nf:∀b,xzr->xfF->xgD xLT:=λ b h1 h2 z=>by
  show xix (xGb z) q q
  ·exact h2 q
  ·exact h1 q
 have tr:∀b u,xfL u->∀o,xaG=IO->xiG=IO:=λ b u e o g=>by
  refine xfO o g xg8 xg8
  ·show xjt (hn b z).h
  ·show xjt (I.stkFree b z)
 refine I.step0 (xaw (hn b hb).ch) (λ b o h1 h2 h3 g _=>xfO o g h3 (nf b h2 h1)) (λ b o _ _ h3 g _=>sl b o g h3) (λ _ _ _ _ n=>n) (λ b o _ g=>th b o g)
  (λ _ _ e=>e) (xGW e) (λ b ps e=>xAy (by show xbc e)) (PP m hm) (xlx a) I.bare
 ·show xuF es ep ho r hm;show xbE z q (sl _ o ho λ y=>(xra y).loc rfl) (xdE es ep q r)
 ·refine xvz a o e (λ c v hc q=>?_) (λ _ q=>q) xtA
  show xcv hc
  ·subst z;exact tr c _ e v q
  ·exact tr c _ z v q
def Inv.thrown {σ:St}(I:Ps)(hx:xo3 X.prog X.w X.stack H s E e s')(hX:X.ex=[]):∃ea cls fp H',e=xsV/\xi8/\(∃c,D c/\xkN s'.heap ea fp c/\BkX X LQ H' ea c)/\(xfv (xmJ X H' b))/\E cls none H':=by
 obtain⟨ea,cls,fp,H',rfl,os,bare,un,hok,⟨c,dc,F,bk,bn⟩,fr,q⟩:=hx;exact⟨ea,cls,fp,H',rfl,I.call' os un hok bare (xem b z z Z6),⟨c,dc,F,bk,λ b e=>I.newA (bn b e) (by show xbc hX)⟩,xaw (I.new (fr b hb).1 (fr b hb).2 (by show xbc hX)),q⟩
def c6 {K:Frag}:
  dl (xo3 P w) (xq5 (xo3 P w) P w K N f cd A outer s₀ H₀ E) E:=by
 intro LQ σ H s e s' I hx;obtain⟨ea,cls,fp,H',rfl,I',⟨c,dc,F,bk,bn⟩,fr,q⟩:=I.thrown hx rfl;show xrP P w _ (leaving _ xsV) _ _ _;show xgY leaving (DS I'.ok.frames I'.stack rfl F λ h' T F' hT f3 f4 f5=>?_);have J:=I'.landed fr f3 f4 f5;refine⟨ea,cls,[ea,T],H',rfl,J.os,J.bare,J.base,J.hok,⟨c,dc,F',bk,λ b e=>(bn b e).s0⟩,xes,q⟩;show xix hb hb hb
 ·subst hb;have z:=fr b F.here;show xar z.s0 z.h
 ·rw [EW] at hb;subst hb;refine⟨?_,I'.hok.fresh hT⟩;cases z:s₀.heap.get? b with
  |none=>rfl
  |some o=>
   show xbE o' r (I'.base.there b o z (by simp [cxOf])) (absurd (Ey (E1 r) hT) xmi)
def Db:dl (xo3 P w) X E0:=by
 intro _ _ _ _ _ _ _ h;obtain⟨_,_,_,_,_,_,_,_,_,_,_,q⟩:=h;exact q.elim
def Mm.okE {K:Frag}{st:LP}(F:Χ x qual st)(S:P3 N ps st)
  (hb:∀(LS:LG) (A:LL) (outer:xeO) (s:LH) (H:Hp) (vs:LT) (Q:VK) (E:XK),xvv k (xBh xjZ f LS)->xd7->
   let X:=(xw5 (xo3 P w) P w K N xjZ f LS A outer s H E);∃t,xgh xuU t/\xtb H' xpA Q xiS H) (len:xyA (∀vs H Q E,xd7->xnx)):xfe P w K (xo3 P w) (k+1) f fd ps sp:=by
 obtain⟨oc,od,kV,doc,pm,an,LS,ct,osl,rfl,lk,OW⟩:=F.ex;exact oq lk OW S len λ A outer s H vs Q E hr Pf=>hb LS A outer s H vs Q E hr Pf
def MY.okE {D:Ο LG}{P:LI}{w:LJ}{K:Frag}{mg:π}{base:LM}{x qual:Str}{st:LP}{dV:LG}{f:LF}{fd:LK}{N ps:xae}{k:Nat}{sp:Sp}(F:xk7 x qual st dV f fd)(S:P3 N ps st)
  (hb:∀(LS:LG) (A:LL) (outer:xeO) (s:LH) (H:Hp) (vs:LT) (Q:VK) (E:XK),xvv k (xBh xjZ f LS)->xd7->
   let X:=(xw5 (xo3 P w) P w K N xjZ f LS A outer s H E);∃t,xgh xuU t/\xtb H' xpA Q xiS H) (len:xyA (∀vs H Q E,xd7->xnx)):xfe P w K (xo3 P w) (k+1) f fd ps sp:=by
 obtain⟨oc,od,kV,doc,pm,an,LS,ct,osl,rfl,lk,OW⟩:=F.ex;exact oq lk OW S len λ A outer s H vs Q E hr Pf=>hb LS A outer s H vs Q E hr Pf
noncomputable abbrev bmV:xaI:=[xu3,.type "Exception",xAX,xBe]
def ExC (K:Frag)(C:LF):Prop:=Pi (excIn K C bmV "ValueError.__new__")
def nN {K:Frag}(c:xqM C):∃bm N nm q bs hdct sn sub ab col dd k0 k1 k2 k3 k5,xAR C (excClassObj nm q C N bs bm hdct sn sub ab col dd k0 k1 k2 k3 k5 "ValueError.__new__")/\
  NE (clsIn K C) ⟨nm,bs,Γ::bm,N,q,hdct,sn,sub,ab,col,false⟩/\∀h,xqu->(∃mN,h.Ns N mN/\W1 (mN "__init__"))/\OwnTail h bmV bm:=by
 unfold ExC excIn at c
 split at c
 ·rename_i dd cd sl hl
  split at c
  ·rename_i C1 bm k0 k1 k2 k3 n k5 hm hs
   simp only [JF,beq_iff_eq,K6] at c;obtain⟨⟨⟨⟨⟨e1,e2⟩,hdel⟩,ht⟩,hok⟩,hni⟩:=c;subst e1 e2;obtain⟨nm,bs,mro,ns,qn,hd,sn,sub,ab,col,del⟩:=cd;dsimp only at hm hdel hok hni;subst hm hdel;have hsl:sl=#[k0,k1,k2,k3,xA8 "ValueError.__new__",k5]:=by
    obtain⟨l⟩:=sl;simp only at hs;rw [hs]
   subst hsl;refine⟨bm,ns,nm,qn,bs,hd,sn,sub,ab,col,dd,k0,k1,k2,k3,k5,hl,by show xaP clsIn hl,λ h X=>⟨xaU (.of_isNs (PySem.W.isNs_of_in X hok)) (PySem.W.nsMap_none_of_in X hok hni),PySem.W.tail_of_in X ht⟩⟩
  ·cases c
 ·cases c
def BO (C:LF)(E:XK)(te:TE):TS:=λ _ σ H=>xfI λ _ H1=>E Γ none H1
def gR {D:Ο LG}{X:Cx}{np QY pos:Pos}(hx:dl (xo3 X.prog X.w) X E)(hh:xpK)(hg:xe8)(hm:xiO=xgr)(c:xDk C)(he:xrd e)
  (Nd:Μ (xfS [e]=xfH::xfS [])) (hd:xdw (x==xdQ)) (hD:D .none:=by trivial):xh1 (.Raise (some (xD9 x np [e] [] QY)) none pos) (BO C E te):=by
 intro LQ s σ H D I h;obtain⟨bm,N,nm,q,bs,hdct,sn,sub,ab,col,dd,k0,k1,k2,k3,k5,hl,_,hf⟩:=nN c;obtain⟨⟨mN,hN,hni⟩,T⟩:=hf X.base I.mod.kin;refine wpAny_Raise_call_subT (nm:=nm) (q:=q) (N:=N) (bs:=bs) (hdct:=hdct) (sn:=sn) (sub:=sub) (ab:=ab) (col:=col) (dd:=dd) (k0:=k0) (k1:=k1) (k2:=k2) (k3:=k3) (k5:=k5)
  PySem.F.excBase_ValueError (mN:=mN) (T.hasType Z8) hh (by show Τ Nd) hni (xrq I xhA hd)
 show xmG Nd (Calls.evalArgs_plain (K0 (thn (xGw _ I h) λ u s1 ⟨y,H1,I1,r1,q1⟩=>K5 ?_))) ⟨rfl,by show xdy 1,I1.kIn C _ hl,hN.keeps I1.bk,T.keeps I1.bk,Sc h' ea md⟩;exact hx LQ σ H1 s1 _ _ I1 ⟨ea,_,[ea],H1,rfl,rfl,I1.bare,Un.kept md.keeps,I1.hok.kept md.keeps,xdE hD (SF.made md) xbF (λ b e=>xHn),xaw (by
  rw [EW] at hb;subst hb;show xar md.new (I1.hok.gone md.new)),q1⟩
noncomputable def oP (X:Cx) (pn:Wp) (σ0:St) (E:XK) (D:Ο LG:=λ _=>True):Cx:={X with
 pn:=pn
 xe:=λ e s'=>∃ea cls fp H',e=xsV/\xms {X with pn:=pn} σ0 H' s'/\(∃c,D c/\xkN s'.heap ea fp c/\BkX {X with pn:=pn} [] H' ea c)/\(xfv (UT {X with pn:=pn} [] H' b))/\E cls none H'}
noncomputable def cxHand (X:Cx) (e:LF) (G:Hp):Cx:={X with
 A:=xKj e
 H₀:=G
 xe:=xnk}
def gK (CX:VT)(X:Cx)(E:XK)(σ0:St):Prop:=∀LQ H s e s',xkL σ0 H s->CX X.stack H s E e s'->X.xe e s'
def Cx.Ok.repn {X:Cx}(ok:X.Ok)(pn)(W):Cx.Ok (xvJ pn W):=
 ⟨ok.mod,ok.kind,ok.glob,ok.blt,ok.above,ok.inj,ok.has,ok.cab,ok.hd,ok.frames,ok.stk,ok.exf,ok.bs,ok.bsz,ok.noex,ok.exfs,ok.funs,ok.frf⟩
def Cx.Ok.unpn {X:Cx}{pn:Wp}(ok:Cx.Ok (xvJ pn W)):X.Ok:=
 ⟨ok.mod,ok.kind,ok.glob,ok.blt,ok.above,ok.inj,ok.has,ok.cab,ok.hd,ok.frames,ok.stk,ok.exf,ok.bs,ok.bsz,ok.noex,ok.exfs,ok.funs,ok.frf⟩
def Inv.lift {σ:St}(I:Ps)(W):xms (xvJ xv9 W) σ H s:=
 ⟨I.ok.repn _ W,I.os,I.bare,I.base,I.loc,I.cell,I.free,I.freeC,λ p hp=>xvt (by simpa using hp),I.hok,I.len⟩
def Inv.unlift {σ:St}(I:xqE (xvJ xv9 W) σ H s):Ps:=
 ⟨I.ok.unpn,I.os,I.bare,I.base,I.loc,I.cell,I.free,I.freeC,λ p hp=>xvt (xld hp),I.hok,I.len⟩
theorem Inv.repn {X:Cx}{σ:St}(I:xrQ (xvJ pn W) H s):xms (xvJ pn W') σ H s:=
 ⟨I.ok.unpn.repn _ W',I.os,I.bare,I.base,I.loc,I.cell,I.free,I.freeC,λ p hp=>xvt (by simp at hp;exact xld hp),I.hok,I.len⟩
theorem SP.unlift (h:SP (xvJ xv9 W) [] D f s'):xm6 f s':=by
 cases f with
 |next=>show xgX σ' H' I q;show xav σ' H' I.unlift q
 |brk=>show xgX σ' H' I q;show xav σ' H' I.unlift q
 |cont=>show xgX σ' H' I q;show xav σ' H' I.unlift q
 |ret u=>obtain⟨v,σ',H',I,r,q⟩:=h;exact⟨v,σ',H',I.unlift,r,q⟩
def AA {X:Cx}{pn:Wp}{σ0:St}(hX:X.ex=[])(hD:∀c,D c->D' c:=by intros;trivial):gK (xo3 X.prog X.w) (oP X pn σ0 E D') E σ0:=by
 intro LQ H s e s' I hx;obtain⟨ea,cls,fp,H',rfl,I',F,fr,q⟩:=I.thrown hx hX;obtain⟨c,dc,F,bk,bn⟩:=F;exact⟨ea,cls,fp,H',rfl,I'.repn,⟨c,hD c dc,F,bk,λ b e=>let n:=bn b e;⟨n.s0,n.loc,n.cel,λ p hp=>xDl (by simp at hp;exact xld hp)⟩⟩,xaw (let n:=fr b hb;⟨n.s0,n.h,n.loc,n.cel,λ p hp=>xDl (by simp at hp;exact xld hp)⟩),q⟩
def tAt (σ0:St)(t:TE):TE:=λ σ H Q=>σ=σ0/\xdo Q
def uq (F:xne)(hr:xju)(hb:xmE)(hd:xmC)(hx:gK CX X E σ0)
  (I:xkL σ0 H s) (r:xxF) (h:sp (vs++Nq) H Q E):xgG (xqh us) (EP X LQ σ0 Q):=by
 have r2:Vals (vs++Nq) (us++ds):=xJX;have hl:xu6 (xaN us ds):=by show xaC r2.length (F.len _ _ _ _ h)
 refine Kc (Kh (xFJ X.A s H (xgU us) (us++ds) (vs++Nq) Q E hr I.env0 (hb s us I.kIn hl) r2 h) (Sc r s' hq));cases r with
 |error e=>exact hx LQ H s e s' I hq
 |ok fl=>
  cases fl with
  |ret u=>exact I.after hq
  |next=>show xoX
  |brk=>show xoX
  |cont=>show xoX
def wz {p:Pos}{pos:Pos}(F:xne)(hr:xju)(hg:xe8)(hm:xiO=xdB)(hk:xpB X.K xbN)(hb:xmE)(hd:xmC)(hx:gK CX X E σ0)
  (ha:xm5) (Rf:xdw (x==xdQ)) (he:Μ (xkY=xfH::xkV)) (Nu:xnl):
  xlb x p xcu [] (tAt σ0 (oQ sp Nq E t)):=by
 intro LQ s σ H Q I h;show xbD rfl h h (GD (xrq I ?_ Rf));refine IA I.ok.mod.kin hk (thn xng (xJt us s1 I1.kIn)) he Nu;exact uq F hr hb hd hx I1 r q
def vX {pos:Pos}{apos:Pos}{pl:xwe}(he:xl4 o)(c:xty)(hm:xol X.K m f)(F:xne)(hr:xju)(hb:xmE)(hd:xmC)(hx:gK CX X E σ0)(ha:xm5)
    (Nd:Μ (xkY=xfH::xkV)) (Nu:xnl)
    (ht:Μ (xxS o m xcu=(do
      let ov<-xoK
      xu5
      let xwN f<-xva [ov] ov m pl
      xxm f xcu xxn))):
    xxR o m xcu (tAt σ0 (jV C m sp Nq E ta t)):=by
  intro LQ s σ H Q I h
  show xbD rfl h h (IB (xq8 _ I h u) ht)
  obtain⟨x,H1,I1,rx,a,dx,fs,ex,ea,l,q⟩:=z9
  subst ex
  obtain rfl:u=xcP:=rx
  show TD (dG I1 ea c hm l ?_) (IA I.ok.mod.kin hm.kp (thn (xFe s1 H1 _ I1 q) (xJg us s2 I2.kIn)) Nd Nu)
  exact uq (vs:=Tm::vs) F hr hb hd hx I2 (xGI r) q2
def Inv.know {σ:St}(I:Ps)(n:V6 X LQ b)(hb:xfL (xhs ob b)):xrQ (xCI (xm3 b b)) H s:=by
 have neF:∀c∈X.fs,xia:=λ c hc z=>by
  show xED o ho hc;show xbb n.s0 ho ho
 have Qb:∀c o,xMK=IO->xia:=λ c o q z=>by show xbb n.s0 q q
 have neB:∀c o,X.base.get? c=IO->xia:=λ c o q=>Qb c o (xnP c q).1
 refine⟨⟨I.ok.mod,I.ok.kind,I.ok.glob,I.ok.blt,I.ok.above,I.ok.inj,I.ok.has,I.ok.cab,?_,I.ok.frames,I.ok.stk,I.ok.exf,λ c o q=>xbW (xnP c q).1,I.ok.bsz,I.ok.noex,I.ok.exfs,I.ok.funs,PP c hc⟩,
  I.os,I.bare,⟨λ c o q z hc hx=>?_,λ c o q z hc hx=>?_,λ c o q z hx=>?_,I.base.there,xit c xs,λ c o u q=>?_,xit c ps⟩,I.loc,I.cell,I.free,I.freeC,I.pin,I.hok,I.len⟩
 ·rcases I.ok.hd with q|⟨a,o,vs,c,e,f,d,z,k⟩
  ·show xaT q
  ·have up:∀x o u,NE (X.H₀ x) xiT->NE (xm3 b b x) xiT:=λ x o u g=>by
    by_cases hx:x=b
    ·show xdF (I.base.frzs _ _ _ g) hx hb;rw [hx,ad];show xfM
    ·show Re hx g
   show xbB ⟨a,o,vs,c,e,up _ _ _ f,d,z,k.keep up⟩
 ·show W1 (xgJ b _ c);show Re (neB c o q) (xnP c q).2
 ·show W1 (xgJ b _ c);show Re (neF c hc) (I.ok.frf c hc)
 ·have z':W1 (xm3 b b c):=z;show xoF (Qb c o q) z' (I.base.keep c o q z' hc hx)
 ·have z':W1 (xm3 b b c):=z;show xoF (Qb c o q) z' (xvs c q z' hc hx)
 ·have z':W1 (xm3 b b c):=z;show xoF (Qb c o q) z' (I.base.free c o q z' hx)
 ·have q':xjf (xm3 b b c):=q;by_cases hc:c=b
  ·show xjV hc ad q' q'
  ·show xoF hc q' (xys c q')
 ·have q':NE (xm3 b b c) xiT:=q;by_cases hc:c=b
  ·rw [hc] at q' ⊢;show xqL ad q' hb q'
  ·show xoF hc q' (xJJ o u q')
 ·have q':NE (xm3 b b c) xpZ:=q;by_cases hc:c=b
  ·show xjV hc ad q' q'
  ·show xoF hc q' (xyt c q')
def Inv.unknow {σ:St}{σ1:St}(I0:Ps)(n:V6 X LQ b)(hb:xfL (xhs ob b))(I:xuN (xCI (xm3 b b)) σ1 H1 s1):xkL σ1 H1 s1:=by
 have Qb:∀c u,xjJ xMK->xia:=λ c u q z=>by show xbb n.s0 q q
 have tr:∀c,xia->xm3 b b c=X.H₀ c:=λ c hc=>ai hc
 refine⟨I0.ok,I.os,I.bare,⟨λ c u q z hc hx=>I.base.keep c u q (xj7 c (Qb c u q) z) hc hx,λ c u q z hc hx=>I.base.slot c u q (xj7 c (Qb c u q) z) hc hx,λ c u q z hx=>I.base.free c u q (xj7 c (Qb c u q) z) hx,I.base.there,xit c xs,λ c u v q=>?_,xit c ps⟩,I.loc,I.cell,I.free,I.freeC,I.pin,I.hok,I.len⟩
 ·refine xys c (xj7 c xg8 q);have:=I0.base.tups c xs q;show xq6 hb
 ·by_cases hc:c=b
  ·show xdF (I0.base.frzs c u v q) hc hb;refine xJJ u v ?_;show xm3 b b c=_;rw [hc,ad];show xfM
  ·exact xJJ u v (xj7 c hc q)
 ·show xhB (xyt c (xj7 c xg8 q)) m this (I0.base.tbls c ps q);show xq6 hb
def Inv.ready {σ:St}(I:Ps)(bk:BkX X LQ H e c):∃G,xrQ (xCI G) H s/\Xh G e c/\∀σ1 H1 s1,xuN (xCI G) σ1 H1 s1->xkL σ1 H1 s1:=by
 obtain⟨bk,bn⟩:=bk;rcases bk with bk|⟨b,ob,us,rfl,n,f,r⟩
 ·show xav X.H₀ I (.inl bk) (λ _ _ _ z=>z)
 ·exact xfj (I.know (bn b rfl) f) (.inr ⟨b,ob,us,rfl,n,ad,r⟩) (λ _ _ _ z=>I.unknow (bn b rfl) f z)
def Inv.hand {σ:St}(I:Ps)(n:xmJ X H e)(g:xfg e xzq)(h2:xbw vs 2 c/\xv8 6)(bk:Xh X.H₀ e c):
  xrQ (xnT e (xgJ e xqH)) (xdU e xqH) s:=by
 have neF:xaY X.fs xfK:=λ b hb z=>by
  show xED o ho hb;show xbb n.s0 ho ho
 have Qb:∀b o,xiA=IO->xfK:=λ b o q z=>by show xbb n.s0 q q
 have neB:∀b o,xyr=IO->xfK:=λ b o q=>xo4 o (xnP b q).1
 have bk':Xh (xgJ e xqH) e c:=by
  rcases bk with bk|⟨b,ob,us,e1,n1,f1,r⟩
  ·show xaT bk
  ·show xbB ⟨b,ob,us,e1,n1,xdS n1 f1,r⟩
 refine⟨⟨I.ok.mod,I.ok.kind,I.ok.glob,I.ok.blt,I.ok.above,I.ok.inj,I.ok.has,I.ok.cab,.inr ⟨e,_,vs,c,rfl,ad,rfl,h2,bk'⟩,I.ok.frames,I.ok.stk,I.ok.exf,λ b o q=>xbW (xnP b q).1,I.ok.bsz,I.ok.noex,I.ok.exfs,I.ok.funs,xes⟩,
  I.os,I.bare,⟨λ b o q z hb hx=>?_,λ b o q z hb hx=>?_,λ b o q z hx=>?_,I.base.there,xit b xs,λ b o u q=>?_,xit b ps⟩,I.loc,I.cell,?_,Sc x c ec,xmK,xit a o,I.len⟩
 ·show W1 (xgJ e _ b);show Re (neB b o q) (xnP b q).2
 ·show W1 (xgJ e _ b);show Re (neF b hb) (I.ok.frf b hb)
 ·have z':W1 (xgJ e xqH b):=z;show xoF (xo4 o q) z' (xvm o q z' hb hx)
 ·have z':W1 (xgJ e xqH b):=z;show xoF (xo4 o q) z' (xvs b q z' hb hx)
 ·have z':W1 (xgJ e xqH b):=z;show xjl (ai (xo4 o q)) z' (xrM q z' hx)
 ·have q':xjf (xgJ e xqH b):=q;by_cases hb:b=e
  ·show xjV hb ad q' q'
  ·show xjl xg9 q' (xys b q')
 ·have q':NE (xgJ e xqH b) xiT:=q;by_cases hb:b=e
  ·rw [hb] at q' ⊢;show xjl ad q' q'
  ·show xjl xg9 q' (xFf o u q')
 ·have q':NE (xgJ e xqH b) xpZ:=q;by_cases hb:b=e
  ·show xjV hb ad q' q'
  ·show xjl xg9 q' (xyt b q')
 ·show W1 (xdU e _ X.env.locals);show Re (IG n.loc) I.free
 ·show Re (n.cel x c ec) (xDK ec)
 ·show xay a1 a2 a3 xwY ⟨a1,by show Re (xDl hp) a2,a3⟩
 ·by_cases ha:a=e
  ·show xbx ha ad q q;exact⟨g,_,g⟩
  ·rw [ai ha] at q;have nt:∀b u,xfL u->xfK:=λ b u r z=>by show xbb n.h r r
   exact xvz a o q (λ b u _ r=>r) (λ b r=>by show Re (nt b _ r) r) (λ b xs r=>by show Re (nt b _ r) r)
def Inv.unhand {σ:St}{σ1:St}(I0:Ps)(n:xmJ X H e)(I:xuN (xnT e (xgJ e (xhs o e))) σ1 H1 s1):xkL σ1 H1 s1:=by
 have Qb:∀b u,xjJ xiA->xfK:=λ b u q z=>by show xbb n.s0 q q
 have tr:∀b,xfK->(xnT e (xgJ e (xhs o e))).H₀ b=X.H₀ b:=xaw xg9
 refine⟨I0.ok,I.os,I.bare,⟨λ b u q z hb hx=>xvm u q (xj7 b (xo4 u q) z) hb hx,λ b u q z hb hx=>I.base.slot b u q (xj7 b (xo4 u q) z) hb hx,λ b u q z hx=>xLs u q (xj7 b (xo4 u q) z) hx,I.base.there,xit b xs,λ b u v q=>?_,xit b ps⟩,I.loc,I.cell,I.free,I.freeC,I.pin,I.hok,I.len⟩
 ·refine xys b (xj7 b xg8 q);have:=I0.base.tups b xs q;show xq6 n.h
 ·refine xFf u v (xj7 b xg8 q);have:=I0.base.frzs b u v q;show xq6 n.h
 ·show xhB (xyt b (xj7 b xg8 q)) m this (I0.base.tbls b ps q);show xq6 n.h
def Inv.nameGoes {σ:St}(I:Ps)(hN:X.N.Nodup)(hi:Ν X.N y)(hl:xnQ y)
    (h:∀s',xkL xGr H s'->xhi s'):xif (do bindName X.env y .none;xL0 y pos) Q E s:=by
  have hiσ:i<σ.length:=by show LE I.len (xbX hi)
  have V5:τ (xEZ .class||(xEZ .module&&X.env.locals !=X.env.globals)):=by show Τ I.ok.kind
  have hk:xE4 y .local:=hl
  show xaa (wpAny_bindName (gP (v:=.non) I hN hi xGl rfl (PP s1 I1) (.inr hl)))
  unfold unbindBehindTheSuite
  refine wpAny_onRaise ?_
  show xgY unbindName (wpAny_point (Ev ?_))
  unfold deleteName
  simp only [hk,V5]
  rw [EI Z9]
  obtain⟨m,hn,hm⟩:=id I1.loc
  obtain⟨u,ru,lk⟩:=hm i y .non hi (by rw [Gs hiσ]) xGl
  have hmy:xjJ (m y):=by
    rcases lk with⟨_,q⟩|⟨q,_⟩
    · exact q
    · rw [hk] at q
      rcases q with q|q<;>cases q
  show xaa (wpAny_nsDel_keeps hn λ h2 v Qc Ot=>?_)
  rw [hmy]
  simp only [if_true,Option.isSome_some,Bool.not_true,Hg,JO]
  refine EM (wpAny_point (xcX ?_))
  obtain⟨oL,_,_,hoL,_⟩:=id hn
  have Qb:∀b o,xiA=IO->xfF:=λ b o e=>xsB xcS I1.ok.above
  refine⟨I1.ok,I1.os,I1.bare,⟨λ b o e n hb hx=>xhr Ot (xo4 o e) (I1.base.keep b o e n hb hx),λ b o e n hb hx=>?_,I1.base.free,λ b o e hx=>?_,I1.base.tups,I1.base.frzs,I1.base.tbls⟩,xaU Qc (λ j z v' e1 e2 e3=>?_),xcW z c,I1.free,I1.freeC,xmK,xcW b ob,by simpa using I.len⟩
  · show xdm sl e1 (I1.base.slot b o e n hb hx) sl (xhr Ot (xo4 o e) e1)
  · show xdm o' e1 (I1.base.there b o e hx) o' (xhr Ot (xo4 o e) e1)
  · have hj:j≠i:=λ q=>by show xjV q (Gs hiσ) e2 e2
    rw [HY xHr] at e2
    show xa0 u' r' q (hm j z v' e1 (by show LE (HY xHr) e2) e3) (Ψ u' r')
    rcases q with⟨kk,e⟩|⟨kk,c,e,zz⟩
    · refine .inl (xbW kk)
      have:z≠y:=λ q=>hj (jA hN e1 (q▸hi))
      simp [this,e]
    · show xbB ⟨kk,c,e,zz.sameBut Ot (I1.cne z c e)⟩
  · show xdm w' q (I1.cell z c e) w' (q.sameBut Ot (I1.cne z c e))
  · obtain⟨e,n,ne,nf,d⟩:=I1.pin p hp
    exact⟨xnq Ot xak ne e,n,ne,nf,d⟩
  · refine(I1.hok b ob e).stay (λ c w' hc q=>xnq Ot c xg8 q) (λ _ q=>q) xtA
    rcases hc with hc|hc
    · rw [<-hc,z,I1.free] at e;cases e
    · show xbb I1.free hc hc
def Dx (i:Nat)(D:Ends):Ends:=⟨λ σ H=>D.nx xGr H,D.rt,λ σ H=>D.bk xGr H,λ σ H=>D.ct xGr H⟩
def DY (K:Frag)(D0:LF)(i:Nat)(tb:St->XK->TS)(th:TS):TS:=λ D σ H=>
 xxp (λ cls _ H'=>∃C,cls=Γ/\xqM C/\C≠D0/\xs4 K C D0/\
  ∀e vs,xx5 e->th (Dx i D) (xEv (SC e)) (xrg H' (xqk Γ e))) D σ H
def Bz {s:LH}(Nd:X.stack=xzs)(Tz:xBn)(hX:X.ex=[])
  (hb:xwr (oP X xv9 σ W D') tb) (I:Ps) (h:tb D σ H)
  (k:∀(ea T:LF) (cls c:LG) (H':Hp) (s1:LH) (vs ts:xkj) (oT:LO),D' c->Xh H' ea c->(∀b,c=xmc->V6 X LQ b)->W cls none H'->xkN s1.heap ea [ea,T] c->xyp s1->xmJ X H' ea->xmJ X H' T->NE (s1.heap.get? ea) xzq->(xbw vs 2 c/\xv8 6)->vs[1]?=SC T->T≠ea->NE (s1.heap.get? T) oT->oT.data=xK2->xyC ts 3->xjW (handleBy xsV X.env (h₀::hs)) xm6 s1):
  xgG (exec (xCx (h₀::hs) [] [] pos) X.env) xm6:=by
 refine wpAny_Try_except (F9 (hb [] s σ H D (I.lift _) h) (xit f s1) (xit e s1))
 ·have q':xm6 f s1:=SP.unlift q;cases f with
  |next=>exact Jn q'
  |brk=>exact q'
  |cont=>exact q'
  |ret u=>exact q'
 ·obtain⟨ea,cls,fp,H',rfl,I1,⟨c,dc,F,bk,bn⟩,fr,q⟩:=q;have I1:xyp s1:=Inv.unlift I1;have fr:xfv (xmJ X H' b):=xaw (let n:=fr b hb;⟨n.s0,n.h,n.loc,n.cel,λ p hp=>xDl (by simpa using hp)⟩)
  have hf:NE X.A.frames xzs:=Nd▸I1.ok.frames;refine DS hf (Nd▸I1.stack) Tz F λ h' T F' hT f3 f4 f5=>?_
  obtain⟨vs,ge,z2,⟨_,r⟩|⟨T',oT,ts,v1,neT,gT,dT,zT,r⟩⟩:=id F'
  ·cases r
  ·cases r;exact k ea T cls c H' _ vs ts oT dc bk (λ b e=>let n:=bn b e;⟨n.s0,n.loc,n.cel,λ p hp=>xDl (by simpa using hp)⟩) q F' (I1.landed fr (by show LE Nd f3) f4 f5) (fr ea F.here) (I1.new (by
    cases z:s1.heap.get? T with
    |none=>rfl
    |some o=>show xab (Ey (E1 z) hT) xmi) (I1.hok.fresh hT) (by show xbc hX)) ge z2 v1 neT gT dT zT
def J'.hand (r:xpe A)(h:j≤k)(h30:j<30):J' j (A.mark v):=
 ⟨xnp z z (Nat.not_le.mpr h30),by have:=r.dp;show A.depth+_+5<_;lia,by have:=r.un;show xmf _+200<_;lia,r.gd⟩
structure ExI (K:Frag)(C:LF):Prop where
 ga:xj2 K Γ "__getattribute__" (xA8 "BaseException.__getattribute__")
 gt:xj2 K Γ "__getattr__" none
 hd:xFy K C
 ha:xj2 K Γ "__class__" (some xpz)
 hn:NE (specialIn K xpz "__get__") (some xAS)
 htk:xj5 (takesIn K xpz)
 hm:xA0 K C xBe
 be:xA0 K C xAX
def wu {os:OsState}(L:Looks M h (isInstance xbk xAX) true)
  (hq:xhi ⟨h,g,d,t,os⟩):xif (checkBuiltinCall "BaseException.__getattribute__" (xgU [xbk,nv])) Q E ⟨h,g,d,t,os⟩:=by
 have hk:NE (builtinKind "BaseException.__getattribute__") .slot:=Z8;have S8:NE (splitId "BaseException.__getattribute__") ("BaseException","__getattribute__"):=Z8;have ha:=PySem.F.args_bexc_ga xbk nv;simp only [checkBuiltinCall,hk,S8];show xaa (L.at ?_)
 repeat (first|exact hq|wp_step)
def xA {os:OsState}{K:Frag}(Y:xqu)(I:InstAt h x ox C none)
  (L3:Looks xhJ h (Builtin.ObjectAttr.find xbk Γ "__class__") (.bind xAS xpz)) (hm:xA0 K C xBe)
  (hq:Q (xKs Γ) ⟨h,g,d,t,os⟩):xvY (Builtin.«object.__getattribute__» (xgU [xbk,.str "__class__" tk])) ⟨h,g,d,t,os⟩:=by
 have L0:=I.type (M:=xhJ);show xdu (Ev (EM xeR)) (xwA (L0.at (Ev (L3.at ?_))));show xki (xDi (Value.builtin "object.__class__") (call xAS [xpz,xbk,Γ])>>= ret) _;exact Ev (Gf (Kc (PySem.W.class_get Y I hm (EM hq))))
def vw {K:Frag}(c:xtW C)(Y:xlQ)(I:InstAt s.heap x ox C none)
  (h:Q xgr xDf):xeD (getAttr? xbk "__class__"):=by
 have hf:NE (findObj K C none "__class__") (.bind xAS xpz):=by
  obtain⟨cd,hc,_⟩:=Kv c.hd;unfold findObj;rw [hc,Option.bind_some,c.ha,Option.bind_some];simp [c.hn,c.htk]
 obtain⟨hh,g,d,t,os⟩:=s;have L0:=I.type (M:=xhJ);have L1:=Jx (M:=xhJ) Y c.ga;have L2:=Jx (M:=xhJ) Y c.gt;have L3:=PySem.W.looks_find (M:=xhJ) Y I hf;have L4:=PySem.W.looks_mroIn (M:=xhJ) Y c.be;unfold getAttr? getAttrBy? getAttrBy;show xaa (wpAny_mkText (Ev (IZ (Gf (Ev (L0.at (Ev (L1.at ?_))))))));show xki (getAttrByItsOwn _ _ _ _ _ _) _;unfold getAttrByItsOwn;show xdu (show xki (typeLookup Γ "__getattr__") _ from L2.at ?_) (IZ (Gf ?_));show xki (boundAndCalled _ _ _) _;show xgY boundAndCalled (xKg (PySem.F.attr_ValueError.ga.bind _));show TD (Kc (codeAny_call_builtin PySem.F.attr_ValueError.ga.plain PySem.F.entry_bexc_ga ?_)) (wu (L0.andThen L4) (xA Y I L3 c.hm ?_));show xki (handedOut Γ) _;exact EM (EM h)
def xY {K:Frag}(c:xtW C):KitX K xbk Γ (λ h=>InstAt h x (exO Γ vs) C none) where
 ty:=λ _ _ _ I=>I.type
 it:=λ M h Y _=>by
  obtain⟨cd,hc,_⟩:=Kv c.hd;show xqm clsIn hc hc
  ·rename_i ho
   intro A' Q' E' s' k q;unfold isType loadHead;exact Ev (wpAny_loadPart (xmo (Y _ _ ho)) (EM q))
  ·cases hc
 ne:=λ h tp dd its n sl Y htp=>by
  obtain⟨cd,hc,_⟩:=Kv c.hd;refine Bool.eq_false_iff.mpr (xdr q)
  have e:C=tp:=Value.ref.inj (Fv.mp q);subst e;show xqm clsIn hc hc
  ·rename_i ho
   have z:=(Y _ _ ho).symm.trans htp;cases z
  ·cases hc
 ca:=λ Y I k=>vw c Y I k
noncomputable def DF:LG->V
 | .ref a=>Tm
 | .type n=>.ty n
 |_=>.non
def uw:xJU X (λ xs H Q=>∃a C vs c b,xs=[Tm,DF c]/\(∃n,c=.ref n\/∃t,c=.type t)/\xip (xqk Γ a)/\ExI X.K C/\NE (xK7 Γ c) b/\xdK b):=by
 intro LQ s σ H xs us Q I r h;obtain⟨a,C,vs,c,b,rfl,hc,hf,ci,e,q⟩:=h;show xdT u v ru rv (sJ r);cases ru;have ev:v=c:=by
  obtain⟨n,hc|⟨t,hc⟩⟩:=hc
  ·subst hc;exact rv
  ·subst hc;exact rv
 subst ev;obtain⟨g,_⟩:=xf9 a hf;exact xsr (xY ci) (xef g rfl trivial) e xho λ tk=>xg0 b H (I.tok tk) q
def o8 {K:Frag}{g:TG}{tt:TT}{te:TE}{R:xrT}(Pv:xaX (xe0 LT))(h0:Pv 0 [] xsE)(hl:∀i ys H,xlh->xig H->xgC)
  (hs:∀i x ys σ H,xkW->xig H->xwa n->xjx λ σ3 H3=>xz5 H3 λ c H5=>xbZ c (xvA H5 λ y H4=>xgu=xdf/\xgO/\xCD n/\xfN (ys++xc0) xy4) (xCD n/\Pv (i+1) ys H5))
  (hd:∀ys H,xFA H->R H) (mg:∀x σ H (A B:xbR),(∀σ' H',xjE σ'->xjF σ')->xjx A->xjx B) (mtt:∀σ H (A B:xwx),(∀v H',xjE v->xjF v)->tt σ H A->tt σ H B) (mt:∀σ H (A B:VK),(∀v H',xjE v->xjF v)->xfI A->xfI B):
  ∃W:xoR,(∃m,xrn xzR)/\∀i m ys σ' H',xoE->
   (xn8 xmW H'/\R H')\/(xoI xmW H'/\∀x H2,xok xmW H' x H2->xrr x λ σ3 H3=>xz5 H3 λ c H5=>xbZ c (xvA H5 λ y H4=>
    xgu=xdf/\xgO/\∃m',m'<m/\xpw (i+1) (ys++xc0)) (∃m',m'<m/\xCl (i+1) ys H5)):=by
 refine Ψ (λ i m ys σ H=>m=xfq i/\xlh/\xwa n/\xig H) ⟨xs.length,Z6,xac,Ff,h0⟩;rintro i m ys σ H ⟨rfl,hi,hn,p⟩;have q:=xrz ys H hi p;by_cases LU:xeM i
 ·show xhB (xcz ⟨xs,xs[i],q,by simp [LU]⟩ (Sc x H' y)) e y y;subst e;refine mg _ _ _ _ _ (λ σ3 H3 z=>mtt _ _ _ _ (Sc c H5 z) z) (xrB x ys σ _ (y xs q) p hn);cases c with
  |true=>
   show xjl xag z (mt _ _ _ _ (λ y H4 z9=>by obtain⟨z1,z2,z3,z4⟩:=z9;exact⟨z1,z2,xfq (i+1),xmI,rfl,LU,z3,z4⟩) z)
  |false=>
   show xjl (EI EX) z ⟨xfq (i+1),xmI,rfl,LU,xd2,xhn⟩
 ·have e:xnO i:=xuj;show xqT e ⟨xAc xs q,hd ys H p⟩
universe L2
namespace L2
open PySem
def AN {dV kV doc pm LS ct oc:LG}
    (lk:xkZ f oc od (xGy qual params body scope dV kV doc pm an LS ct) osl) (OW:xj8 K LS qual) (S:i' N ps scope)
  (len:∀vs H Q E,xd7->xnx)
  (Pj:∀(A:LL) (outer:xeO) (s:LH) (H:Hp) (vs:LT) (Q:VK) (E:XK),xd7->
   ∃t,xwr (xq5 CX P w K N f LS A outer s H E) t/\xtb H' xpA Q xiS H):
  xfe P w K CX 0 f (xGy qual params body scope dV kV doc pm an LS ct) ps sp:=by
 refine⟨len,λ A outer s H args us vs Q E hr e0 hb r Pf=>?_⟩;have hl:=len _ _ _ _ Pf;have KX:xlQ:=e0.mod.kin.keeps λ b o e=>(e0.bs b o e).1
 have lim:s.heap.NoLimit:=e0.mod.nolimit.keeps λ b o e=>(e0.bs b o e).1
 have N9:∀y∈xyG,xwb xhj\/(xrS xhj .cell/\xke ((xIR xcq []).lookup xhj)):=λ⟨n,v⟩ hy=>by
  rcases S.par n (JU hy).1 with q|q
  ·show xaT q
  ·exact xcz q (J8 _ _ _ (.inl q))
 show TD (xLL (KX _ _ lk) rfl S.co S.gen rfl (codeRec_of KX OW) (xq2 _ _ _ ?_)) (xLH N9 λ env he s1 x=>?_)
 subst he;show xfo ⟨xL3,codeAny_func ?_⟩ t ht hq (Pj A outer s H vs Q E Pf);have I:xms (xq5 CX P w K N f LS A outer s H E) xiS H s1:=ll S e0 hl r x;refine F9 (ht [] s1 xiS H _ I hq) (Sc fl s' hs) λ e s' hs=>hs
 have fin:∀{σ'} {H'} {v} {u},xms (xq5 CX P w K N f LS A outer s H E) σ' H' s'->xdn->xbf v->CE outer P w H s Q u s':=
  λ {σ' H' v u} J rv q=>⟨v,H',J.os,J.bare,J.base,J.hok,rv,q⟩
 cases fl with
 |ret u=>
  obtain⟨v,σ',H',J,rv,q⟩:=hs;exact fin J rv q
 |next=>
  obtain⟨σ',H',J,q⟩:=hs;exact fin (v:=V.non) J rfl q
 |brk=>
  show xE8 q hs q
 |cont=>
  show xE8 q hs q
def Mm.ok0 (F:Χ x qual st)(S:P3 N ps st)
  (Pj:∀(LS:LG) (A:LL) (outer:xeO) (s:LH) (H:Hp) (vs:LT) (Q:VK) (E:XK),xd7->
   let X:=(xw5 LZ P w K N xjZ f LS A outer s H E).nox;∃t,xgh xuU t/\xtb H' xpA Q xiS H) (len:xyA (∀vs H Q E,xd7->xnx)):Η 0 ps sp:=by
 obtain⟨oc,od,kV,doc,pm,an,LS,ct,osl,rfl,lk,OW⟩:=F.ex;refine AN lk OW S len λ A outer s H vs Q E Pf=>?_
 show xay t h q (Pj LS A outer s H vs Q E Pf) ⟨t,h.nox,q⟩
universe L2
namespace L2
open PySem PySem.Spec PyProof.Rows QQ
def ar (h:∀R:xbR,(∀σ H,u D σ H->R σ H)->t {D with nx:=R} σ H):C7 t u D σ H:=h (u D) xqr
inductive rNeL (K:Frag) (x:V) (y:V) (H:Hp) (Q:VK):Prop
 |mk (p q:LF) (ns ms:xkk) (h0:x=xad) (h1:y=xwB) (h2:xeV K p xeI) (h3:xeV K q xyj) (h4:xdK (! xa2 ns ms)):rNeL K x y H Q
def rK {X:Cx}(hu:xsP 64<cLine):xe9 .NotEq (rNeL X.K):=by
 intro LQ s σ H x y v u Q I rx ry h;obtain⟨p,q,ns,ms,rfl,rfl,h1,h2,k⟩:=h;cases rx;cases ry;show xiu rv pl h1;obtain⟨OZ,rv2,pl2,Q5⟩:=I.list h2;exact PySem.W.ne_intsK pl.isList (cW rv) pl2.isList (cW rv2) hu (xg0 _ H I k)
def dU (xs)(k:Nat):xuV xs none xh2=xs.take k:=by
 unfold cutV;rw [HT.PH,HT.Mz,Hm,IT];by_cases h:xuS k
 ·rw [Fp h]
 ·rw [Ha (Kw h),Fy,EV (Kw h)]
def ft (xs)(k:Nat):xDs (some xh2) none=xs.drop k:=by
 unfold cutV;rw [HT.PH,HT.Mz];by_cases h:xuS k
 ·rw [Fp h,<-EE,Fy]
 ·rw [Ha (Kw h),Lj,List.drop_of_length_le (Kw h),List.take_nil]
def mn (xs:LT){m n:Nat}(hm:xbv m)(hn:xuS n):xl5 xs xgg xcG=xgn (xs.drop m) n m:=by
 unfold cutV;rw [HT.Mz,HT.Mz,Fp (show xuS m from Ew hm hn),Fp hn]
def eV {a x:Str}{b c:LF}(h:xyo x [(a,b)] c):x=a/\c=b:=by
 rw [List.lookup_cons] at h;cases hx:x==a with
 |true=>show WF hx h ⟨eq_of_beq hx,xzi h⟩
 |false=>show ρ hx h h
def none_of (s:UV)(h:xx5 q):υ q:=by
 cases e:H q with
 |none=>rfl
 |some o=>show ρ (xci e) h h
def am (h:xid):xco (xdU p o):=λ b u e=>by
 show xgp h e
def pW {X:Cx}:xe9 .Is (λ x y H Q=>∃c d,x=.bl c/\y=.bl d/\xdK (c==d)):=by
 intro LQ s σ H x y v u Q I rx ry h;show xdT c d rfl q h;cases rx;cases ry;exact PyProof.Rows.is_bool (xg0 (c==d) H I q)
def jb (hb:xwr X.nox tb):xh1 (xCx (h₀::hs) [] [] pos) tb:=by
 intro LQ s σ H D I h;refine wpAny_Try_except (F9 (xtT s σ H D (I.wish _) h) (xit f s1) λ e s1 q=>q.elim);have q':xm6 f s1:=SP.unwish q;cases f with
 |next=>exact Jn q'
 |brk=>exact q'
 |cont=>exact q'
 |ret u=>exact q'
universe L2
namespace QQ
open PySem PyProof.Rows
def nA {items}(hq:xsO A)
  (hit:xIL l i) (hl:xI6 l) (hx:W1 items[i]?)
  (hE:∀h' e,xu1 it h'->(∃o,h'.get? e=IO/\o.cls=xEr)->E xf6 xeQ):
  xeD (Builtin.SmallTypes.nextOf xnr):=by
 show xn7 o ho hc hd hit;obtain⟨ol,hol,_,nl,W8⟩:=hl;show xgY Builtin.SmallTypes.nextOf (xJG J3 (xKQ J3 entry_listiter_next ?_ xL9));show xru 0 _;show xhV ho hd rfl ?_;show xth (xvq l);rw [EI (show¬(Pi (xvq l)) from EX)];show xru 1 _;show xhV ho hd rfl ?_;show xg3 (xyT xax _);show xaa (JC hol W8 ?_);simp only [E6,hx];show xaa (IM (Ev (II ho hd Z6 ?_)));have X4:=xIm (h:=s.heap) it;refine xKm (λ a o' us e d' z'=>xKn o' (qV ho hd Z6 e d' z') e) (λ h' e k he=>?_)
 exact hE _ e (λ b ob hb e1=>xul (xKo ob hb e1)) he
universe QQ
namespace L2
open PySem PySem.Spec PyProof.Rows QQ
universe L2
namespace QQ
open PySem PyProof.Rows
universe QQ
namespace L2
open PySem PySem.Spec PyProof.Rows
def vO (lo c:Int)(n:Nat):It:=⟨λ i _=>i<n,λ i H x H'=>H'=H/\x=.int (lo+i*c),λ i _=>n≤i⟩
def oO {K:Frag}(it)(lo c)(n):Turn P w K tg (vO lo c n) [it] it (λ i h=>xBs h (lo+xjm i*c) (xai-xjm i) c) where
 mem:=Z6
 obj:=λ i h st b hb=>by
  have e:b=it:=by show xl6
  subst e;exact xaU st (λ v z=>by
   have z':xJH=xKq:=z;cases z')
 keep:=λ i h h' st k=>k it Z6 _ st
 item:=by
  intro X hP hw hK hc i LQ s σ H E I hf st hg;subst hP hw hK;obtain⟨f0,f1,f2,f3,f4,f5⟩:=xum;refine xLY (by have:i<n:=hg;omega) (Sc h' Td sb)
  have st':xBs h' (lo+xhg*c) (xai-xhg) c:=by
   have e1:lo+xhg*c=lo+xd0*c+c:=by rw [xcd xhg (xd0+1),Int.add_mul];lia
   have e2:xai-xhg=xai-xd0-1:=Z5;rw [e1,e2];exact Td
  have I1:xlt H s xy9:=xvI (λ b o hb e=>xKl o hb e) f1 f3 f4 f5;exact xa9 (vZ st' rfl rfl Z9 ⟨.int (lo+i*c),H,I1,xck s.toks,xj0,st',xaw xmF.1⟩)
 done:=by
  intro X hP hw hK hc i LQ s σ H E I hf st hg;subst hP hw hK;obtain⟨f0,f1,f2,f3,f4,f5⟩:=xum;exact QQ.OO I.hq st (by have:n≤i:=hg;lia) λ h' eb=>xcC (xvI (λ b o hb e=>eb b o hb e) f1 f3 f4 f5)
 self:=xG9 h (xL1 h)
inductive Uz (R:xub) (vs:LT) (H1:Hp):Prop
 |mk (i j c:Int) (n:Nat) (h0:vs=[xcD,xhL,xto]) (h1:xcp 0) (h2:xIP i j c) (h3:xL5 j c=xai) (h4:τ (Builtin.divisionGoesByPylong (j-i) c)) (h5:R (vO i c n) H1):Uz R vs H1
def Dw (ta:TA):TI:=λ σ H R=>xgy λ vs H1=>Uz R vs H1
def lH {X:Cx}{tg:LN}{p pos:Pos}(hg:xGj)(hm:xGh)(ha:xiX [a,b,c] ta)(hs:Μ (xfS [a,b,c]=[xhD a,xhD b,xhD c]))(Ot:Μ (xfS [b,c]=[xhD b,xhD c])):
  PI X tg (xvV p [a,b,c] [] pos) (Dw ta):=by
 intro LQ s σ H R I h;show xgl (Call_ (xKO (Gy (xdd xng us) (by rw [hs,Ot]) (by show Τ Ot)))) vs;obtain⟨i,j,c,n,e,h0,h1,h2,h3,q⟩:=q1;subst e;cases r1 with
 |cons r rr=>
  cases rr with
  |cons r' rr=>
   cases rr with
   |cons r'' rr=>
    show xuu rr r;show xbM t' r';show xbM t'' r'';show TD (call_range_3 h0 ?_ (.inl h3)) (xMl h1 ?_);have I2:xrR H1 s1 (xIr #[xmu,xhL t',xto t'']) s1.toks:=I1.kept λ b o e=>xdZ
    refine⟨xJF #[xmu,xhL t',xto t''],[xJF #[xmu,xhL t',xto t'']],_,_,H1,rfl,
     I2.kept λ b o e=>xdZ,oO _ i c n,?_,xes,q⟩
    ·have e1:i+M2 0*c=i:=Z6;have e2:xai-M2 0=xL5 j c:=by show xaF h2
     show IsRangeIter _ _ (i+M2 0*c) (xai-M2 0) c;rw [e1,e2];exact xfz
    ·have e:b=xJF #[xmu,xhL t',xto t'']:=by show xl6
     subst e;exact I2.fpOk Tl xI5
def kz {lo c:Int}{g:TG}{tb:TS}{D:Ends}(Pv:xaX xbR)(h0:xqC 0)
  (hs:∀i σ H,i<n->xpl->g (.int (lo+i*c)) σ H λ σ2 H2=>xrx D xfN xfN H2) (hd:∀σ H,xqC n->xpc):
  ∃W:xi3 xbR,(∃m,xwM σ H)/\∀i m σ H,xwL σ H->
   (xn8 (vO lo c n) H/\xpc)\/(xoI (vO lo c n) H/\∃N,(∀σ' H',N σ' H'->∃m',m'<m/\W (i+1) m' σ' H')/\∀x H',xok (vO lo c n) H x H'->xwi H' λ σ2 H2=>xrx D N N H2):=by
 refine Ψ (λ i m σ H=>m=n-i/\xbv i/\xpl) ⟨n,Z6,xac,h0⟩;rintro i m σ H ⟨rfl,hi,p⟩;by_cases LU:i<n
 ·show xhB (.inr ⟨LU,xfN,λ σ' H' p'=>xc8 (n-(i+1)) xmI LU p',Sc x H' y⟩) e y y;subst e y;exact xrB σ _ LU p
 ·have e:i=n:=xuj;show xqT e ⟨Tl,hd σ H p⟩
universe L2
namespace L2
open PySem PySem.Spec PyProof.Rows QQ
structure MkB (K:Frag)(C:LF):Prop where
 makes:xvD K C
 init:xvH K Γ (some xAV)
 kp:xpB K Γ
def Bj (C:LF):TE:=λ _ H Q=>∀x dx,υ x->υ dx->dx≠x->Q xbk (xcL (xp6 dx x) x C dx [])
def gF (M:MkB X.K C)(hg:xe8)(hm:xiO=xgr)(Rf:xdw (x==xdQ)):xlb x p [] [] (Bj C):=by
 intro LQ s σ H Q I h;show TD (GD (xrq I ?_ Rf)) (Jb I.kIn M.kp ?_);have I2:=Inv.made (C:=C) I;have hq:=h xcq s.heap.objs.size (I.hok.fresh xky) xlI (FA xtm);refine Kc (vt I.kIn M.makes M.init (λ self=>Looks.of_pure (PySem.W.oi_bind self)) ?_);have Y:=Ll (M:=xss) I.kIn M.makes;have e2:xfn xwq xcq xBL:=by
  have:=Fj xEp (o:=xBL) rfl
  rwa [JB] at this
 have t1:Looks xss xwq (typeOf xv6) Γ:=(Looks.ld e2).andThen .now;have t2:Looks xss xwq (isInstance xv6 xBe) true:=t1.andThen (Y.top.keeps λ b o e=>xhC xdZ);show xg6 (codeAny_call_builtin PySem.W.oi_plain PySem.W.entry_oi (@PySem.W.check_slot xss _ _ _ "object.__init__" "object" "__init__" xv6 [] [] _ PySem.W.oi_kind PySem.W.oi_split t2 (PySem.W.oi_args xv6) ?_)) oi_run (EM (And.intro rfl (xby xv6 _ I2 hq)))
universe L2
namespace L2
open PySem PyProof.Rows
theorem kK (a f):Builtin.«list.sort» ⟨xbK,[(xns,xbN)]⟩=(do
    let items<-Builtin.List.listItems (.ref a)
    Builtin.List.listUpdate (.ref a) λ _=>#[]
    let before<-seqEpoch a
    let held<-newTuple items.toList
    let keyStore<-newList []
    holding [held,keyStore] do
      rule "list.sort.key"
      for x in items do
        match<-(call (.ref f) [x]).attempt with
        | .ok k=>Builtin.List.listUpdate keyStore (·.push k)
        | .error e=>
          rule "list.sort.key-raised"
          let made<-Builtin.List.listItems keyStore
          Builtin.List.listUpdate keyStore λ _=>#[]
          letGo made.toList.reverse [e]
          Builtin.List.listUpdate (.ref a) λ _=>items;throw e
      let keys<-Builtin.List.listItems keyStore
      let kind<-if items.size<2 then pure general' else keyKind' keys
      let((),s)<-(if items.size<2 then pure () else sortRuns').run (SortSt.mk' kind (keys.zip items) #[] 7 none)
      let sorted:=(arrOf s).map (·.2)
      Builtin.List.listUpdate keyStore λ _=>#[]
      letGo ((arrOf s).map (·.1)).toList (failedOf s).toList
      let touched:=(<-seqEpoch a) !=before
      Builtin.List.listUpdate (.ref a) λ _=>sorted
      if let some e:=failedOf s then rule "list.sort.comparison-raised";throw e
      if touched then rule "list.sort.modified";raiseError "ValueError" "list modified during sort"
      ret .none):=by
  first|rfl|(fail "not by rfl")
def gl (a v):argsOk "list.sort" ⟨xcj,[(xns,v)]⟩:=by unfold argsOk;kernel_rfl
def iY (a v):argsOk "sorted" ⟨xcj,[(xns,v)]⟩:=by unfold argsOk;kernel_rfl
def uz (h:xvT vs):IntsAre (vs++[xbq n]) (ns++[n]):=by
 induction h with
 |nil=>exact .cons n t .nil
 |cons m u _ ih=>exact .cons m u ih
def eO:∀v,(seqObj c xs n).data≠ xws:=λ v h=>by cases h
def Inv.turn {σ:St}(I:Ps)(fa:xpi a):xDV (xLA g):=
 I.turned (λ b o hb e=>by show LE (Hk _ _ _ _ hb) e) fa.1 (Δ fa) (xny fa) (xoM fa) (xtk fa)
universe L2
namespace L2
open PySem PyProof.Rows QQ
def Inv.adopt {σ:St}(I:Ps)(fa:xpi a)(rv:xud)(hz:xnw)
  (ho:xfg a (xBm n)):xiw (xjb a xs) s:=by
 have hn:=fa.1;refine I.step (ch:=xcj) xes (λ b o _ _ _ e _=>e) (λ b o _ _ _ e _=>xCj e) (λ b o hb e n=>?_)
  (λ b o _ e=>⟨o,e⟩) (xcW b ys) (λ b o u e=>?_) (λ b ps e=>xbW #[]) (λ m hm=>hm) (xcW b u) I.bare
 ·show xiI hb ⟨xny fa,Δ fa,xoM fa,xtk fa⟩
 ·show Re (xhe (by simp [z])) n
 ·show xgp hn e
 ·show xgp hn e
 ·rw [xiq hn,e];simp
 ·by_cases hb:b=a
  ·show xbx hb ad e e;exact⟨hz,its,n,rv,ho⟩
  ·show WF xg9 e (xvz b u e (λ c v _ q=>q) (λ c q=>by show xiC q hn q) (λ c xs q=>by show xiC q hn q))
inductive PR:xlA LG LG->Ο (xmw Int)
 |nil:PR [] []
 |cons {k v:LG} {n:Int} {x:V} {l:xlA LG LG} {m:xmw Int}:(∃t,k=xbq n)->xm4->PR l m->PR ((k,v)::l) ((n,x)::m)
def B9 (h:xGe ks)(g:xud):PR xsl (ks.zip xs):=by
 induction h generalizing xs its with
 |nil=>show xeE
 |cons n t _ ih=>cases g with
  |nil=>show xeE
  |cons r rs=>exact .cons (xck t) r (ih rs)
def zy (h:PR l m):Vals (m.map (·.2)) (l.map (·.2)):=by
 induction h with
 |nil=>show xeE
 |cons _ r _ ih=>exact xkm r
def B8 (h:PR l m):l.length=m.length:=by
 induction h with
 |nil=>rfl
 |cons _ _ _ ih=>exact xBb ih
def DN (h:PR l m):∀{i:Nat} {q},Ν m q->∃t v,Ν l (xbq xa5,v):=by
 induction h with
 |nil=>intro i q hq;cases hq
 |cons e _ _ ih=>
  intro i q hq;cases i with
  |zero=>show xnM t e e hq;subst e;exact xee t _
  |succ i=>exact ih hq
def w6 (e1:ns=xIM)(h:xCU i):xCw i=ns[i]:=by
 subst e1;rw [Es,FN] at h;simp [numAt,h]
def vB (hc:xpK):xr4 X "max" (λ xs H Q=>∃(p:LF) (ns:xkk),xs=xaV/\xtz p xeI/\xCU 0/\∀n∈ns,(∀m∈ns,xbv m)->xjI n):=by
 intro LQ s σ H xs us Q I r h;obtain⟨p,ns,rfl,hq,My,q⟩:=h;show xmR u rx (gJ r) rx;show xiu rv pl hq;show xn1 hi (cW rv) ys hx hi.allInts.items;have hl:xJm (intItems ys):=hx▸pl.isList;have e1:ns=xIM:=by
  rw [<-nums_intItems,<-hx];exact(xaA xL4 ns hi.numsOf).symm
 have hsz:ns.length=ys.size:=by show xbc e1
 refine max_intList hc hl (EJ My hsz) λ v h' tk hv hk=>?_
 show xbM t (intItems_at hv);obtain⟨h1,h2⟩:=argBest_gt xCw (ys.size-1);generalize argBest (λ i j=>decide (xCw i>xCw j)) (ys.size-1)=b at*;have hb:xCU b:=Z5;have eb:=w6 e1 hb;refine xoS ns[b] H (I.kept hk) ⟨t,by rw [eb]⟩ (q _ (Gj hb) (PP m hm));show xdt j hj (List.getElem_of_mem hm);show xdF (h2 j (HD (EJ hj hsz))) (w6 e1 hj) eb;show xfM
universe L2
namespace L2
open PySem PySem.Spec PyProof.Rows QQ
universe L2
namespace W16
def Pc.size:xp2 Pc
 | .sg _=>1
 | .cp _ z=>z
noncomputable def al (S:Id) (p b:Nat):xct
 |0=>0
 |m+1=>if xjk=m/\S[p+m]?=S[p+m-b]? then m+1 else xjk
theorem tO (S:Id)(p b:Nat):∀m,xjk≤m
 |0=>Tl
 |m+1=>by
  unfold al;have:=tO S p b m
  split<;>lia
theorem mY {S:Id}{p b:Nat}:∀{m:Nat},∀i<xjk,S[p+i]?=S[p+i-b]?
 |0,i,h=>by simp [al] at h
 |m+1,i,h=>by
  show xqm al h h
  ·rename_i c
   by_cases e:i=m
   ·subst e;exact xh6
   ·exact mY (m:=m) i (by show LE xhX (FM (Gi h) e))
  ·exact mY (m:=m) i h
theorem xm {S:Id}{p b:Nat}:∀{m:Nat},(∀i<m,S[p+i]?=S[p+i-b]?)->xjk=m
 |0,_=>rfl
 |m+1,h=>by
  show xaP al (EU ⟨xm λ i hi=>h i (Ln 1 hi),h m (Kf _)⟩)
theorem yk {S:Id}{p b r:Nat}(h:∀i<r,S[p+i]?=S[p+i-b]?)(hn:S[p+r]?≠S[p+r-b]?):∀m,r≤m->xjk=r
 |0,hm=>by
  show xeU (r=0) Z5;rfl
 |m+1,hm=>by
  by_cases e:r=m+1
  ·subst e;exact xm h
  ·have ih:=yk h hn m Z5;show xaP al ih
   split
   ·rename_i c
    rw [<-xhX] at c;show xab xh6 hn
   ·rfl
def zN {S:Id}{p b m:Nat}(h:xjk<m):S[p+xjk]?≠S[p+xjk-b]?:=by
 induction m with
 |zero=>simp [al] at h
 |succ m ih=>
  by_cases c:xjk=m/\S[p+m]?=S[p+m-b]?
  ·have e:xme b (m+1)=m+1:=by show xaP al (EU c)
   lia
  ·have e:xme b (m+1)=xjk:=by rw [al,EI c]
   rw [e];by_cases q:xjk=m
   ·show LE q (No (c ⟨q,z⟩))
   ·exact ih (by show xbu (tO S p b m))
noncomputable def lc (S:Id) (p m:Nat):xaX xet
 |0=>(0,0)
 |n+1=>if xtR m n<xme (n+1) m then(n+1,xme (n+1) m) else xps m n
theorem tK (S:Id)(p m:Nat):∀n,xtR m n≤m
 |0=>xac
 |n+1=>by
  unfold lc
  split
  ·exact tO ..
  ·exact tK S p m n
theorem tH {S:Id}{p m k:Nat}(h:xtR m k=m):∀n,xbv k->xps m n=xps m k
 |0,hk=>by
  show xeU (k=0) Z5;rfl
 |n+1,hk=>by
  by_cases e:k=n+1
  ·subst e;rfl
  ·have ih:=tH h n Z5;rw [lc,ih,h,EI];have:=tO S p (n+1) m;exact K4.mpr this
def yI {S:Id}{p m n:Nat}(h:S[p+xtR m n]?≠S[p+xtR m n-(n+1)]?):xps m (n+1)=xps m n:=by
 rw [lc,EI];intro c;exact h (mY _ c)
theorem sR {S:Id}{p m:Nat}:∀{n:Nat},0<xtR m n->ω (xps m n).1/\xbv (xps m n).1/\xtR m n=xme (xps m n).1 m
 |0,h=>by simp [lc] at h
 |n+1,h=>by
  unfold lc at h ⊢
  split
  ·exact xee (HV xac) Tl
  ·rename_i c
   rw [EI c] at h;show xay a b e (sR h) ⟨a,F3 b,e⟩
def most (S:Id)(p:Nat):Nat:=min 18 (xs0 p)
def far (p:Nat):Nat:=min 255 p
def lcAt (S:Id)(p:Nat):xet:=xps xbY xg7
def pcAt (S:Id)(p:Nat):Pc:=if 3≤xoG then .cp xw7 xoG else .sg (S.getD p 0)
def Walk (S:Id):xaX (xen->Ο Nat)
 |p,[],q=>p=q
 |p,x::xs,q=>xdX p/\x=xqj/\Walk S (p+x.size) xs q
theorem dD {S:Id}:∀{P:xen} {p q:Nat},xiZ S P q->xdX q->xiZ S (P++[xvg q]) (q+(xvg q).size)
 | [],p,q,h,hq=>by
  cases h;exact xd9 hq rfl
 |x::P,p,q,h,hq=>⟨xbS,xqK,dD xtI hq⟩
def im {S:Id}{p:Nat}(h:xdX p):ω xCR/\xf5 (p+xCR):=by
 unfold pcAt
 split
 ·rename_i c
  have:=tK S p xbY xg7;show ω xoG/\xf5 (p+xoG);unfold lcAt at c ⊢;unfold most at this c ⊢;lia
 ·show ω 1/\xf5 (p+1);exact xMw
theorem c7 {S:Id}:∀{P:xen} {p q:Nat},xiZ S P q->p+P.length≤q
 | [],p,q,h=>by cases h;simp
 |x::P,p,q,h=>by
  have:=c7 xtI;have h1:=(im xbS).1;rw [<-xqK] at h1;simp;lia
def zY {S:Id}{p b z:Nat}(hp:xdX p)(h:xqj=xxs z):xb6/\b≤p/\xoQ b/\3≤z/\z≤18/\xf5 (p+z)/\(∀i<z,S[p+i]?=S[p+i-b]?)/\(z<18->xdX (p+z)->S[p+z]?≠S[p+z-b]?):=by
 show xqm pcAt h h
 ·rename_i c
  have e1:xw7=b:=by injection h
  have e2:xoG=z:=by injection h
  rw [e2] at c;have g:=sR (S:=S) (p:=p) (m:=xbY) (n:=xg7) (by show 0<xoG;lia);have l:=tK S p xbY xg7;change ω xw7/\xw7≤xg7/\xoG=xme xw7 xbY at g;change xoG≤xbY at l;rw [e1,e2] at g;rw [e2] at l;have hf:xoQ xg7/\xg7≤p:=by unfold far;show xar xhk (FX _ _)
  have hm:xbY≤18/\xbY≤xs0 p/\(xbY=18\/xbY=xs0 p):=by unfold most;lia
  refine⟨g.1,Ew (Δ g) hf.2,Ew (Δ g) hf.1,c,Ew l hm.1,Z5,λ i hi=>mY (m:=xbY) i (Ey hi (EL (xbI g))),PP h1 h2⟩;have:=zN (S:=S) (p:=p) (b:=b) (m:=xbY) (by rw [<-xbI g];lia);rw [<-xbI g] at this;show xfM
 ·cases h
def zq {S:Id}{p s:Nat}(hp:xdX p)(h:xqj=xkp):xbw S p s:=by
 show xqm pcAt h h
 ·cases h
 ·injection h with h
  rw [<-h];simp [List.getD,hp]
universe W16
namespace BP
def val (B:Id):Nat:=B.foldl (λ a b=>a*256+b) 0
def lg (B:Id):∀a,B.foldl (λ a b=>a*256+b) a=a*xhO+xha:=by
 induction B with
 |nil=>intro a;simp [val]
 |cons b B ih=>
  intro a;have h0:val (b::B)=b*xhO+xha:=by
   show B.foldl (λ a b=>a*256+b) (0*256+b)=_;rw [ih,Nat.zero_mul,F6]
  show B.foldl (λ a b=>a*256+b) (a*256+b)=_;rw [ih,h0,EK,Gm,IV,Gn,F5 256,FD]
def tV:val []=0:=rfl
def fq (b:Nat)(B:Id):val (b::B)=b*xhO+xha:=by
 show B.foldl (λ a b=>a*256+b) (0*256+b)=_;rw [lg,Nat.zero_mul,F6]
def jS (A B:Id):val (A++B)=val A*xhO+xha:=by
 show(A++B).foldl (λ a b=>a*256+b) 0=_;rw [HH,lg];rfl
def Oe (A:Id)(b:Nat):val (A++[b])=val A*256+b:=by
 show(A++[b]).foldl (λ a b=>a*256+b) 0=_;show Τ HH
def Ox {B:Id}(h:xdv B):xha<xhO:=by
 induction B with
 |nil=>simp [val]
 |cons b B ih=>
  rw [fq,EK,Gm];have h1:=ih λ x hx=>xhQ x hx
  have h2:xaq b:=xlu b;have h3:b*xhO≤255*xhO:=xMg (Gi h2);lia
def jR (n:Nat):256^n=2^(8*n):=by rw [Nat.pow_mul]
def PJ (n:Nat):0<2^n:=xks
def vS {B:Id}(h:xdv B)(n:Nat)(hn:xf3 n):val xF0=xha/256^(xnB n):=by
 have e:xha=val xF0*256^(xFX).length+val xFX:=by rw [<-jS,E9]
 have hd:val xFX<256^(xFX).length:=Ox (xaw (h b (Ft hb)))
 rw [EE] at e hd;rw [e,F5,KA xks,Kr hd,HP]
def uk {B:Id}(h:xdv B){m n:Nat}(hmn:xbv m)(hn:xf3 n):val (xj3 n m)=xha/256^(xnB n)%256^(n-m):=by
 have e:val xF0=val ((xF0).take m)*256^(xj3 n m).length+val (xj3 n m):=by rw [<-jS,E9]
 have hl:xaJ (xj3 n m) (n-m):=by rw [EE,EH];omega
 have hd:val (xj3 n m)<256^(xj3 n m).length:=Ox (xaw (h b (Fg (Ft hb))))
 rw [hl] at e hd;rw [<-vS h n hn,e,F5,Nat.mul_add_mod,HF hd]
def WZ {B:Id}(h:xdv B){p s:Nat}(hp:p+s≤xzC 8):
  val (xj3 ((p+s+7)/8) (p/8))/2^(8*((p+s+7)/8)-(p+s))%2^s=xha/2^(xzC 8-(p+s))%2^s:=by
 have h1:p/8≤(p+s+7)/8:=Z4;have h2:xf3 ((p+s+7)/8):=Z4;rw [uk h h1 h2,jR,jR];have ha:8*(p/8)≤p:=Z4;have hb:p+s≤8*((p+s+7)/8):=Z4;show xrY (p/8) a ((p+s+7)/8) b;generalize B.length=n at*;show xbM c (HZ h1);show xbM y (HZ ha);obtain⟨x,hx⟩:=HZ hb;show xbM z (HZ h2);rw [Ga,Ga,hx,Ga,show 8*c=x+(s+y) by omega,show 8*(a+c+z)-(8*a+y+s)=8*z+x by omega];rw [HI 2 x,KM,Nat.div_div_eq_div_mul,<-HI,HI 2 s,Nat.mod_mul_right_mod]
structure BR (N T:Nat)(B:Id)(r k:Nat):Prop where
 tot:T=xzC 8+k
 num:N=xha*2^k+r
 low:r<2^k
 byt:xdv B
def BR.init:BR 0 0 [] 0 0:=xfC rfl Z9 (xpU h h)
def BR.put {N T:Nat}{B:Id}{r k:Nat}(h:BR N T B r k){n s:Nat}(hn:n<2^s):BR (N*2^s+n) (T+s) B (r*2^s+n) (k+s):=by
 refine⟨by show LE h.tot (FD _ _ _),?_,?_,h.byt⟩
 ·rw [h.num,HI,IV,Gn,FD]
 ·have h1:r+1≤2^k:=h.low;have h2:(r+1)*2^s≤2^k*2^s:=xMg h1;rw [IV,Nat.one_mul] at h2;show LE HI (Ey (Ii hn _) h2)
def BR.move {N T:Nat}{B:Id}{r k:Nat}(h:BR N T B r (k+8)):BR N T (B++[r/2^k]) (r%2^k) k:=by
 have e:=JM r (2^k);refine⟨by rw [h.tot,Et,Ir];lia,?_,xwC (PJ k),xes⟩
 ·rw [h.num,Oe,IV,HI];have:xha*(2^k*2^8)=xha*256*2^k:=by rw [F5 (2^k),<-Gn]
  rw [this,FD];rw [F5 (r/2^k),e]
 ·show xbO hb hb hb
  ·exact h.byt b hb
  ·rw [xCQ];show xnD h.low HI (IJ this)
structure Pk (N T:Nat)(R:Id):Prop where
 len:R.length=(T+7)/8
 byt:xm2
 num:xxt=N*2^(Θ-T)
def BR.row0 {N T:Nat}{B:Id}{r:Nat}(h:BR N T B r 0):Pk N T B:=by
 have h1:=h.low;refine Ψ (by show xaF h.tot) h.byt;rw [h.num,h.tot];show xeU (r=0) (by show xte);simp
def BR.row1 {N T:Nat}{B:Id}{r k:Nat}(h:BR N T B r k)(h0:0<k)(h8:k<8):Pk N T (B++[r*2^(8-k)]):=by
 refine Ψ (by rw [h.tot,Et,Ir];lia) xes
 ·show xbO hb hb hb
  ·exact h.byt b hb
  ·rw [xCQ];have h2:r*2^(8-k)<2^k*2^(8-k):=xL6 (PJ _) h.low;rw [<-HI] at h2;have:k+(8-k)=8:=xDF h8;show WF this h2 h2
 ·have e:8*xaN B [r*2^(8-k)]-T=8-k:=by rw [h.tot,Et,Ir];lia
  have e2:256=2^k*2^(8-k):=by
   rw [<-HI];have:k+(8-k)=8:=Z5;rw [this]
  rw [e,Oe,h.num,IV,Gn,<-e2]
noncomputable def cL:xaS->xct
 | [],N=>N
 |p::ps,N=>xug (N*2^xfE+xak)
def tots (ps:xaS):Nat:=(ps.map (·.2)).sum
def bU (a b:xaS)(N:Nat):cL (a++b) N=cL b (cL a N):=by
 induction a generalizing N with
 |nil=>rfl
 |cons p a ih=>exact ih _
def aQ (a b:xaS):tots (a++b)=tots a+tots b:=by simp [tots,EG,Ij]
def b8 (p:xet)(b:xaS):tots (p::b)=xfE+tots b:=by simp [tots]
def Good (ps:xaS):Prop:=xds p ps xak (2^xfE)
def num (bs:xaH):Nat:=bs.foldl (λ a b=>xrv (2*a)) 0
def vh (bs:xaH):∀a,bs.foldl (λ a b=>xrv (2*a)) a=a*xCV 2+num bs:=by
 induction bs with
 |nil=>intro a;simp [num]
 |cons b bs ih=>
  intro a;have h0:num (b::bs)=b.toNat*xCV 2+num bs:=by
   show bs.foldl (λ a b=>xrv (2*a)) (xrv (2*0))=_;rw [ih,Nat.mul_zero,F6]
  show bs.foldl (λ a b=>xrv (2*a)) (xrv (2*a))=_;rw [ih,h0,EK,Gm,IV,F5 2 a,Gn a 2,F5 2 (xCV 2),FD]
def dF (a b:xaH):num (a++b)=num a*2^b.length+num b:=by
 show(a++b).foldl (λ a b=>xrv (2*a)) 0=_;rw [HH,vh];rfl
def WX (a:xaH)(b:Bool):num (a++[b])=xrv (2*num a):=by
 show(a++[b]).foldl (λ a b=>xrv (2*a)) 0=_;show Τ HH
def gZ (b:Bool)(bs:xaH):num (b::bs)=b.toNat*xCV 2+num bs:=by
 have:=dF [b] bs;simpa [num] using this
def NZ (bs:xaH):num bs<xCV 2:=by
 induction bs with
 |nil=>decide
 |cons b bs ih=>
  rw [gZ,EK,Gm];cases b<;>simp<;>omega
def dig (n:Nat):xaX xaH
 |0=>[]
 |k+1=>xa2 (n/2^k%2) 1::xtX k
def L8 (n k:Nat):xaJ (xtX k) k:=by
 induction k with
 |zero=>rfl
 |succ k ih=>show(xtX k).length+1=k+1;rw [ih]
def fG (n k:Nat):num (xtX k)=n%2^k:=by
 induction k with
 |zero=>simp [dig,num,Nat.mod_one]
 |succ k ih=>
  show num (xa2 (n/2^k%2) 1::xtX k)=_;rw [gZ,L8,ih,Gm,Nat.mod_mul];have h2:n/2^k%2<2:=xqD;by_cases h:n/2^k%2=1
  ·rw [Ez h,h];simp;omega
  ·have h0:n/2^k%2=0:=Z4;rw [F7 h,h0];simp
theorem sA:∀{A B:Id},xa6 A->xa6 B->A.length=B.length->val A=xha->A=B
 | [],[],_,_,_,_=>rfl
 | [],_::_,_,_,h,_=>by cases h
 |_::_,[],_,_,h,_=>by cases h
 |a::A,b::B,hA,hB,hl,hv=>by
  have SO:A.length=B.length:=by simpa using hl
  rw [fq,fq,SO] at hv;have h1:val A<xhO:=by show xaC SO (Ox λ x hx=>hA x xzp)
  have h2:xha<xhO:=Ox λ x hx=>hB x xzp
  have p:0<xhO:=xks;have e1:a=b:=by
   have q1:(a*xhO+val A)/xhO=a:=by rw [F5,KA p,Kr h1,HP]
   have q2:(b*xhO+xha)/xhO=b:=by rw [F5,KA p,Kr h2,HP]
   rw [<-q1,hv,q2]
  subst e1;rw [sA (λ x hx=>hA x xzp) (λ x hx=>hB x xzp) SO (Nat.add_left_cancel hv)]
universe BP
namespace W13
noncomputable def run (a:Nat):xp2 Id
 | []=>0
 |x::xs=>xir x a (xAY xs+1) 0
theorem kc (a:Nat):∀L:Id,xgR xfu
 | []=>Tl
 |x::xs=>by
  unfold run;have:=kc a xs
  split<;>simp<;>assumption
theorem qD {a:Nat}:∀{L:Id} {i:Nat},i<xfu->Ν L a
 | [],i,h=>by simp [run] at h
 |x::xs,0,h=>by
  show xqm run h h
  ·rename_i c;simp [c]
  ·lia
 |x::xs,i+1,h=>by
  show xqm run h h
  ·simpa using qD (L:=xs) (i:=i) (Nat.succ_lt_succ_iff.mp h)
  ·lia
theorem rz {a:Nat}:∀{L:Id} {n:Nat},(∀i<n,Ν L a)->n≤xfu
 | [],0,_=>xac
 | [],n+1,h=>by simpa using h 0 Z5
 |x::xs,0,_=>xac
 |x::xs,n+1,h=>by
  have h0:x=a:=by simpa using h 0 Z5
  rw [run,EU h0];have:=rz (L:=xs) (n:=n) (λ i hi=>by simpa using h (i+1) (Nat.add_lt_add_right hi 1));exact FY this 1
def vV {a:Nat}{L:Id}{n:Nat}(h:∀i<n,Ν L a)(hn:xq9 L[n]? a):xfu=n:=by
 have h1:=rz h;show xa3 n xfu h2 h2
 ·show xab (qD h2) hn
 ·exact Fa h2 h1
inductive Itm where
 |one (x:Nat)
 |rep (r:Nat)
def Itm.size:xp2 Itm
 | .one _=>1
 | .rep r=>r
def Itm.cost:xp2 Itm
 | .one _=>3
 | .rep _=>9
def Itm.next (a:Nat):xp2 Itm
 | .one x=>x
 | .rep _=>a
noncomputable def Itm.puts:Itm->xaS
 | .one x=>[(x,3)]
 | .rep r=>[(7,3),(r-3,6)]
def stAt (L:Id)(p a:Nat):Itm:=if 3≤xml a p then .rep (xml a p) else .one (xc4 p)
def Walk (L:Id):xi3 (xkl->xti Nat)
 |p,a,[],q,b=>p=q/\a=b
 |p,a,x::xs,q,b=>xht p/\x=xof p a/\Walk L (p+x.size) (x.next a) xs q b
theorem dD {L:Id}:∀{P:xkl} {p a q b:Nat},xiZ L a P q b->xpb->xiZ L a (P++[xof q b]) (q+(xof q b).size) ((xof q b).next b)
 | [],p,a,q,b,h,hq=>by
  show xmU h (xmy hq rfl)
 |x::P,p,a,q,b,h,hq=>⟨xbS,xqK,dD xtI hq⟩
def lM {L:Id}{p a:Nat}(h:xht p):ω (xof p a).size/\xgR (p+(xof p a).size):=by
 unfold stAt
 split
 ·rename_i c
  show xdA (kc a xyW) EE;show ω (xml a p)/\xgR (p+xml a p);lia
 ·show ω 1/\xgR (p+1);exact xMw
theorem c7 {L:Id}:∀{P:xkl} {p a q b:Nat},xiZ L a P q b->p+P.length≤q
 | [],p,a,q,b,h=>by show xbM rfl h;simp
 |x::P,p,a,q,b,h=>by
  have h1:=c7 xtI;have h2:=(lM (a:=a) xbS).1;rw [<-xqK] at h2;simp;lia
def nxtS (a:Nat):xp2 xkl
 | []=>a
 |x::xs=>nxtS (x.next a) xs
def ue {L:Id}{p a:Nat}(hp:xht p):(∀x,xof p a=.one x->xzT p 1=xCP++xbT/\xfB p x)/\(∀r,xof p a=.rep r->3≤r/\r≤66/\xgR (p+r)/\xzT p r=xCP++xpJ r):=by
 show xaD hle (kc a xyW) EE hle;unfold stAt
 split
 ·rename_i c
  refine xeY (λ x h=>(by cases h)) r h;injection h with h
  have hr:r≤run a (L.drop p):=Z5;refine⟨Kg c h,Z5,Kp (EZ hp) (Ew hr hle),?_⟩;rw [Ld];congr 1;apply G2;intro i;rw [KS,IW]
  split
  ·rename_i hi
   exact qD (Ey hi hr)
  ·rfl
 ·refine⟨PP x h,λ r h=>(by cases h)⟩;injection h with h
  have e:xfB p x:=by rw [<-h];simp [List.getD,hp]
  show xar (by rw [F1,e];rfl) e
noncomputable def MP (a:Nat):xkl->Id
 | []=>[]
 | .one x::P=>x::MP x P
 | .rep r::P=>xpJ r++MP a P
def U7:Ο Itm
 | .one x=>x≤6
 | .rep r=>3≤r/\r≤66
theorem Pw {L:Id}:∀{P:xkl} {p a q b:Nat},xiZ L a P q b->L.take q=xCP++MP a P
 | [],p,a,q,b,h=>by show xbM rfl h;simp [MP]
 |x::P,p,a,q,b,h=>by
  obtain⟨hp,hx,hw⟩:=h;have ih:=Pw hw;have ht:=ue (a:=a) hp;rw [ih];cases x with
  |one y=>
   have h1:=(ht.1 y hx.symm).1;show xzT p 1++MP y P=xCP++y::MP y P;show xbc h1
  |rep r=>
   have h1:=xzf (ht.2 r hx.symm);show xzT p r++MP a P=xCP++(xpJ r++MP a P);rw [h1,Eu]
theorem O8 {L:Id}(hL:xaY L (b≤6)):∀{P:xkl} {p a q b:Nat},xiZ L a P q b->xgF P (U7 x)
 | [],p,a,q,b,h,x,hx=>by simp at hx
 |y::P,p,a,q,b,h,x,hx=>by
  show xel hx hx
  ·have ht:=ue (a:=a) xbS;cases x with
   |one y=>exact hL _ (FG (ht.1 y (xqK).symm).2)
   |rep r=>have:=ht.2 r (xqK).symm;show xar xDm (Δ this)
  ·exact O8 hL xtI x hx
noncomputable def puts (P:xkl):xaS:=P.flatMap Itm.puts
def iV (P Q:xkl):puts (P++Q)=puts P++puts Q:=by simp [puts]
theorem iG:∀P:xkl,((puts P).map (·.2)).sum=xKt Itm.cost
 | []=>rfl
 | .one x::P=>by
  show((Itm.puts (.one x)++puts P).map (·.2)).sum=_;rw [EG,Ij,iG P];simp [Itm.puts,Itm.cost]
 | .rep r::P=>by
  show((Itm.puts (.rep r)++puts P).map (·.2)).sum=_;rw [EG,Ij,iG P];simp [Itm.puts,Itm.cost]
def Vc {P:xkl}(h:xgF P (U7 x)):xds q (puts P) xa5 (2^xbl):=by
 intro q hq;obtain⟨x,hx,hq⟩:=Lk.mp hq;have ok:=h x hx;cases x with
 |one y=>
  have:y≤6:=ok;simp [Itm.puts] at hq;subst hq;show y<2^3;exact xkD this
 |rep r=>
  obtain⟨h1,h2⟩:3≤r/\r≤66:=ok;simp [Itm.puts] at hq;show xja hq
  ·decide
  ·show r-3<2^6;omega
universe W13
namespace W17
open BP W13
def bitsP (ps:xaS):xaH:=ps.flatMap λ q=>dig xa5 xbl
def bK (q:xet)(ps:xaS):bitsP (q::ps)=dig xa5 xbl++xsG:=by simp [bitsP]
def eF (a b:xaS):bitsP (a++b)=xrj a (bitsP b):=by simp [bitsP]
theorem dt:∀ps:xaS,xaJ xsG xcA
 | []=>rfl
 |q::ps=>by rw [bK,Et,L8,dt ps,b8]
theorem lL:∀{ps:xaS},Good ps->∀N,xug N=N*2^xcA+num xsG
 | [],_,N=>by simp [cL,tots,bitsP,num]
 |q::ps,h,N=>by
  have h1:xa5<2^xbl:=xlu q;have ih:=lL (ps:=ps) λ z hz=>xhQ z hz
  show xug (N*2^xbl+xa5)=_;rw [ih,bK,dF,dt,fG,HF h1,b8,HI,IV,Gn,FD]
def vy {ps:xaS}(h:Good ps):num xsG=xug 0:=by show xbc (lL h 0)
noncomputable def rlF:xaX (Id->xaS)
 |0,_=>[]
 |_+1,[]=>[]
 |n+1,a::L=>(a,1+xfu)::xxu xpP
theorem ki:∀{n m:Nat} {L:Id},xfm n->xfm m->xxu L=rlF m L
 |0,0,_,_,_=>rfl
 |0,m+1,[],_,_=>rfl
 |0,_+1,_::_,h,_=>by show xbd
 |n+1,0,[],_,_=>rfl
 |_+1,0,_::_,_,h=>by show xbd
 |n+1,m+1,[],_,_=>rfl
 |n+1,m+1,a::L,h1,h2=>by
  have N6:xfm n:=by show xte
  have Rk:xfm m:=by simpa using h2
  show(a,1+xfu)::xxu xpP=(a,1+xfu)::rlF m xpP;rw [ki (n:=n) (m:=m) (by show LE EE (Ew xmO N6)) (by show xaF EE)]
def rl (L:Id):xaS:=rlF L.length L
def AY:rl []=[]:=rfl
def zr (a:Nat)(L:Id):rl (a::L)=(a,1+xfu)::rl xpP:=by
 show(a,1+xfu)::rlF L.length xpP=_;show Τ (ki (n:=L.length) (m:=(xpP).length) (by show LE EE xmO) Tl)
def yt {T:Id}{b e a:Nat}(TF:b<e)(heT:xwd e)(Rg:∀j,b≤j->j<e->xfd T a)(X0:xq9 T[e]? a):rl (T.drop b)=(a,e-b)::rl (T.drop e):=by
 have hb:b<T.length:=Ey TF heT;have e1:T.drop b=a::T.drop (b+1):=by
  show xdA (Rg b Tl TF) (Ex hb);rw [Gb hb,Fb this]
 have e2:xAY (T.drop (b+1))=e-(b+1):=by
  refine vV (PP i hi) ?_
  ·show LE Ix (Rg _ Z5 (Gr hi))
  ·rw [Ix,xaA (b+1+(e-(b+1))) e (FE TF)];exact X0
 rw [e1,zr,e2,Gz,xaA (b+1+(e-(b+1))) e (FE TF),show 1+(e-(b+1))=e-b by lia]
def exp (rs:xaS):Id:=rs.flatMap λ q=>xEK xa5
theorem sG {a:Nat}:∀L:Id,L=xpJ xfu++xpP
 | []=>rfl
 |x::L=>by
  by_cases h:x=a
  ·have e:xAY (x::L)=xfu+1:=by rw [run,EU h]
   rw [e,FW,List.drop_succ_cons,HW,<-sG L,h]
  ·have e:xAY (x::L)=0:=by rw [run,EI h]
   show Τ e
theorem tz:∀{n:Nat} {L:Id},xfm n->exp (xxu L)=L
 |0,[],_=>rfl
 |0,_::_,h=>by show xbd
 |n+1,[],_=>rfl
 |n+1,a::L,h=>by
  have h':xfm n:=by show xtC
  show xpJ (1+xfu)++exp (xxu xpP)=_;rw [tz (by show LE EE (Ew xmO h')),Iw,FW,HW,<-sG]
def mq (L:Id):exp (rl L)=L:=tz Tl
theorem sj:∀{n:Nat} {L:Id},∀q∈xxu L,ω xbl/\xgR xbl/\xa5∈L
 |0,_,q,h=>by cases h
 |n+1,[],q,h=>by cases h
 |n+1,a::L,q,h=>by
  have hr:=kc a L;show xel (xku q ((a,1+xfu)::xxu xpP) h) h
  ·exact⟨by show ω (1+xfu);exact EY 1 _,by show 1+xfu≤(a::L).length;show xaF EK,ER⟩
  ·obtain⟨h1,h2,h3⟩:=sj q h;show WF EE h2 ⟨h1,by rw [EK];omega,xkg (Ft h3)⟩
def rj {L:Id}{q:xet}(h:q∈rl L):ω xbl/\xgR xbl/\xa5∈L:=sj q h
def xw (q:xet)(b:xaS):exp (q::b)=xEK xa5++exp b:=by simp [exp]
def pR (rs:xaS):xaS:=rs.flatMap λ q=>[(xbl-1,6),(xa5,8)]
def vk (a b:xaS):pR (a++b)=pR a++pR b:=by simp [pR]
def jd (q:xet)(b:xaS):pR (q::b)=(xbl-1,6)::(xa5,8)::pR b:=by simp [pR]
noncomputable def pf:Bool->Id->xaS
 |false,T=>xHX s (s,8)
 |true,T=>pR xkr
theorem gk:∀{rs:xaS},(∀q∈rs,ω xbl)->rs.length≤(xHY).length
 | [],_=>Tl
 |q::rs,h=>by
  have h1:=xlu q;have ih:=gk (rs:=rs) λ z hz=>xhQ z hz
  rw [xw,Et,Ff,EK];lia
theorem jf:∀rs:xaS,xl0 rs=14*rs.length
 | []=>rfl
 |q::rs=>by rw [jd,b8,b8,jf rs,EK];show 6+(8+14*rs.length)=_;lia
theorem dS:∀T:Id,tots xoN=8*T.length
 | []=>rfl
 |s::T=>by
  show tots ((s,8)::xoN)=_;rw [b8,dS T,EK];show 8+8*T.length=_;lia
def tG (u:Bool)(T:Id):tots (pf u T)≤14*T.length:=by
 cases u with
 |false=>show xaF dS
 |true=>
  show xl0 xkr≤_;rw [jf];show xnD (gk (rs:=xkr) λ q hq=>(rj hq).1) mq (GJ 14 this)
def zW {rs:xaS}(h:∀q∈rs,ω xbl/\xhc xbl/\xaq xa5):Good (pR rs):=by
 intro z hz;obtain⟨q,hq,hz⟩:=Lk.mp hz;obtain⟨h1,h2,h3⟩:=h q hq;simp at hz;show xja hz
 ·show xbl-1<2^6;omega
 ·show xa5<2^8;assumption
def wP {T:Id}(hT:xt5)(hb:xdv T):∀q∈xkr,ω xbl/\xhc xbl/\xaq xa5:=λ q hq=>by
 show xay h1 h2 h3 (rj hq) ⟨h1,Ew h2 hT,xq2 h3⟩
def sE (u:Bool){T:Id}(hT:xt5)(hb:xdv T):Good (pf u T):=by
 cases u with
 |false=>
  intro z hz;show xay s hs rfl (Hh.mp hz) (hb s hs)
 |true=>exact zW (wP hT hb)
universe W17
namespace K33
open PySem L2 QQ W17 W16
seal PE PA PS PSs PT PW PG PI
noncomputable def top (i:Nat):LP:=PySem.Challenge.pw_balepress_k33_whole_one_bit_told.main.body.getD i (.Pass ⟨0,0,0,0⟩)
abbrev mI:LP:=top 19
abbrev cb:LP:=top 20
abbrev cz:LP:=top 21
abbrev jL:LP:=top 22
abbrev bW:LP:=top 23
abbrev cN:LP:=top 26
abbrev fZ:LP:=top 27
abbrev eg:LP:=top 70
abbrev nQ:LP:=top 71
abbrev j6:LP:=top 72
abbrev iI:LP:=top 73
abbrev j8:LP:=top 74
abbrev dJ:LP:=top 79
abbrev gu:LP:=top 80
abbrev kl:LP:=top 84
abbrev ir:LP:=top 85
abbrev kI:LP:=top 86
abbrev fU:LP:=top 45
abbrev tW:LP:=top 46
abbrev gM:LP:=top 47
abbrev kn:LP:=top 48
abbrev mZ:LP:=top 49
abbrev jY:LP:=top 50
abbrev xq:LP:=top 52
abbrev fk:LP:=top 53
abbrev gH:LP:=top 54
abbrev eW:LP:=top 61
abbrev lV:LP:=top 62
abbrev iy:LP:=top 63
abbrev rF:LP:=top 64
abbrev gs:LP:=top 65
abbrev ka:LP:=top 82
abbrev iA:LP:=top 83
abbrev jG:LP:=top 87
abbrev kG:LP:=top 88
abbrev rV:LP:=xaM 29 0
abbrev BM:LP:=xaM 29 1
abbrev sD:LP:=xaM 29 2
abbrev vY:LP:=xaM 29 3
abbrev m8:LP:=xaM 29 4
abbrev sCInit:LP:=xaM 55 0
abbrev wp:LP:=xaM 55 1
abbrev qZ:LP:=xaM 55 2
abbrev ww:LP:=xaM 89 3
abbrev lW:LP:=xaM 93 2
abbrev mC:LP:=xaM 93 1
abbrev iJ:LP:=xaM 93 0
abbrev gY:LP:=top 81
abbrev gh:LP:=xaM 90 0
abbrev jD:LP:=xaM 90 1
abbrev jx:LP:=xaM 90 2
abbrev gp:LP:=xaM 91 0
abbrev jM:LP:=xaM 91 1
abbrev kq:LP:=xaM 91 2
abbrev fz:LP:=xaM 92 0
abbrev iz:LP:=xaM 92 1
abbrev hV:LP:=xaM 92 2
abbrev yb:LP:=top 94
abbrev jy:LP:=top 95
abbrev vN (n:Nat):V:=.int xcG
structure Txt (K:Frag)(mg:π):Prop where
 isi:xgZ "isinstance"
 bool:xgZ "bool"
 int:xgZ "int"
 list:xgZ "list"
 len:xgZ "len"
 range:xgZ "range"
 max:xgZ "max"
 min:xgZ "min"
 great:xcK "GREATEST" 255
 most:xcK "MOST_SIZE" 24
 signs:xcK "MOST_SIGNS" 64
 ahead:xcK "MOST_AHEAD" 192
 far:xcK "FARTHEST" 255
 least:xcK "LEAST_COPIED" 3
 mostC:xcK "MOST_COPIED" 18
 sum:xgZ "sum"
 enum:xgZ "enumerate"
 sort:xgZ "sorted"
 bits:xcK "MOST_BITS" 6
 mlen:xcK "MOST_LENGTH" 12
 things:xcK "MOST_THINGS" 300
 count:xcK "MOST_COUNT" 1000000
 many:xcK "MANY" 272
 again:xcK "AGAIN" 7
 leastA:xcK "LEAST_AGAIN" 3
 mostA:xcK "MOST_AGAIN" 66
 first:xcK "FIRST_COPY" 256
 isnumb:∃(f:LF) (fd:LK),Χ "is_number" "is_number" mI/\mg "is_number"=xdB/\xmM Jag
structure Fn (K:Frag)(mg:π)(x:Str)(st:LP)(ps:xae)(f:LF)(fd:LK):Prop where
 F:Χ x x st
 m:mg x=xdB
 b:xoA
structure Me (K:Frag)(C:LF)(x qual:Str)(st:LP)(ps:xae)(f:LF)(fd:LK):Prop where
 F:Χ x qual st
 m:xol K x f
 b:xoA
def aD {X:Cx}{pos:Pos}(F:xBg LZ k f fd ps sp)(hr:xju)(M:Fn X.K X.mg x st ps f fd)(ha:xm5)(hg:Μ xe8)(Rf:xdw (x==xdQ))(he:Μ (xkY=xfH::xkV))(Nu:xnl):xlb x p xcu [] (oQ sp [] E0 t):=bq F hr hg M.m M.F.kp M.b .nil a7 ha Rf he Nu
def bf {X:Cx}{pos:Pos}{pl:xwe}(he:xl4 o)(c:xty)(M:Me X.K C m qu st ps f fd)(F:xBg LZ k f fd ps sp)(hr:xju)(ha:xm5)(Nd:Μ (xkY=xfH::xkV))(Nu:xnl)(ht:Μ (xxS o m xcu=(do
      let ov<-xoK
      xu5
      let xwN f<-xva [ov] ov m pl
      xxm f xcu xxn))):xxR o m xcu (jV C m sp [] E0 ta t):=eE he c M.m F hr M.b .nil a7 ha Nd Nu ht
def bz {X:Cx}{pos:Pos}{pl:xwe}(he:xl4 o)(c:xty)(M:Me X.K C m qu st ps f fd)(F:xBg LZ k f fd ps sp)(hr:xju)(ht:Μ (xxS o m []=(do
      let ov<-xoK
      xu5
      let xwN f<-xva [ov] ov m pl
      xxm f [] xxn))):xxR o m [] (jV C m sp [] E0 ta iW):=jF he c M.m F hr M.b .nil a7 ht
def aM {X:Cx}{e:LN}{te:TE}{p pos:Pos}(hm:xnA "len")(he:xrd e)(hg:Μ (xvF "len"))(h1:Μ (xfS [e]=xfH::xfS [])):=a8 (p:=p) (pos:=pos) (he:=h1) cF hg hm Jh (aa (hs:=h1) he ag)
section
variable (K:Frag)
def BF:NE (xp7 xBo (.type "bool")) false:=by
 show xDz (NE (if(Value.type "int"==Value.type "bool")=true then some true else if kitMeta "bool"=true then(fastBuiltinMro "int").map (·.contains (.type "bool")) else none) false)
def B1:xj5 (xp7 xBo xBo):=by
 show xDz (xj5 (if(Value.type "int"==Value.type "int")=true then some true else if kitMeta "int"=true then(fastBuiltinMro "int").map (·.contains (.type "int")) else none))
def AO:xj5 (xp7 xvj xvj):=by
 show xDz (xj5 (if(Value.type "list"==Value.type "list")=true then some true else if kitMeta "list"=true then(fastBuiltinMro "list").map (·.contains (.type "list")) else none))
universe s
def ME:vN x=vN y<->x=y:=by
 constructor
 ·intro h;injection h with h
  exact Lc.mp h
 ·rintro rfl;rfl
def dI {S:Id}(h:xdX i):(xlF)[i]?=SL S[i]:=by simp [h]
def cD {B:Id}{i:Nat}(h:Ν (xff) y):∃b,Ν B b/\y=xd1:=by
 rw [Fq] at h;cases e:B[i]? with
 |none=>show xeG h h
 |some z=>show WF e h (xd9 z (xzi h))
def cB {B:Id}(h:Ν B b):B.take (i+1)=xyQ++[b]:=by rw [F1,h];rfl
def bF (h:xmV n):xc2 n:=xdC h
def bC (h:xmV n):xAT n:=xkD h
inductive ND (vs:LT) (H:Hp) (Q:VK) (LX:XK):Prop
 |mk (i lo hi:Int) (h0:vs=[xcD,.int lo,xtd]) (h1:xdK (xhG lo i&&xhG i hi)):ND vs H Q LX
def zJ:P3 Jab Jab cb:=On
inductive Wu (vs:LT) (H:Hp) (Q:VK) (LX:XK):Prop
 |mk (x:V) (b:Bool) (h0:vs=xbT) (h1:((∃i,x=xcD)/\Pi b)) (h2:xdK b):Wu vs H Q LX
def AI:P3 Jag Jag mI:=On
def zC (F:Χ "is_number" "is_number" mI)(T:xbn):Η 0 Jag Wu:=by
 refine F.ok0 AI λ LS A outer s H vs Q E h=>?_
 intro _;show xdT x b hw k h;refine xei (xAq (xkE jz T.isi Ib (xc6 Uf (jg (v:=.ty "int") Z7 T.int PyProof.Rows.boot_int rfl))) (Cb (xkE jz T.isi Ib (xc6 Uf (jg (v:=.ty "bool") Z7 T.bool PyProof.Rows.boot_bool rfl)))));obtain⟨⟨i,rfl⟩,rfl⟩:=hw;refine⟨_,rfl,_,_,_,_,rfl,.int _,B1 K,_,rfl,xor⟩;exact⟨_,rfl,_,_,_,_,rfl,.int _,BF K,_,rfl,k⟩
def fj (F:Ζ "is_whole" cb Jab)(T:xbn):xew Jab ND:=by
 obtain⟨fN,SA,NF,Nm,Nb⟩:=T.isnumb;show xbo zJ (λ LS A outer s H vs Q E hr h=>?_);obtain⟨i,lo,hi,rfl,k⟩:=h;show xut (xAq (xhd (zC NF T) hr Nm NF.kp Nb a7 xbj) (pD sf sf SZ Uf XV)) ⟨_,rfl,_,true,rfl,xck (xck i),_,rfl,xor⟩;show TD ⟨_,rfl,_,rfl,_,_,rfl,rfl,_,rfl,?_⟩ xk4
 ·refine⟨_,rfl,_,_,rfl,rfl,?_⟩;rw [h1,Bool.true_and] at k;exact k
 ·have h2:τ (xhG lo i):=by show xte
  rw [h2,Lz] at k;exact k
inductive P1 (vs:LT) (H:Hp) (Q:VK) (LX:XK):Prop
 |mk (a:LF) (B:Id) (lo hi:Int) (h0:vs=[Tm,.int lo,xtd]) (h1:XL=xfy) (h2:(xaY B (lo≤xdj/\xdj≤hi))) (h3:xdK true):P1 vs H Q LX
def P6:P3 ["thing","least","most","number"] Jab cz:=On
def fh (F:Ζ "are_whole" cz Jab)(W:xqY fW Qn)(T:xbn):Η 2 Jab P1:=by
 have GW:xpk fW Qn Jab ND:=fj W T;show xbo P6 (λ LS A outer s H vs Q E hr h=>?_);obtain⟨a,B,lo,hi,rfl,hB,hb,k⟩:=h;show xcc (xgL (aH (xnz (xkE jz T.isi Ib (xc6 Uf (jg (v:=.ty "list") Z7 T.list Gg rfl)))) xHH aA) (xiQ (xuz Uf 3 P6.nd (aH (xnz (xaK GW W (xcl 3 (xbP 1 2)))) xHH aA)) dm)) ⟨_,rfl,_,_,_,_,rfl,.lst hB,AO K,_,rfl,xhY⟩ (xfR a (xhx hB) (xoD xd5 K a xff (λ i σ H2=>∃v,σ=[xbA,xdR lo,xdR hi,v]/\H2=H) (xd9 none rfl) (λ i σ H2 _ z9=>by show xB1 e;exact by show xdM xy7) ?_ ?_))
 ·rintro i y σ H2 hi ⟨v,rfl,rfl⟩;show xdt b MN (cD hi);show xbD h2 h3 (xh3 xHs) ⟨_,rfl,_,rfl,_,rfl,_,_,_,rfl,_,rfl,?_⟩;rw [Ez h2,Ez h3];exact xDT rfl
 ·rintro σ H2 ⟨v,rfl,rfl⟩;exact k
inductive Uh (vs:LT) (H:Hp) (Q:VK) (LX:XK):Prop
 |mk (a:LF) (B:Id) (h0:vs=xbK) (h1:XL=xfy) (h2:xa6 B) (h3:xdK true):Uh vs H Q LX
def yN:P3 Jag Jag jL:=On
structure Rows (K:Frag)(mg:π):Prop where
 X:xbn
 whole:xCa cb Jab
 arewhole:UF "are_whole" cz Jab
 isrow:UF "is_row" jL Jag
def wf (F:Ζ "is_row" jL Jag)(Y:xlj):Η 3 Jag Uh:=by
 obtain⟨T,⟨_,_,W⟩,⟨_,_,AW⟩,_⟩:=Y;show xeL tg hg T.great yN (λ LS A outer s H vs Q E hr h=>?_)
 intro _;obtain⟨a,B,rfl,hB,hb,k⟩:=h;refine xei (xaK (fh AW W T) AW (xog (xrk (xaO 255 hg tg))));exact⟨_,rfl,a,B,0,255,rfl,hB,λ b z=>by show xbu (xh3 z),k⟩
inductive spNeedRow (vs:LT) (H:Hp) (Q:VK) (LX:XK):Prop
 |mk (a:LF) (B:Id) (h0:vs=xbK) (h1:XL=xfy) (h2:xa6 B) (h3:∀l,Ξ->xrJ (xfb xff)):spNeedRow vs H Q LX
def uY:P3 Jag Jag bW:=On
def bL (F:Ζ "need_row" bW Jag)(Y:xlj):Η 4 Jag spNeedRow:=by
 obtain⟨fR,fdR,R⟩:=Y.isrow;have T:=Y.X;show xbo uY (λ LS A outer s H vs Q E hr h=>?_);obtain⟨a,B,rfl,hB,hb,k⟩:=h;show TD (xgL (xql (xaK (wf R Y) R xbj)) (xbU (xGN Gg xbj))) ⟨_,rfl,a,B,rfl,hB,hb,_,rfl,xhY⟩;exact⟨_,rfl,a,_,rfl,Φ hB,k⟩
inductive spNeedSize (vs:LT) (H:Hp) (Q:VK) (LX:XK):Prop
 |mk (s:Nat) (h0:vs=[xbz]) (h1:s≤24) (h2:xkA H):spNeedSize vs H Q LX
def qw:P3 Jah Jah cN:=On
def iQ (F:Ζ "need_size" cN Jah)(W:xqY fW Qn)(T:xbn):Η 2 Jah spNeedSize:=by
 have GW:xpk fW Qn Jab ND:=fj W T;show xeL tg hg T.most qw (λ LS A outer s H vs Q E hr h=>?_)
 intro _;show xgX z rfl hz k;show xcR (af (xql (xaK GW W (xog (xrk (xaO 24 hg tg)))))) ⟨_,rfl,_,_,_,rfl,_,rfl,?_⟩;have e1:Pi (xhG xcU (Ty z)&&xhG (Ty z) 24):=by
  rw [xoi,Ez (by exact Lq rfl rfl hz)];rfl
 show LE e1 (bi k)
inductive spOnes (vs:LT) (H:Hp) (Q:VK) (LX:XK):Prop
 |mk (s:Nat) (h0:vs=[xbz]) (h1:xb0 s) (h2:xmq (2^s-1) H):spOnes vs H Q LX
def AV:P3 Jah Jah fZ:=On
def mO (F:Ζ "ones" fZ Jah):xew Jah spOnes:=by
 show xbo AV (λ LS A outer s H vs Q E hr h=>?_);show xgX z rfl hz k;show xut (xrf (xy8 di Uf)) ⟨_,rfl,_,_,rfl,rfl,xxv xe4 Z9,_,_,rfl,rfl,?_⟩;have e1:xb4*xDX z-1=M2 (2^z-1):=by
  have:=BP.PJ z;rw [E6,LC];have e2:M2 (2^z)=Ty 2^z:=Z6;exact xpW this
 try dsimp only
 show LE e1 k
def o0 (a b k)(h:b<2^k):(a*2^k)&&& b=0:=by
 have e1:b&&& (2^k-1)=b:=by rw [IS,HF h]
 have e2:(a*2^k)&&& (2^k-1)=0:=by rw [IS,Nat.mul_mod_left]
 have e3:(a*2^k)&&& (b&&& (2^k-1))=((a*2^k)&&& (2^k-1))&&& b:=by rw [Nat.and_comm b,Nat.and_assoc]
 rw [e1,e2,Nat.zero_and] at e3;exact e3
def kF (k):M2 (2^k)=Ty 2^k:=Z6
def qz (a b k:Nat)(h:b<2^k):Builtin.bitOr (Ty a*xDX k) xqO=M2 (a*2^k+b):=by
 have e0:Ty a*xDX k=M2 (a*2^k):=by rw [E6,Int.natCast_mul,kF]
 rw [e0,PyProof.Rows.bitOr_and,J5 (Fz (_*2^_)) xe4,E6,E6,o0 a b k h];exact Ik ((λ {a b}=>Int.neg_inj.mp) rfl)
def eu (x k:Nat):xI0 x (M2 (2^k-1))=M2 (x%2^k):=by
 rw [J5 xe4 Z5,E6,E6,IS]
def mx (x k:Nat):Ty x/xDX k=M2 (x/2^k):=by
 rw [E6,<-kF];rfl
def m7 (x k:Nat):Ty x*xDX k=M2 (x*2^k):=by
 rw [E6,Int.natCast_mul,kF]
def zd {B:Id}(hm:xbv m)(hn:xf3 n):xl5 xff xk3 xai=Κ (xj3 n m):=by
 unfold cutV;rw [HT.Mz,HT.Mz,Es,Fp hn,Fp (Ew hm hn),Hs,G6,List.drop_take]
inductive Og (vs:LT) (H:Hp) (Q:VK) (LX:XK):Prop
 |mk (a:LF) (B:Id) (p s:Nat) (h0:vs=[Tm,vN p,xbz]) (h1:XL=xfy) (h2:xa6 B) (h3:p+s≤xzC 8) (h4:s≤24) (h5:xbC (UV->xtg (BP.val B/2^(xzC 8-(p+s))%2^s))):Og vs H Q LX
def vW:¬(xDA):=Z8
def o9:¬(xnK xiy):=Z8
def zc:¬(xnK xpR):=Z8
noncomputable def fW (d:LF) (r k:Nat):xev:=[("whole_bytes",xqx),("rest",vN r),xGO (vN k)]
def Ar (d):putF "rest_size" xlH (putF "rest" xlH (xJE d []))=xnW 0 0:=by
 show(putF "rest_size" xlH (xdh xDA xiy d [("rest",xkq)]))=_;rw [EI vW];show(xdh (xnK xiy) xiy d (xda (xnK xpR) (xpR,xkq) [xGO xkq]))=_;rw [xxw,EI zc];rfl
def uc (d)(r k r'):xec "rest" r' xfD=xnW r' k:=by
 show(xdh xDA xiy d (xcI (xpR="rest") ((xpR,vN r'):: [xGO (vN k)]) _))=_;rw [EI vW,xag];rfl
def sN (d)(r k k'):xec "rest_size" k' xfD=xnW r k':=by
 show(xdh (xnK xiy) xiy d (xda (xnK xpR) (xpR,vN r) (xcI (xnK (xcm "rest_size")) [(xcm "rest_size",vN k')] _)))=_;rw [xxw,EI zc,xag];rfl
def ua (d)(r k):xfD=xec "rest_size" k (xec "rest" r (xJE d [])):=by
 have h:=Ar d;have h2:xec "rest" r (xJE d [])=[xvp xiy d,("rest",vN r)]:=by
  show(xdh xDA xiy d [("rest",vN r)])=_;rw [EI vW]
 rw [h2];show _=(xdh (xnK xiy) xiy d (xda (xnK xpR) (xpR,vN r) [xGO (vN k)]));rw [xxw,EI zc];rfl
def jW (d)(r k):xcO xfD "whole_bytes"=xmP:=by
 rw [ua,ao,xxw,ao,EI vW,ao,xag]
def gG (d)(r k):xcO xfD "rest"=SL r:=by
 rw [ua,ao,EI zc,ao,xag]
def df (d)(r k):xcO xfD "rest_size"=SL k:=by
 rw [ua,ao,xag]
def dY (d)(r k){m:Str}(h1:xdJ (xnK m))(h2:xdJ (m="rest"))(h3:xdJ (m="whole_bytes")):xlP xfD m:=by
 rw [ua,ao,xoq,ao,xmx,ao,EI h3];rfl
def me (d)(r k):(xfD).length<1000:=by show xcE 3
def L6 (C:LF)(H:Hp)(p d:LF)(N T:Nat):Prop:=∃dx B r k,xbh=xb2 xfD/\H d=xfy/\BP.BR N T B r k/\k<8
structure CB (K:Frag)(mg:π)(C:LF):Prop where
 cl:xgw
 nW:xcH "whole_bytes"
 nR:xcH "rest"
 nS:xcH "rest_size"
inductive Ul (C:LF) (vs:LT) (H:Hp) (Q:VK) (LX:XK):Prop
 |mk (p dx:LF) (h0:vs=xaV) (h1:xbh=xxH) (h2:∀(d:LF) (H':Hp),υ d->L6 C H' p d 0 0->xc1 (∀b o,xb7=IO->xgx->xde=IO)):Ul C vs H Q LX
def yE:xdc rV:=On
def oK (F:xfW K "BitRow.__init__" rV f)(T:CB K mg C):xhm (Ul C):=by
 show xaE yE (λ LS A outer s H vs Q E hr h=>?_);show xdT p dx hp k h;show TD (xoc xgT (xeN xHN xHN)) (xeY xac d hd);have OP:p≠d:=xqP hd;show TD ⟨_,rfl,p,C,dx,[],rfl,(by show Re OP hp),T.cl,T.nW,(by show xcE 0),_,rfl,p,C,dx,_,rfl,ad,T.cl,T.nR,(by show xcE 1),?_⟩ ⟨_,rfl,p,C,dx,_,rfl,ad,T.cl,T.nS,?_,?_⟩
 ·show(xdh xDA xiy d [("rest",xkq)]).length<1000
  try dsimp only
  rw [EI vW];show xcE 2
 refine k d _ hd ⟨dx,[],0,0,LD ad (xvK l (xGm C dx l) (Ar d)),by rw [xnF,xnF,xnF,ad];rfl,BP.BR.init,Z9⟩ λ b o e hb=>?_
 rw [xg9,xg9,xg9,xiq hd];exact e
inductive spMove (C:LF) (vs:LT) (H:Hp) (Q:VK) (LX:XK):Prop
 |mk (p d dx:LF) (B:Id) (r k:Nat) (h0:vs=xaV) (h1:xbh=xb2 (xnW r (k+8))) (h2:H d=xfy) (h3:xFU) (h4:k≤100) (h5:xbC (H' p=xb2 (xnW (r%2^k) k)->H' d=xaf (B++[r/2^k])->xc1 (∀c o,χ=IO->xaj->xfG->xaL=IO))):xK9 vs H Q LX
def AK:xdc sD:=On
def yA (F:Χ "move_byte" "BitRow.move_byte" sD)(O:xCC fZ Jah fO Yk)(T:CB K mg C):xhw 2 xK9:=by
 have GO:xpk fO Yk Jah spOnes:=mO O;show xaE AK (λ LS A outer s H vs Q E hr h=>?_);obtain⟨p,d,dx,B,r,k,rfl,hp,hd,hB,hk,q⟩:=h;have OP:p≠d:=aG hp hd (by show Ε);refine xoc (xrf Α) (xeN (xi4 FK FV bx Α (aq io Α Α)) (xc9 (aq ii Α (xaK GO O xs2))))
 have e1:Ty (xjm (k+8))-8=xh2:=Int.sub_eq_iff_eq_add.mpr rfl;refine⟨_,rfl,p,C,dx,_,_,rfl,hp,T.cl,T.nS,df _ _ _,_,_,rfl,rfl,_,rfl,p,C,dx,_,rfl,hp,T.cl,T.nS,me _ _ _,?_⟩
 try dsimp only
 rw [e1,sN];have MJ:(xch H xfD) p=xb2 xfD:=ad;have hd1:(xch H xfD) d=xfy:=by show Re OP.symm hd
 show xcc ⟨_,rfl,p,C,dx,_,_,rfl,MJ,T.cl,T.nW,jW _ _ _,xfa hd1,?_⟩ ⟨_,rfl,p,C,dx,_,_,rfl,MJ,T.cl,T.nR,gG _ _ _,_,rfl,p,C,dx,_,_,rfl,MJ,T.cl,T.nS,df _ _ _,_,_,rfl,rfl,Z4,?_⟩ ⟨d,_,_,rfl,rfl,hd1,lI (by show xdl hB),?_⟩
 try dsimp only
 rw [mx];generalize hH2:xbi (xch H xfD) d (xff++[vN (r/2^k)])=H2;have Ml:H2 p=xb2 xfD:=by rw [<-hH2,ai OP];exact MJ
 have hd2:H2 d=xaf (B++[r/2^k]):=by rw [<-hH2,ad,EG];rfl
 have O3:∀c o,χ=IO->xaj->xfG->xle=IO:=λ c o e n1 n2=>by rw [<-hH2,ai n2,ai n1];exact e
 refine⟨_,rfl,p,C,dx,_,_,rfl,Ml,T.cl,T.nR,gG _ _ _,_,rfl,p,C,dx,_,_,rfl,Ml,T.cl,T.nS,df _ _ _,k,rfl,xdC hk,_,_,rfl,rfl,?_⟩
 try dsimp only
 show ST eu ⟨_,rfl,p,C,dx,_,rfl,Ml,T.cl,T.nR,me _ _ _,?_⟩
 try dsimp only
 show ST uc (q _ ad (by show Re OP.symm hd2) λ c o e n1 n2=>?_)
 show Re n1 (O3 c o e n1 n2)
inductive Yv (C:LF) (vs:LT) (H:Hp) (Q:VK) (LX:XK):Prop
 |mk (p d:LF) (N T n s:Nat) (h0:vs=[xad,xdH,xbz]) (h1:xly C N T) (h2:T≤4000) (h3:s≤24) (h4:n<2^s) (h5:xbC (L6 C H' p d (N*2^s+n) (T+s)->xc1 (∀c o,χ=IO->xaj->xfG->xaL=IO))):Yv C vs H Q LX
def DL:P3 xGt xGt BM:=On
def jP (F:Χ "put" "BitRow.put" BM)(S:xbs "need_size" cN Jah fS fdS)(W:xqY fW' Qn)
  (O:xCC fZ Jah fO Yk) (M:xj6 C "move_byte" "BitRow.move_byte" sD Jaa fM fdM) (T:CB K mg C) (X:xbn):Η 3 xGt (Yv C):=by
 have GO:xpk fO Yk Jah spOnes:=mO O;have GW:xpk fW' Qn Jab ND:=fj W X;have GS:xjd 2 fS fdS Jah spNeedSize:=iQ S W X;have GM:xjd 2 fM fdM Jaa xK9:=yA M.F O T;show xaE DL (λ LS A outer st H vs Q E hr h=>?_);obtain⟨p,d,N,T',n,s,rfl,⟨dx,B,r,k,hp,hd,br,hk8⟩,hT,hs,hn,q⟩:=h;have OP:p≠d:=aG hp hd (by show Ε);have Md:xba:=SB;show xcc (xmg (xaK GS S xeW) (ac (xql (xcs GW W (xcl 1 (xrk (xcs GO O xeW)))))
  (xxQ (xc9 (aq xg (aq di Α XV) SZ)) (xc9 (xb1 Α XV)) (xqI pk Α ak (af (aB (bz Uf T.cl M GM hr))))))) (xfR s hs ?_) ⟨_,rfl,_,rfl,s,rfl,Z5,_,_,_,rfl,_,rfl,?_⟩;have e1:Pi (xhG xcU xai&&xhG xai (M2 (2^s-1))):=by
  rw [Ez xe4,xoi];rfl
 try dsimp only
 show ST e1 xhY;have hr128:r<128:=Ey br.low ((xxx (Gi hk8):2^k≤2^7));refine⟨_,rfl,p,C,dx,_,_,rfl,hp,T.cl,T.nR,gG _ _ _,_,rfl,_,_,rfl,rfl,xxv xe4 Z4,_,rfl,_,_,rfl,rfl,?_⟩
 try dsimp only
 show ST (qz r n s hn) ⟨_,rfl,p,C,dx,_,rfl,hp,T.cl,T.nR,me _ _ _,?_⟩
 try dsimp only
 rw [uc];have MJ:∀o,(xdU p o) p=IO:=λ _=>ad
 refine⟨_,rfl,p,C,dx,_,_,rfl,MJ _,T.cl,T.nS,df _ _ _,_,rfl,_,_,rfl,rfl,_,rfl,p,C,dx,_,rfl,MJ _,T.cl,T.nS,me _ _ _,?_⟩;have e2:xh2+Ty s=M2 (k+s):=Z5
 try dsimp only
 rw [e2,sN];have br1:=br.put hn;generalize hH1:xch (xch H (xnW (r*2^s+n) k)) (xnW (r*2^s+n) (k+s))=H1;have hpA:H1 p=xb2 (xnW (r*2^s+n) (k+s)):=by show xaC hH1 ad
 have hdA:H1 d=xfy:=by rw [<-hH1,xnF,xnF];exact hd
 have O3:∀c o,χ=IO->xaj->xfG->H1 c=IO:=λ c o e n1 _=>by rw [<-hH1,ai n1,ai n1];exact e
 refine Ψ (λ m σ H2=>σ=[xd3,xo9,xjp]/\∃B2 r2,H2 p=xb2 (xnW r2 m)/\H2 d=Υ (B2.map vN)/\BP.BR (N*2^s+n) (T'+s) B2 r2 m/\m≤40/\(∀c o,χ=IO->xaj->xfG->xle=IO)) ⟨k+s,rfl,B,_,hpA,hdA,br1,Z5,O3⟩
 rintro m σ H2 ⟨rfl,B2,r2,Ml,hd2,br2,hm,oth2⟩;show TD ⟨_,rfl,p,C,dx,_,_,rfl,Ml,T.cl,T.nS,df _ _ _,_,_,rfl,rfl,_,rfl,?_⟩ xk4
 ·have h8:8≤m:=by show xbu xiR
  show xfP m' m' (m=m'+8) ⟨m-8,Z5⟩;have hBl:xb0 B2.length:=by show xbu br2.tot
  refine⟨_,λ σ' H' h=>h,_,rfl,p,dx,_,rfl,Ml,xik,p,d,dx,B2,r2,m',rfl,Ml,hd2,hBl,Z5,λ H3 MR hd3 XN=>?_⟩;exact⟨m',Z5,rfl,_,_,MR,hd3,br2.move,Z5,λ c o e n1 n2=>XN c o (oth2 c o e n1 n2) n1 n2⟩
 ·have h8:m<8:=by
   have N6:xhG xlg xk3≠true:=h1;by_cases h:xlg≤xk3
   ·show xiW h N6
   ·lia
  exact q H2 ⟨dx,B2,r2,m,Ml,hd2,br2,h8⟩ oth2
inductive WA (C:LF) (vs:LT) (H:Hp) (Q:VK) (LX:XK):Prop
 |mk (p d:LF) (N T:Nat) (h0:vs=xaV) (h1:xly C N T) (h2:xmq T H):WA C vs H Q LX
def BB:xdc vY:=On
def yp (F:Χ "many" "BitRow.many" vY)(T:CB K mg C)(X:xbn):xhm (WA C):=by
 show xaE BB (λ LS A outer st H vs Q E hr h=>?_);obtain⟨p,d,N,T',rfl,⟨dx,B,r,k,hp,hd,br,hk8⟩,q⟩:=h;show xcc (xei (xb1 (xqV xHy) Α)) ⟨_,rfl,p,C,dx,_,_,rfl,hp,T.cl,T.nW,jW _ _ _,d,_,rfl,Φ hd,_,_,rfl,rfl,xwv,?_⟩ ⟨_,rfl,p,C,dx,_,_,rfl,hp,T.cl,T.nS,df _ _ _,_,_,rfl,rfl,?_⟩;have e:xlg*xgQ xff+xh2=Ty T':=by rw [Es,br.tot];lia
 try dsimp only
 show xdM q
inductive RM (C:LF) (vs:LT) (H:Hp) (Q:VK) (LX:XK):Prop
 |mk (p d:LF) (N T:Nat) (h0:vs=xaV) (h1:xly C N T) (h2:T≤4000) (h3:∀(l:LF) (R:Id) (H':Hp),Ξ->xap=xkT->BP.Pk N T R->UV->xao):RM C vs H Q LX
def Sj:xr1 (xjY "told") m8:=On
def ux (F:Χ "row" "BitRow.row" m8)(T:CB K mg C)(X:xbn):xhm (RM C):=by
 show xaE Sj (λ LS A outer st H vs Q E hr h=>?_);obtain⟨p,d,N,T',rfl,⟨dx,B,r,k,hp,hd,br,hk8⟩,hT,q⟩:=h;show xcR (xa7 1 Sj.nd (xGM Gg xs2) (xeA c8 Α ak (xi4 FK FV bx SZ (aq di Α (xgi ak Α)))) SZ) ⟨_,rfl,p,C,dx,_,_,rfl,hp,T.cl,T.nW,jW _ _ _,d,_,rfl,Φ hd,PP l hl⟩;have npl:p≠l:=xqP hl;have MJ:(xfb xff) p=xb2 xfD:=by show Re npl hp
 show TD ⟨_,rfl,p,C,dx,_,_,rfl,MJ,T.cl,T.nS,df _ _ _,_,_,rfl,rfl,_,rfl,?_⟩ xk4
 ·have h0:0<k:=by show xbu xiR
  have hr128:r<128:=Ey br.low ((xxx (Gi hk8):2^k≤2^7));have hBl:xFU:=by show xbu br.tot
  have e1:xlg-xh2=M2 (8-k):=xpW (EZ hk8);refine⟨_,rfl,xfa ad,_,rfl,p,C,dx,_,_,rfl,MJ,T.cl,T.nR,gG _ _ _,_,rfl,p,C,dx,_,_,rfl,MJ,T.cl,T.nS,df _ _ _,_,_,rfl,rfl,?_⟩
  try dsimp only
  show ST e1 ⟨_,_,rfl,rfl,xxv xe4 Z4,l,_,_,rfl,rfl,ad,lI (by show xdl hBl),_,rfl,?_⟩
  try dsimp only
  show ST m7 (q l (B++[r*2^(8-k)]) _ hl (by rw [ad,EG];rfl) (br.row1 h0 hk8) (xlx b))
  rw [xiq hl,xiq hl];exact e
 ·have h0:k=0:=by
   have N6:xft xcU xh2≠true:=h1;by_cases h:xcU<xh2
   ·show xiW h N6
   ·lia
  subst h0;show xcR rfl (q l B _ hl ad br.row0 (xlx b))
  show xgp hl e
def BD:¬(xAz xCh):=Z8
noncomputable def fR (d:LF) (t:Nat):xev:=[("held",xqx),("taken",vN t)]
def tU (d)(t):xec "taken" t (xjQ "held" d [])=xoB:=by
 show(xdh (xAz xCh) xCh d [("taken",vN t)])=_;show Τ (EI BD)
def BA (d)(t t'):xec "taken" t' xoB=fR d t':=by
 show(xdh (xAz xCh) xCh d (xcI (xAz (xcm "taken")) [(xcm "taken",vN t')] _))=_;rw [EI BD,xag];rfl
def kH (d)(t):xcO xoB "held"=xmP:=by
 rw [<-tU,ao,EI BD,ao,xag]
def fu (d)(t):xcO xoB "taken"=SL t:=by
 rw [<-tU,ao,xag]
def fb (d)(t){m:Str}(h1:xdJ (xAz m))(h2:xdJ (m="held")):xlP xoB m:=by
 rw [<-tU,ao,xoq,ao,xmx];rfl
def B0 (d)(t):(xoB).length<1000:=by show xcE 2
universe K33
namespace K33
open PySem L2 QQ W17 W16 BP
seal PE PA PS PSs PT PW PG PI
def Nn (H:Hp)(x:V)(W:Id):Prop:=(x=.non/\W=[])\/∃a,x=Tm/\XL=xkU
def Nn.same {H H':Hp}{x:V}(h:xil)(s:UV):Nn H' x W:=by
 rcases h with h|⟨a,e,h⟩
 ·show xaT h
 ·show xbB ⟨a,e,xci h⟩
inductive Qo (H:Hp):Ω->Ο xaS
 |nil:Qo H [] []
 |cons {t:LF} {q:xet} {ts:Ω} {ps:xaS}:xcV t [vN xa5,vN xbl]->xoJ H ps->Qo H (t::ts) (q::ps)
def Qo.keep (h:xoJ H ps)(s:∀c xs,xcV c xs->xjf xaL):xoJ H' ps:=by
 induction h with
 |nil=>show xeE
 |cons a _ ih=>exact xkm (xci a)
def Qo.mono (h:xoJ H ps)(s:UV):xoJ H' ps:=h.keep λ c xs e=>xci e
def Qo.app (h:xoJ H ps)(g:Qo H us qs):Qo H (ts++us) (ps++qs):=by
 induction h with
 |nil=>exact g
 |cons a _ ih=>exact xkm a
def Qo.len (h:xoJ H ps):xu6 ts.length:=by
 induction h with
 |nil=>rfl
 |cons a _ ih=>rw [EK,EK,ih]
theorem Qo.at (h:xoJ H ps):∀{i:Nat} {t},Ν ts t->∃q,Ν ps q/\xcV t [vN xa5,vN xbl]:=by
 induction h with
 |nil=>intro i t h;show xbd
 |cons a _ ih=>
  intro i t h;cases i with
  |zero=>show xbd;subst h;exact xa9 a
  |succ i=>show xbd;exact ih h
def i8 {ts:Ω}{i:Nat}(h:Ν (xcM) y):∃t,Ν ts t/\y=xfr:=by
 rw [Fq] at h;cases e:ts[i]? with
 |none=>show xeG h h
 |some z=>show WF e h (xd9 z (xzi h))
def oC {α:Type}{B:xbH}{b:α}(h:Ν B b):B.take (i+1)=xyQ++[b]:=by rw [F1,h];rfl
def L6.keep (h:xly C N T)(s:∀c o,χ=IO->(c=p\/c=d)->xaL=IO):L6 C H' p d N T:=by
 obtain⟨dx,B,r,k,h1,h2,h3⟩:=h;exact⟨dx,B,r,k,xci h1 xbF,xci h2 xsv,h3⟩
def L6.sm (h:xly C N T):(∃o,xbh=IO)/\∃o,H d=IO:=by
 obtain⟨dx,B,r,k,h1,h2,h3⟩:=h;show xar (xa1 h1) (xa1 h2)
def L6.ob (h:xly C N T):∃dx r k,xbh=xb2 xfD:=by
 obtain⟨dx,B,r,k,h1,h2,h3⟩:=h;show xav dx r k h1
def cZ {H:Hp}(h:∃o,XL=IO)(n:xcg):a≠b:=No (by
 show xAG o h;show xbb n h h)
structure Yr (K:Frag)(mg:π)(C:LF):Prop where
 R:xlj
 T:CB K mg C
 m:mg "BitRow"=xgr
 needsize:UF "need_size" cN Jah
 ones:UF "ones" fZ Jah
 init:∃f fd,xfW K "BitRow.__init__" rV f/\xAk/\xjL C
 put:∃f fd,xuq "put" "BitRow.put" BM xGt f fd
 move:∃f fd,xhq "move_byte" "BitRow.move_byte" sD
 many:∃f fd,xhq "many" "BitRow.many" vY
 row:∃f fd,xhq "row" "BitRow.row" m8
structure Zm (K:Frag)(mg:π)(x:Str)(st:LP)(ps:xae)(f:LF)(fd:LK):Prop where
 F:∃dV,xk7 x x st dV f fd
 m:mg x=xdB
 b:xoA
 d:xzk xDn
theorem Zm.kp (F:Zm K mg x st ps f fd):xii:=F.F.elim λ _ z=>z.kp
noncomputable def itm:Pc->LT
 | .sg s=>[xEc "sign",xbz]
 | .cp b z=>[xsD,xd1,vN z]
def VN (H:Hp)(ts:Ω)(P:xen):Prop:=ts.length=P.length/\∀(i:Nat) a x,Ν ts a->xgb P->xc3 XL (itm x)
def PL (H:Hp)(l:LF)(P:xen):Prop:=∃ts,H l=xt4/\VN H ts P
def VN.keep (h:VN H ts P)(k:∀a xs,xjf XL->xjf (H' a)):VN H' ts P:=⟨xbS,λ i a x h1 h2=>xmo (xex i a x h1 h2)⟩
def VN.snoc {P:xen}(h:VN H ts P){t:LF}{x:Pc}(e:xcV t (itm x)):VN H (ts++[t]) (P++xbT):=by
 refine⟨by simp [xbS],λ i a y h1 h2=>?_⟩;rw [List.getElem?_append] at h1 h2;rw [<-xbS] at h2
 split at h1
 ·rename_i c
  show WF (EU c) h2 (xex i a y h1 h2)
 ·rename_i c
  rw [EI c] at h2;have e0:i-ts.length=0:=by
   have:=xbX h1;simp at this
   assumption
  rw [e0] at h1 h2;cases h1;cases h2;exact e
def wk:xML "copy"≠xML "sign":=xmv (V.str.inj h) Z8
noncomputable def cpy (B:Id) (b:Nat):xaX Id
 |0=>B
 |n+1=>xAB++[(xAB).getD (xCd B n-b) 0]
theorem cS (B)(b):∀n,xaJ xAB (xs1 n)
 |0=>rfl
 |n+1=>by
  rw [cpy,Et,cS B b n];simp;omega
theorem pI {S:Id}(MN:xb6)(hb:b≤p)(hz:xf5 (p+z))(h:∀i<z,S[p+i]?=S[p+i-b]?):∀n,n≤z->cpy xvL b n=S.take (p+n)
 |0,_=>rfl
 |n+1,hn=>by
  have hl:xaJ (S.take (p+n)) (p+n):=by show xaF EH
  rw [cpy,pI MN hb hz h n (HK hn),hl];have h1:xdX (p+n):=Ey (Ii hn _) hz;rw [show p+(n+1)=p+n+1 by lia,F1,Ex h1];congr 1;show xaD h2 (h n xej) (Ex h1) h2;rw [E3,KS,EU Z5,<-h2];rfl
inductive QB (vs:LT) (H:Hp) (Q:VK) (LX:XK):Prop
 |mk (x:V) (m:Nat) (W:Id) (h0:vs=[x,xjq]) (h1:xil) (h2:xa6 W) (h3:xIj m) (h4:∀l H',UV->Ξ->xap=xkU->xao):QB vs H Q LX
def QN:P3 ["before","most","window"] xvk eg:=On
def jK {P:LI}(F:Ζ "need_window" eg xvk)(N:xBr bW Jag fN SA)(Y:xlj):Η 5 xvk QB:=by
 have T:=Y.X;show xbo QN (λ LS A outer s H vs Q E hr h=>?_);obtain⟨x,m,W,rfl,hx,hb,hl,k⟩:=h;refine xgL (xhN g9 Uf dO (xbU xgT) aA) (xa7 2 QN.nd (xaK (bL N Y) N xbj) (xeA c8 xHz SZ aO) XV)
 rcases hx with⟨rfl,rfl⟩|⟨b,rfl,hB⟩
 ·exact xiY _ _ (λ _=>xj1 (λ l nl=>xpm xgd nl ad)) (xmv xnX h)
 ·show xcc (xiY _ _ (xmv xbJ (by show Ε)) xb8) ⟨_,rfl,b,W,rfl,hB,hb,PP l hn⟩ ⟨_,rfl,l,_,rfl,Φ ad,_,rfl,_,_,rfl,rfl,_,rfl,xxc xb8⟩
  ·show xdA xbJ Es;lia
  ·exact xa9 (xpm (am hn) hn ad)
inductive OM (vs:LT) (H:Hp) (Q:VK) (LX:XK):Prop
 |mk (x:V) (W:Id) (h0:vs=xbT) (h1:xil) (h2:xa6 W) (h3:xkB) (h4:∀l H',UV->Ξ->xap=xkU->xao):OM vs H Q LX
def p6:P3 xj9 xj9 dJ:=On
def gU {P:LI}{f fW fN:LF}{fd Qn SA:LK}(F:Ζ "need_ahead" dJ xj9)(Wi:xbs "need_window" eg xvk fW Qn)(N:xBr bW Jag fN SA)(Y:xlj):Η 6 xj9 OM:=by
 show xeL tg hg Y.X.ahead p6 (λ LS A outer s H vs Q E hr h=>?_)
 intro _;obtain⟨x,W,rfl,hx,hb,hl,k⟩:=h;refine xei (xaK (jK Wi N Y) Wi (xc6 Uf (xaO 192 hg tg)));exact⟨_,rfl,x,192,W,rfl,hx,hb,hl,k⟩
inductive OL (vs:LT) (H:Hp) (Q:VK) (LX:XK):Prop
 |mk (a:LF) (x:V) (T W:Id) (h0:vs=[Tm,x]) (h1:XL=xce) (h2:xa6 T) (h3:xBY) (h4:xt5) (h5:xil) (h6:xa6 W) (h7:xkB) (h8:∀l H',UV->Ξ->xap=xce->xao):OL vs H Q LX
def ON:P3 ["text","before","signs"] Jae gu:=On
def dv {P:LI}{f fA fW fN:LF}{fd Ze Qn SA:LK}(F:Ζ "need_signs" gu Jae)(Ah:xbs "need_ahead" dJ xj9 fA Ze)(Wi:xbs "need_window" eg xvk fW Qn)(N:xBr bW Jag fN SA)(Y:xlj):Η 7 Jae OL:=by
 have T:=Y.X;show xeL tg hg T.signs ON (λ LS A outer s H vs Q E hr h=>?_)
 intro _;obtain⟨a,x,S,W,rfl,ha,hSb,h1,MO,hx,hb,hl,k⟩:=h;have Q7:xah 4:=SB;show xgk (xbV (xc5 2 ON.nd (aD (bL N Y) Q7 N xbj) (xvX (xAr (xm7 bG xHz) (xeK c8 xHz (xaO 64 hg tg)))) (xiQ (aB (xaK (gU Ah Wi N Y) Ah xdb)) XV))) ⟨_,rfl,a,S,rfl,ha,hSb,xdD l nl⟩;have s0:=xje xlF;have Vh:(xfb xlF) l=xi5:=ad;show xas (xfb xlF) H1 (xcx ⟨_,rfl,l,_,rfl,Φ Vh,rfl,_,rfl,xxc xb8⟩)
 ·have:=xbJ;injection this with this
  rw [Es] at this;lia
 refine⟨_,rfl,l,_,rfl,Φ Vh,_,_,rfl,rfl,_,rfl,xDr Β⟩
 ·show xdA xbJ Es;lia
 clear g1;refine xcx ⟨_,rfl,x,W,rfl,xLa,hb,hl,λ l2 H2 s2 n2 Rj=>Β⟩
 exact xa9 (xd8 H2 (s0.trans s2) nl (xbQ Vh))
inductive Uo (vs:LT) (H:Hp) (Q:VK) (LX:XK):Prop
 |mk (a:LF) (S:Id) (p b m:Nat) (h0:vs=[Tm,vN p,xd1,xjq]) (h1:XL=xi5) (h2:b≤p) (h3:xf5 (p+m)) (h4:xmq xjk H):Uo vs H Q LX
def Q0:P3 ["signs","place","back","most","size"] Jan nQ:=On
def xJ (F:Ζ "alike_from" nQ Jan):xew Jan Uo:=by
 show xbo Q0 (λ LS A outer st H vs Q E hr h=>?_);obtain⟨a,S,p,b,m,rfl,hS,hb,hm,k⟩:=h;refine xbV (xa7 4 Q0.nd ak (xFg (PW.pt (xAs (xeK dQ xan xaz) (xeK bG (xk6 xDh) (xk6 (xgi xDh XV))))) (af (xrI Q0.nd xHL))) xan)
 show xlq;refine xcx (Ψ (λ n σ H2=>∃i,n=m-i/\σ=[xbA,xpa,xmX,SL m,SL i]/\H2=H/\i≤m/\∀j<i,S[p+j]?=S[p+j-b]?) ⟨m,0,rfl,rfl,rfl,xac,xem j hj hj (Ls _)⟩)
 rintro n σ H2 ⟨i,rfl,rfl,rfl,hi,Mf⟩;refine⟨_,rfl,_,rfl,_,_,rfl,rfl,_,rfl,xk4⟩
 ·have h2:i<m:=by have:=xiR;exact xvM
  have e1:xmZ+xf7=xjH i:=Z5;have e2:xjH i-xdj=M2 (p+i-b):=xpW (F3 hb);have l1:xdX (p+i):=Z5;have l2:xdX (p+i-b):=Gk l1;refine⟨_,rfl,_,rfl,_,rfl,_,_,rfl,rfl,?_⟩
  try dsimp only
  show xmG e1 ⟨a,_,_,_,rfl,rfl,xHk,xma l1,?_⟩ ⟨_,rfl,_,rfl,_,rfl,_,_,rfl,rfl,_,rfl,_,_,rfl,rfl,?_⟩
  try dsimp only
  rw [e1,e2];refine⟨a,_,_,_,rfl,rfl,xHk,xma l2,rfl,_,rfl,xeg h3 h3⟩
  ·have h4:S[p+i]=S[p+i-b]:=ME.mp (EA h3);refine Ψ (λ σ' H'=>σ'=[xbA,xpa,xmX,SL m,SL (i+1)]/\H'=H2) (λ σ' H' z=>⟨m-(i+1),Z5,i+1,rfl,xd2,xhn, xej,xuK⟩)
   ·by_cases e:j=i
    ·subst e;rw [Ex l1,Ex l2,h4]
    ·exact Mf j (FM (Gi hj) e)
   ·exact⟨_,rfl,_,_,rfl,rfl,rfl,rfl⟩
  ·refine xAo;have h4:S[p+i]?≠S[p+i-b]?:=by
    rw [Ex l1,Ex l2];intro z;exact h3 (xCc (Fb z))
   show WF (yk Mf h4 m xej) k k
 ·refine bi xAo;have h2:i=m:=by
   have N6:¬(Pi (xft xd0 xk3)):=h1;have:¬(xd0<xk3):=No (N6 xwU)
   lia
  subst h2;show WF (xm Mf) k k
inductive QD (vs:LT) (H:Hp) (Q:VK) (LX:XK):Prop
 |mk (a:LF) (S:Id) (p:Nat) (h0:vs=[Tm,vN p]) (h1:XL=xi5) (h2:xdX p) (h3:xb0 S.length) (h4:∀t,υ t->Q xfr (xcn H t [xsD,vN xw7,vN xoG])):QD vs H Q LX
def Mw:P3 ["signs","place","most","best_back","best_size","back","size"] ["signs","place"] j6:=On
def qU (F:Ζ "longest_copy" j6 ["signs","place"])(AF:xbs "alike_from" nQ Jan fA Ze)(T:xbn):xov ["signs","place"] QD:=by
 obtain⟨tf,hf⟩:=T.far;show xeL tm hm T.mostC Mw (λ LS A outer st H vs Q E hr h=>?_)
 intro _;obtain⟨a,S,p,rfl,hS,hp,hlen,k⟩:=h;have hn:=xlX;have Md:xba:=SB;show xgk (xgc 2 Mw.nd (xkE (ic hn) T.min Kj (xc6 (xaO 18 hm tm) (xgi xl7 SZ))) (xaQ 3 Mw.nd ak (xa7 4 Mw.nd ak (xkH (iq Z7 T.range (xrk (xhU (xkE (ic hn) T.min Kj (aa (xaO 255 hf tf) xdb))))) 5 Mw.nd (xeN (xeA bG xan XV oW) (xhN bG (xk6 xDh) (xk6 (xgi xDh xcr)) (xeX 6 Mw.nd (xcs (xJ AF) AF (xog (xcl 1 (xbP 5 2)))) (xhN c8 xkw xan (xeX 3 Mw.nd xcr (xrI Mw.nd xkw)) aA)) aA))) (dH (aa eM (xbP 3 4)))))) ⟨_,rfl,a,_,rfl,Φ hS,_,rfl,_,_,rfl,rfl,_,_,rfl,Β⟩;have em:xcI (xgQ xlF-xmZ<18) (xgQ xlF-xmZ) 18=M2 xbY:=by
  rw [Es];unfold most
  split<;>lia
 try dsimp only
 rw [em];have hm2:xbY≤18/\xf5 (p+xbY):=by unfold most;lia
 show xlq;show xlq;refine xbt
 have JR:∀v5 v6,R1 [xbA,xpa,SL xbY,SL xw7,SL xoG,v5,v6] H:=λ v5 v6=>by
  refine Β;exact xfR _ (by show xdy 3) k
 clear g1;have ef:xcI (xmZ<255) xmZ 255=M2 xg7:=by
  unfold far
  split<;>lia
 refine⟨_,rfl,_,_,rfl,?_⟩
 try dsimp only
 rw [ef];have hfar:xoQ xg7/\xg7≤p:=by unfold far;show xar xhk (FX _ _)
 refine⟨_,_,rfl,rfl,1,M2 xg7+1,rfl,⟨Z5,Z5,Z5,Z5⟩,?_⟩;have en:xoH (M2 xg7+1) 1=xg7:=Z5
 try dsimp only
 show ST en (xAj xd5 1 (n:=xg7) (λ j σ H2=>∃v5 v6,σ=[xbA,xpa,SL xbY,SL (xps xbY j).1,SL xjD,v5,v6]/\H2=H) (xmy none none) ?_ ?_)
 ·rintro j σ H2 hj ⟨v5,v6,rfl,rfl⟩;have eb:xb4+xw3=xg5 j:=Z5
  try dsimp only
  show ST eb (xfT g2 ⟨_,rfl,_,rfl,rfl,_,rfl,xk4⟩)
  ·have h2:xjD=xbY:=ME.mp xiR;have e:=tH h2 xg7 (HK hj);have J:=JR (SL (j+1)) v6;unfold lcAt at J;show WF e J J
  ·have h2:xjD≠xbY:=No (h1 (xCc z))
   have hle:=tK S p xbY j;show xgs xcZ;have e1:xmZ+M2 xjD=xjH xjD:=Z5;have e2:xjH xjD-xg5 j=M2 (p+xjD-(j+1)):=Z5;have l1:xdX (p+xjD):=Z5;have l2:xdX (p+xjD-(j+1)):=Z5;refine⟨_,rfl,_,rfl,_,rfl,_,_,rfl,rfl,?_⟩
   try dsimp only
   show xmG e1 ⟨a,_,_,_,rfl,rfl,xHk,xma l1,?_⟩ ⟨_,rfl,_,rfl,_,rfl,_,_,rfl,rfl,_,rfl,_,_,rfl,rfl,?_⟩
   try dsimp only
   rw [e1,e2];refine⟨a,_,_,_,rfl,rfl,xHk,xma l2,rfl,_,rfl,xeg h3 h3⟩
   ·show TD ⟨_,rfl,_,rfl,_,rfl,_,rfl,a,S,p,j+1,xbY,rfl,hS,Ew hj hfar.2,String.Pos.Raw.mk_le_mk.mp hm2.2,?_⟩ ⟨_,rfl,_,rfl,_,_,rfl,rfl,_,rfl,xeg h4 h4⟩
    ·have h5:xjD<xme (j+1) xbY:=by have:=EA h4;exact xvM
     refine⟨_,rfl,_,rfl,SL (j+1),SL (xme (j+1) xbY),?_,rfl⟩;rw [lc,EU h5];rfl
    ·have h5:¬xjD<xme (j+1) xbY:=No (h4 xoi)
     refine⟨SL (j+1),SL (xme (j+1) xbY),?_,rfl⟩;rw [lc,EI h5];rfl
   ·refine⟨SL (j+1),v6,?_,rfl⟩;have h4:S[p+xjD]?≠S[p+xjD-(j+1)]?:=by
     rw [Ex l1,Ex l2];intro z;exact h3 (xCc (Fb z))
    show Τ (yI h4)
 ·rintro σ H2 ⟨v5,v6,rfl,rfl⟩;exact JR v5 v6
inductive PQ (vs:LT) (H:Hp) (Q:VK) (LX:XK):Prop
 |mk (a:LF) (x:V) (W T:Id) (h0:vs=[Tm,x]) (h1:XL=xce) (h2:xil) (h3:xa6 W) (h4:xa6 T) (h5:xIj 255) (h6:xEd 500) (h7:∀l P H',UV->Ξ->PL H' l P->xuC (W++T) P W T->xao):PQ vs H Q LX
def Mp:P3 ["text","before","own_signs","signs","place","pieces","found"] Jae iI:=On
structure X2 (K:Frag)(mg:π):Prop where
 R:xlj
 needrow:xGp bW Jag
 needwin:UF "need_window" eg xvk
 alike:UF "alike_from" nQ Jan
 longest:UF "longest_copy" j6 ["signs","place"]
def iO {P:LI}{w:LJ}{K:Frag}(F:Zm K mg "pieces_of" iI Jae f fd)(Y:X2 K mg):xqQ Jae PQ:=by
 obtain⟨R,⟨_,_,N⟩,⟨_,_,NW⟩,⟨_,_,AF⟩,⟨_,_,L⟩⟩:=Y;show xn1 T R.X tl hlc T.least;obtain⟨tf,Tz⟩:=T.far;show xnh dV FF F.F (FF.ok Mp λ LS A outer st H vs Q E hr h=>?_) _;obtain⟨a,x,W,Tx,rfl,ha,hx,hbW,hbT,hW,hT,k⟩:=h;have Q7:xah 4:=SB;have hr5:xah 5:=SB;show xgk (xgc 2 Mp.nd (aD (bL N R) Q7 N xbj) (xaQ 3 Mp.nd (xe1 (aD (jK NW N R) hr5 NW (xtG 1 (xaO 255 Tz tf))) XV) (xaQ 4 Mp.nd (xgi (xxZ xaz) xHz) (xa7 5 Mp.nd xgT (xqI dQ xan (xxZ xaz) (xeX 6 Mp.nd (xaK (qU L AF R.X) L (xbP 3 4)) (xhN pk (xpT xkw) (xaO 3 hlc tl) (xeN (aB (dn Fk FK FV bx xcr (xeH 6))) (xrI Mp.nd (xb1 xan (xpT xkw)))) (xeN (xi4 FK FV bx xcr (dH (xc6 eM (xsS xaz xan)))) (xrI Mp.nd xHL))))) xcr)))) ⟨_,rfl,a,Tx,rfl,ha,hbT,xdD l1 n1⟩;have s1:xco (xtM xFR):=am n1;refine xcx ⟨_,rfl,x,255,W,rfl,xKu,hbW,hW,λ l2 H2 s2 n2 Rj=>?_⟩
 have h1a:H2 l1=Υ xFR:=xbQ ad;show xa8 ⟨_,rfl,l2,l1,_,_,rfl,rfl,Rj,h1a,bF (by rw [Es,Es];lia),xdD l3 n3⟩;have s3:=xaR (xlG++xFR) n3
 try dsimp only
 rw [<-EG] at s3 ⊢;have hS3:(xbG H2 l3 (W++Tx)) l3=xaf (W++Tx):=ad;have hS1:=xcf h1a;have Tf:=xy1 s3;generalize hH3:xbG H2 l3 (W++Tx)=H3 at*;clear hH3 s3 n3 h1a s2 n2 s1;show xfl ⟨_,rfl,l3,_,rfl,Φ hS3,_,rfl,l1,_,rfl,Φ hS1,_,_,rfl,rfl,Β⟩;have ep:xgQ (Κ (W++Tx))-xgQ xFR=M2 W.length:=by
  rw [Es,Es,Et];lia
 try dsimp only
 rw [ep];generalize hS:W++Tx=S at*;have hSl:xzD (xEu Tx.length):=by rw [<-hS,Et]
 show xfl (xj1 (xdD l5 n5));have s5:=xaR [] n5;have n5':υ l5:=xCE Tf;have hS5:=xam hS3;have n35:l3≠l5:=ae hS3 n5;have W2:=Tf.trans s5;refine xcx (Ψ (λ n σ H2=>∃q Pp ts v6,n=xs0 q/\σ=[xbA,xwW,SC l1,SC l3,SL q,SC l5,v6]/\xf5 q/\xIk S Pp q/\H2 l3=xi5/\H2 l5=xt4/\VN H2 ts Pp/\xkS) ⟨xs0 W.length,W.length,[],[],none,rfl,rfl,Nat.le.intro hSl.symm,rfl,hS5,ad,xcC (λ i b y h=>by show xbd),W2⟩)
 rintro n σ H2 ⟨q,Pp,ts,v6,rfl,rfl,hq,hw,h3,h5,P9,sm⟩;refine⟨_,rfl,_,rfl,l3,_,rfl,Φ h3,_,_,rfl,rfl,_,rfl,xeg hc hc⟩
 ·have Ql:xdX q:=by show xnD (EA hc) Es xvM
  refine Ψ (λ σ' H'=>∃q' Pp ts v6,q<q'/\σ'=[xbA,xwW,SC l1,SC l3,SL q',SC l5,v6]/\xf5 q'/\xIk S Pp q'/\H' l3=xi5/\H' l5=xt4/\VN H' ts Pp/\UV) (λ σ' H' z9=>by obtain⟨q',Pp,ts,v6,LU,z1,z2,z⟩:=z9;exact⟨xs0 q',Z4,q',Pp,ts,v6,rfl,z1,z2,z⟩)
  have hlen:xf5 Pp.length:=by show xbu (c7 hw)
  have hpz:=im Ql;show xfx g2 ⟨_,rfl,_,rfl,l3,S,q,rfl,h3,Ql,Z5,λ t nt=>xcZ⟩ g2;have st:=xhz [xsD,vN xtp,vN xhS] nt;have ht:xc3 ((xjh t [xsD,vN xtp,vN xhS]) t) [xsD,vN xtp,vN xhS]:=ad;have h3t:=xey h3;have Zc:=xey h5;have htst:=P9.keep (H':=xjh t [xsD,vN xtp,vN xhS]) (xEs (xey z))
  have smt:=sm.trans st;generalize hHt:xjh t [xsD,vN xtp,vN xhS]=Ht at*;clear hHt st;have hap:∀H4 u,H4 l5=xt4->H4 l3=xi5->VN H4 ts Pp->xco H4->xc3 (H4 u) (itm (xvg q))->
    (xoP (xcM++[xDZ])) l3=xi5/\(xoP (xcM++[xDZ])) l5=Υ (xsz (ts++[u]))/\VN (xoP (xcM++[xDZ])) (ts++[u]) (Pp++[xvg q])/\xco (xoP (xcM++[xDZ])):=by
   intro H4 u a5 a3 at' as au;have kt:∀b xs,xjf (H4 b)->xjf ((xoP (xcM++[xDZ])) b):=λ b xs z=>by
    show Re (xlf a5 (by show xf0 y y)) z
   refine⟨by show Re n35 a3,by rw [ad,EG];rfl,(at'.keep kt).snoc (kt _ _ au),Sc b o z⟩;show xiC z n5' (as _ _ z)
  refine⟨_,rfl,t,_,_,_,rfl,rfl,xp4,xxW 2,_,_,rfl,rfl,_,rfl,xeg h6 h6⟩
  ·have h7:3≤xhS:=by have:=EA h6;exact KU.mp this
   have epc:xvg q=.cp xtp xhS:=by show xaP pcAt (EU h7)
   obtain⟨b3,b5,bt,bs⟩:=hap Ht t Zc h3t htst smt (by show LE epc ht);refine⟨_,rfl,xfa Zc,_,rfl,l5,_,_,rfl,rfl,Zc,bC (by rw [Es,xtY];lia),?_⟩;have YS:xc3 ((xbi Ht l5 (xcM++[xfr])) t) [xsD,vN xtp,vN xhS]:=by
    show Re (aG ht Zc (by show xf0 y y)) ht
   refine⟨_,rfl,_,rfl,t,_,_,_,rfl,rfl,MD.of YS,xxW 2,_,_,rfl,rfl,?_⟩;rw [epc] at bt hpz;show xaD Yb (dD hw Ql) epc Yb;have hz:xLb xtp xhS=xhS:=rfl;rw [hz] at Yb hpz;refine⟨q+xhS,_,_,SC t,GQ hpz.1,?_,hpz.2,Yb,b3,b5,bt,bs⟩;have e2:M2 q+M2 xhS=M2 (q+xhS):=Z5
   try dsimp only
   show Τ e2
  ·have h7:¬3≤xhS:=No (h6 xoi)
   have epc:xvg q=.sg S[q]:=by show xaP pcAt (EI h7);simp [List.getD,Ql]
   refine⟨_,rfl,xfa Zc,_,rfl,_,rfl,l3,_,_,_,rfl,rfl,K'.of h3t,xma Ql,(by show xgE),PP u nu⟩;have su:=xhz [xEc "sign",vN S[q]] nu;obtain⟨b3,b5,bt,bs⟩:=hap (xcn Ht u [xEc "sign",vN S[q]]) u (su _ _ Zc) (su _ _ h3t) (htst.keep (xEs (su _ _ z))) (smt.trans su) (by show LE epc ad);show TD ⟨l5,_,_,rfl,rfl,su _ _ Zc,bC (by rw [Es,xtY];omega),?_⟩ ⟨_,rfl,_,_,rfl,rfl,?_⟩;have Yb:=dD hw Ql;rw [epc] at bt Yb hpz;exact⟨q+1,_,_,SC t,Kf _,rfl,hpz.2,Yb,b3,b5,bt,bs⟩
 ·have Ql:xtf q:=by
   have h1:¬(Pi (xft (M2 q) (xgQ xlF))):=hc;rw [Es] at h1;have:¬(M2 q<M2 S.length):=No (h1 xwU)
   lia
  subst Ql;refine xAo;exact k l5 Pp H2 sm n5' ⟨ts,h5,P9⟩ hw
noncomputable def app (B:Id):Pc->Id
 | .sg s=>B++[s]
 | .cp b z=>xDM z
def runP (B:Id)(P:xen):Id:=P.foldl app B
noncomputable def pcP:Pc->xaS
 | .sg s=>[(0,1),(s,8)]
 | .cp b z=>[(1,1),(b,8),(z-3,4)]
def pP (P:xen):xaS:=P.flatMap pcP
def gj (B:Id):Ο Pc
 | .sg s=>xaq s
 | .cp b z=>xb6/\xoQ b/\xf3 b/\3≤z/\z≤18
def GR:Id->Ο xen
 |_,[]=>True
 |B,x::P=>gj B x/\GR (app B x) P
def gn (B)(x):xaJ (app B x) (xs1 x.size):=by
 cases x with
 |sg s=>show xaN B [s]=xs1 1;simp
 |cp b z=>exact cS B b z
def uy (P Q:xen):pP (P++Q)=pP P++pP Q:=by simp [pP]
def eK (x)(P):pP (x::P)=pcP x++pP P:=by simp [pP]
def Cc (x:Pc):pP xbT=pcP x:=by simp [pP]
theorem GR.at:∀{P} {B} {i} {x},GR B P->xgb P->gj (runP B (P.take i)) x
 |y::P,B,0,x,h,e=>by simp at e;subst e;exact xbS
 |y::P,B,i+1,x,h,e=>by
  have:=GR.at (P:=P) (B:=app B y) (i:=i) (x:=x) xex (by show xAC);show xfM
def vA (h:gj B x):ω x.size/\x.size≤18:=by
 cases x with
 |sg s=>show xar Tl (by show xnE (ω 18))
 |cp b z=>
  obtain⟨_,_,_,h1,h2⟩:xb6/\xoQ b/\xf3 b/\3≤z/\z≤18:=h;show xar (by show ω z;omega) h2
theorem GR.len:∀{P} {B:Id},GR B P->xs1 P.length≤xFY B P
 | [],B,_=>Tl
 |x::P,B,h=>by
  have h1:=GR.len (P:=P) (B:=app B x) xex;show xaD h2 (vA xbS) gn h1;show xs1 (xfU 1)≤xFY (app B x) P;omega
theorem sk:∀{P} {B},GR B P->Good (pP P)
 | [],_,_=>λ q hq=>by cases hq
 |x::P,B,h=>by
  have ih:=sk (P:=P) (B:=app B x) xex;intro q hq;rw [eK] at hq;show xbO hq hq hq
  ·cases x with
   |sg s=>
    have hs:xaq s:=xbS;simp [pcP] at hq;show xja hq
    ·decide
    ·exact hs
   |cp b z=>
    obtain⟨_,h2,_,h4,h5⟩:xb6/\xoQ b/\xf3 b/\3≤z/\z≤18:=xbS;simp [pcP] at hq;show xrw hq rfl rfl
    ·decide
    ·show b<2^8;exact Hl h2
    ·show z-3<2^4;omega
  ·exact ih q hq
def yo (x):xnI x=9\/xnI x=13:=by
 cases x with
 |sg s=>exact xbF
 |cp b z=>exact xsv
theorem mJ:∀P:xen,xvc P≤13*P.length
 | []=>Tl
 |x::P=>by
  rw [eK,aQ,EK];have:=mJ P;rcases yo x with h|h<;>lia
def Cw (hb:xdv S)(hp:xdX p):gj xvL xqj/\app xvL xqj=S.take (p+xCR):=by
 cases e:xqj with
 |sg s=>
  have h:=zq hp e;refine xbW (hb s (FG h));show xvL++[s]=S.take (p+1);rw [F1,h];rfl
 |cp b z=>
  obtain⟨h1,h2,h3,h4,h5,h6,h7,_⟩:=zY hp e;refine xbW ⟨h1,h3,by show xaF EH,h4,h5⟩;exact pI h1 h2 h6 h7 z Tl
theorem pS (hb:xdv S):∀{P} {p q},xiZ S P q->GR xvL P/\runP xvL P=S.take q
 | [],p,q,h=>by cases h;exact xck trivial
 |x::P,p,q,⟨h1,h2,h3⟩=>by
  subst h2;obtain⟨g,e⟩:=Cw hb h1;show xbD i1 i2 (pS hb h3) (xbW ⟨g,by show xdM i1⟩);show runP (app xvL xqj) P=_;show xdM i2
theorem et:∀{P P'} {p q},xiZ S P q->xiZ S P' q->P=P'
 | [],[],_,_,_,_=>rfl
 | [],x::P',p,q,h,h'=>by
  cases h;show xdA (c7 h') EK;lia
 |x::P,[],p,q,h,h'=>by
  cases h';show xdA (c7 h) EK;lia
 |x::P,x'::P',p,q,⟨_,h2,h3⟩,⟨_,Rk,Xa⟩=>by
  subst h2 Rk;rw [et h3 Xa]
def dC {P:xen}(hW:xdv W)(hT:xdv T)(h:xuC (W++T) P W T):GR W P/\runP W P=W++T/\xwd P.length:=by
 have hb:xdv (W++T):=λ b z=>by
  show xbO z z z
  ·exact hW b z
  ·exact hT b z
 obtain⟨h1,h2⟩:=pS hb h;rw [K2] at h1 h2;rw [Fy] at h2;show xnD (c7 h) Et ⟨h1,h2,Hn.mp this⟩
structure Wys (K:Frag)(mg:π):Prop where
 V:X2 K mg
 pieces:∃f fd,Zm K mg "pieces_of" iI Jae f fd
 needahead:UF "need_ahead" dJ xj9
 needsigns:UF "need_signs" gu Jae
universe K33
namespace SM
section
variable {α κ:Type}{blt:κ -> xuc}{kf:α -> κ}
structure Ord (blt:κ->xuc):Prop where
 irr:∀a,xnY a a
 tr:∀a b c,xqb a b->xqb b c->xqb a c
 neg:∀a b c,xqb a c->xqb a b\/xqb b c
 tot:∀a b,xnY a b->xnY b a->a=b
variable (O:Ord blt)
abbrev Le (blt:κ->xuc)(kf:α->κ)(x y:α):Prop:=xnY xqo xcT
abbrev Lt (blt:κ->xuc)(kf:α->κ)(x y:α):Prop:=xqb xcT xqo
include O
def le_of_lt {x y:α}(h:xui x y):xiJ x y:=by
 cases e:blt xqo xcT with
 |false=>exact e
 |true=>have:=O.tr _ _ _ h e;show ρ O.irr this this
def le_trans {x y z:α}(h1:xiJ x y)(h2:xiJ y z):xiJ x z:=by
 cases e:blt (kf z) xcT with
 |false=>exact e
 |true=>
  rcases O.neg _ xqo _ e with h|h
  ·show ρ (show xnY (kf z) xqo from h2) h h
  ·show ρ (show xnY xqo xcT from h1) h h
def de {x y z:α}(h1:xui x y)(h2:xiJ y z):xui x z:=by
 rcases O.neg _ (kf z) _ h1 with h|h
 ·exact h
 ·show ρ (show xnY (kf z) xqo from h2) h h
def fw {x y z:α}(h1:xiJ x y)(h2:xui y z):xui x z:=by
 rcases O.neg _ xcT _ h2 with h|h
 ·show ρ (show xnY xqo xcT from h1) h h
 ·exact h
omit O in
noncomputable def eqv (blt:κ->xuc) (kf:α->κ) (k:κ) (x:α):Bool:= ! blt xcT k&& ! blt k xcT
omit O in
def MZ {k:κ}{x:α}:xtr k x<->xnY xcT k/\xnY k xcT:=by unfold eqv;simp
omit O in
def L9 (blt:κ->xuc)(kf:α->κ)(xs ys:xbH):Prop:=∀k,xs.filter (xp8 k)=ys.filter (xp8 k)
omit O in
def L9.refl (xs:xbH):xFV xs:=xf2
omit O in
theorem L9.trans {xs ys zs:xbH}(h:xxL)(g:xf8 ys zs):xFV zs:=λ k=>(xjN).trans (g k)
omit O in
theorem L9.symm {xs ys:xbH}(h:xxL):xf8 ys xs:=λ k=>(xjN).symm
omit O in
def L9.app {xs ys us vs:xbH}(h:xxL)(g:xf8 us vs):xf8 (xs++us) (ys++vs):=λ k=>by rw [Fd,Fd,xjN,g k]
omit O in
def ML (O:Ord blt)(x:α):xtr xcT x:=by unfold eqv;simp [O.irr]
def L9.mem {xs ys:xbH}(h:xxL){x:α}(hx:x∈xs):x∈ys:=by
 have:x∈xs.filter (xp8 xcT):=Hu.mpr ⟨hx,ML O x⟩;show WF h this (Hu.mp this).1
def eh {X Y:xbH}(h:∀y∈Y,xgF X (xui y x)):xf8 (X++Y) (Y++X):=λ k=>by
 rw [Fd,Fd];by_cases hx:∃x∈X,xtr k x
 ·obtain⟨x,hx,ex⟩:=hx;have hy:Y.filter (xp8 k)=[]:=G5.mpr λ y hy ey=>by
   have l:=h y hy x hx;have ex:=MZ.mp ex;have ey:=MZ.mp ey;have:xqb xqo k\/xqb k xcT:=O.neg _ k _ l;show xcv this
   ·show ρ ey.1 z z
   ·show ρ ex.2 z z
  rw [hy,Fw,FJ]
 ·have hx':X.filter (xp8 k)=[]:=G5.mpr λ x hx' ex=>hx ⟨x,hx',ex⟩
  rw [hx',Fw,FJ]
theorem Px:∀{xs ys:xbH},xs.Pairwise xiJ->ys.Pairwise xiJ->xxL->xs=ys
 | [],[],_,_,_=>rfl
 | [],y::ys,_,_,h=>by have:=xwf h.symm (xz6 y (l:=ys));cases this
 |x::xs,[],_,_,h=>by have:=xwf h (xz6 x (l:=xs));cases this
 |x::xs,y::ys,hx,hy,h=>by
  have hxm:=xwf h (xz6 x (l:=xs));have hym:=xwf h.symm (xz6 y (l:=ys));have l1:xiJ x y:=by
   show xel hym z
   ·exact O.irr _
   ·exact xCq hx y z
  have l2:xiJ y x:=by
   show xel hxm z
   ·exact O.irr _
   ·exact xCq hy x z
  have ex:xtr xcT x:=ML O x;have ey:xtr xcT y:=MZ.mpr ⟨l1,l2⟩;have e:=h xcT;rw [E2 ex,E2 ey] at e;obtain⟨rfl,_⟩:=Hx e;have ht:xxL:=λ k=>by
   have e:=xjN;by_cases z:xtr k x
   ·rw [E2 z,E2 z] at e;exact(Hx e).2
   ·rw [Fc z,Fc z] at e;exact e
  rw [Px (xC2 hx) (xC2 hy) ht]
omit O in
structure Mg (blt:κ->xuc)(kf:α->κ)(all out A B:xbH):Prop where
 s1:xsp (xdN A)
 s2:xsp (xdN B)
 sq0:xf8 (xdN A++B) all
omit O in
def Mg.pushA {all out A B X:xbH}(h:xz7 kf all out (X++A) B)(hX:xgF X (∀y∈B,xiJ x y)):xz7 kf all (xdN X) A B:=by
 refine⟨by show LE Eu h.s1,?_,by show LE (Eu out) h.sq0⟩;rw [Eu,EN];have h1:=xyE;have h2:=xyF;refine⟨h1.1,?_,λ a ha b hb=>?_⟩
 ·show LE EN ⟨(EN.mp (Δ h1)).1,Δ h2,hX⟩
 ·show xbO hb z z
  ·exact xbI h1 a ha b (xld z)
  ·exact xbI h2 a ha b z
def Mg.pushB {all out A B Y:xbH}(h:xz7 kf all out A (Y++B))(hY:∀y∈Y,xgF A (xui y x)):xz7 kf all (xdN Y) A B:=by
 have h1:=xyE;have h2:=xyF;refine Ψ ?_ (by show LE Eu h.s2)
 ·rw [Eu,EN];refine⟨h1.1,?_,λ a ha b hb=>?_⟩
  ·show LE EN ⟨(EN.mp (Δ h2)).1,Δ h1,λ a ha b hb=>le_of_lt O (hY a ha b hb)⟩
  ·show xbO hb z z
   ·exact xbI h2 a ha b (xld z)
   ·exact xbI h1 a ha b z
 ·refine xBW h.sq0;have:xf8 (xdN (Y++A)++B) (xdN (A++Y)++B):=xKZ (L9.refl out|>.app (eh O hY).symm) B;rw [<-Eu,<-Eu] at this;show xaC (Eu (xdN A)) this
omit O in
def Mg.endA {all out A:xbH}(h:xz7 kf all out A []):xsp (xdN A)/\xf8 (xdN A) all:=⟨h.s1,by have:=h.sq0;rwa [Fw] at this⟩
omit O in
def Mg.endB {all out B:xbH}(h:xz7 kf all out [] B):xsp (xdN B)/\xf8 (xdN B) all:=⟨h.s2,by have:=h.sq0;rwa [Fw] at this⟩
omit O in
structure Mh (blt:κ->xuc)(kf:α->κ)(all A B out:xbH):Prop where
 s1:xsp (A++out)
 s2:xsp (B++out)
 sq0:xf8 (A++B++out) all
omit O in
def Mh.pushB {all A B out Y:xbH}(h:xz8 kf all A (B++Y) out)(hY:xgF A (∀y∈Y,xiJ x y)):xz8 kf all A B (Y++out):=by
 refine⟨?_,by show xaC Eu h.s2,by rw [<-Eu,Eu A];exact h.sq0⟩;have h1:=xyE;have h2:=xyF;show ST EN ⟨h1.1,?_,λ a ha b hb=>?_⟩
 ·show LE EN ⟨Δ (EN.mp h2.1),Δ h2,λ a ha b hb=>xbI h2 a (xnS ha) b hb⟩
 ·show xbO hb z z
  ·exact hY a ha b z
  ·exact xbI h1 a ha b z
def Mh.pushA {all A B out X:xbH}(h:xz8 kf all (A++X) B out)(hX:∀y∈B,xgF X (xui y x)):xz8 kf all A B (X++out):=by
 have h1:=xyE;have h2:=xyF;refine Ψ (by show xaC Eu h.s1) ?_
 ·show ST EN ⟨h2.1,?_,λ a ha b hb=>?_⟩
  ·show LE EN ⟨Δ (EN.mp h1.1),Δ h1,λ a ha b hb=>xbI h1 a (xnS ha) b hb⟩
  ·show xbO hb z z
   ·exact le_of_lt O (hX a ha b z)
   ·exact xbI h2 a ha b z
 ·refine xBW h.sq0;have:xf8 (A++(B++X)++out) (A++(X++B)++out):=xKZ (L9.refl A|>.app (eh O hX).symm) out;rw [<-Eu,<-Eu] at this;show xaC (Eu (A++B)) this
omit O in
def Mh.endA {all A out:xbH}(h:xz8 kf all A [] out):xsp (A++out)/\xf8 (A++out) all:=⟨h.s1,by have:=h.sq0;rwa [Fw] at this⟩
omit O in
def Mh.endB {all B out:xbH}(h:xz8 kf all [] B out):xsp (B++out)/\xf8 (B++out) all:=⟨h.s2,h.sq0⟩
universe s
universe SM
namespace SG
open PySem PyProof.Rows
noncomputable def gN:Bool->Keyed->Os->xi3 (xaX (xtw xiD)):=sortPriv%PySem.Builtin.gallop
def xN:Os->Os->xtw Os:=sortPriv%PySem.Builtin.mergeLo
def xO:Os->Os->xtw Os:=sortPriv%PySem.Builtin.mergeHi
noncomputable def kf (κ:KeyKind) (p:Keyed):κ.α:=(κ.keyOf xak).getD κ.dflt
def OG (κ:KeyKind)(p:Keyed):Prop:=∃a,NE (κ.keyOf xak) a
def ord (κ:KeyKind):SM.Ord κ.blt:=⟨κ.irrefl,κ.trans,κ.negTrans,κ.total⟩
def j9 (hO:κ.OneLt)(hk:xkX)(hx:xA2 x)(hy:xA2 y)(h:xqG (xiP x y)):
  xdq (lt' x y):=by
 obtain⟨a,ha⟩:=hx;obtain⟨b,hb⟩:=hy;rw [lt'_eq];show xoZ;rw [hk,keyLt'_oneType];show xaZ (wpS_lift (IZ (hO prog w A _ s xgt xhj a b ha hb xhA)));unfold kf at h;rw [ha,hb] at h;exact E7 h
def aT (hi:i<arr.size)(h:Q arr[i] sq0):xdq (elem' arr i):=by
 rw [elem'_eq,getElem?_pos arr i hi];exact E7 h
noncomputable def O7 (κ:KeyKind) (left:Bool) (key:Keyed) (arr:Os) (j:Nat):Bool:=xbZ left (κ.blt (xEj arr j) xv5) (! xLC (xEj arr j))
def d5 {κ:KeyKind}{arr:Os}{j:Nat}(h:j<arr.size):xEj arr j=xiz arr[j]:=by show xaP KK (getElem?_pos arr j h);rfl
noncomputable def BZ (left:Bool) (key:Keyed) (arr:Os) (j:Nat):xtw xFC:=elem' arr j>>= λ y=>xbZ left (lt' y key) (lt' key y>>= λ o=>pure (o.map λ c=> ! c))
def zn {prog:LI}{w:LJ}{A:LL}{E:Ρ}{s:LH}{κ:KeyKind}(hO:κ.OneLt){sq0:SortSt}{left:Bool}{key:Keyed}{arr:Os}{j:Nat}{Q:xFC->xfp}(hk:xkX)(hj:j<arr.size)(N7:xAg)(ha:xA2 arr[j])
  (h:xqG (xLz j)):xdq (BZ left key arr j):=by
 unfold BZ;unfold O7 at h;rw [d5 hj] at h;show xt3 hj ?_;cases left with
 |true=>
  simp only [if_true] at h ⊢;exact j9 hO hk ha N7 h
 |false=>
  simp only [Hg,JO] at h ⊢;exact wpS_bind (j9 hO hk N7 ha (E7 h))
def mid {l r:Nat}(h:l<r):l+(r-l)/2<r:=Gr (Nat.div_lt_self (IP h) (by decide))
def mz (h:l≤r)(k:r-l≤n-xHc n):l=r:=Fa h (xxX (Nat.le_zero.1 (xtt k (IU n))))
def dbl (a:Nat):a≤2*a:=Nat.le_mul_of_pos_left a (by decide)
def tj {prog:LI}{w:LJ}{A:LL}{E:Ρ}{s:LH}{sq0:SortSt}{n Mt hi:Nat}{c:xkt Nat}{f:xaX ((xGG×xet)->xtw (ForInStep (xGG×xet)))}{Q:(xGG×xet)->xfp}
  (h1:Mt≤hi) (h2:xbv hi) (mono:∀i j,i≤j->j<n->Pi (c j)->Pi (c i)) (O5:∀i,i<Mt->Pi (c i)) (Tv:∀i,hi≤i->i<n->τ (c i))
  (fd:∀x Mt hi,Mt≥hi->xCs (f x (xgq Mt hi)) (λ r st'=>st'=sq0/\r=.done (xgq Mt hi)))
  (fy:∀x Mt hi,Mt<hi->xbv hi->xCs (f x (xgq Mt hi)) (λ r st'=>st'=sq0/\r=xbZ (c (Mt+(hi-Mt)/2)) (.yield (xgq (Mt+(hi-Mt)/2+1) hi)) (.yield (xgq Mt (Mt+(hi-Mt)/2)))))
  (h:∀k,xbv k->(∀i,i<k->Pi (c i))->(∀i,k≤i->i<n->τ (c i))->Q (xgq k k) sq0):xdq (forIn [:n] (xgq Mt hi) f):=by
 refine xBH (λ x d st'=>st'=sq0/\∃Mt hi,d=xgq Mt hi/\Mt≤hi/\xbv hi/\hi-Mt≤n-x/\(∀i,i<Mt->Pi (c i))/\(∀i,hi≤i->i<n->τ (c i))) ?_ ?_ ⟨rfl,Mt,hi,rfl,h1,h2,Ew xmO h2,O5,Tv⟩
 ·rintro x d st' _ hx ⟨rfl,Mt,hi,rfl,h1,h2,h3,O5,Tv⟩;by_cases Ng:Mt≥hi
  ·refine HG (fd x Mt hi Ng) ?_;rintro r st' ⟨rfl,rfl⟩;show xbL Mt hi (Fa h1 Ng) (h Mt h2 O5 Tv)
  ·have hm:=mid (Je Ng);refine HG (fy x Mt hi (Je Ng) h2) ?_;rintro r st' ⟨rfl,rfl⟩;by_cases hc:Pi (c (Mt+(hi-Mt)/2))
   ·show xmt hc ⟨rfl,_,_,rfl,hm,h2,Ew (KL (HV xdk) _) (HC h3 1),λ i hi'=>mono i _ (Gi hi') (Ey hm h2) hc,Tv⟩
   ·show ST (EI hc) ⟨rfl,_,_,rfl,xdk,Ew (EZ hm) h2,Ew (HC (HD hm) _) (by show LE K1 (HC h3 1)),O5,Sc i h1 h2⟩;cases e:c i with
    |false=>rfl
    |true=>show xab (mono _ i h1 h2 e) hc
 ·rintro d st' ⟨rfl,Mt,hi,rfl,h1,h2,h3,O5,Tv⟩;show xbL Mt hi (mz h1 h3) (h Mt h2 O5 Tv)
def eQ {prog:LI}{w:LJ}{A:LL}{E:Ρ}{s:LH}{κ:KeyKind}(hO:κ.OneLt){left:Bool}{key:Keyed}{arr:Os}{base n hint:Nat}{sq0:SortSt}{Q:xiD->xfp}(hk:xkX)(hn:base+n≤arr.size)(hh:hint<n)(N7:xAg)
  (Mf:xiN p arr.toList p) (mono:∀i j,i≤j->j<n->xzX j->xzX i)
  (h:∀k,xbv k->(∀i,i<k->xzX i)->(∀i,k≤i->i<n->τ (xjc i))->xqG k):
  xdq (gN left key arr base n hint):=by
 have hB:∀(i:Nat) {Q':xFC->xfp},i<n->Q' (some (xjc i)) sq0->xCs (BZ left key arr (base+i)) Q':=λ i Q' hi hq=>
  zn hO hk (Ey (Ii hi _) hn) N7 (Mf _ Z6) hq
 show xsm (hB hint hh ?_);cases hr:xjc hint with
 |true=>
  rw [xag];show xk9 (λ x d st'=>st'=sq0/\∃la of,d=xgq la of/\la<of/\x<of/\hint+la<n/\xzX (hint+la)) (Q:=λ d st'=>st'=sq0/\∃la of,d=xgq la of/\la<of/\hint+la<n/\xzX (hint+la)/\(n-hint≤of\/(hint+of<n/\τ (xjc (hint+of))))) ?_ ⟨rfl,0,1,rfl,by show xGZ,by show xGZ,by assumption,hr⟩ ?_
  ·rintro x d st' _ hx ⟨rfl,la,of,rfl,h1,h2,h3,h4⟩;dsimp only;by_cases Ng:of≥n-hint
   ·show xmt Ng (E7 ⟨rfl,la,of,rfl,h1,h3,h4,.inl Ng⟩)
   ·rw [EI Ng];show xsm (hB (hint+of) (by exact Gr xDb) ?_);cases e:xjc (hint+of) with
    |false=>
     show xmt Z7 (E7 ⟨rfl,la,of,rfl,h1,h3,h4,xcz (by exact Gr xDb) e⟩)
    |true=>
     show xkF Z9 (E7 ⟨rfl,of,2*of+1,rfl,Hl xGP,Nat.succ_lt_succ (Ey h2 xGP),by exact Gr xDb,e⟩)
  ·rintro d st' ⟨rfl,la,of,rfl,h1,h2,h3,h4⟩;exact⟨rfl,la,of,rfl,h1,h3,h4,.inl (Ew xmO (EZ h2))⟩
  ·rintro d st' ⟨rfl,la,of,rfl,h1,h3,h4,h5⟩;dsimp only;show xaZ (tj (c:=λ i=>xjc i) (Ii (xJK ⟨h1,xEo h3⟩) _) (xtt (Jc (FX _ _) _) (xDF hh)) mono (λ i hi=>mono i _ (show i≤hint+la by exact Gi hi) h3 h4) (Sc i h6 h7) ?_ ?_ λ k h6 h7 h8=>?_)
   ·rcases h5 with z|⟨z,z2⟩
    ·rw [Ha z,xDF hh] at h6;show xab h7 (xFh h6)
    ·cases e:xjc i with
     |false=>rfl
     |true=>show ρ (mono _ i (by show WF (Fp (EZ (xEo z))) h6 h6) h7 e) z2 z2
   ·intro x Mt hi Ng;dsimp only;show xmt Ng xow
   ·intro x Mt hi LU hhn;dsimp only;rw [EI (by exact xMx)];show xsm (hB _ (Ey (mid LU) hhn) ?_)
    split
    ·exact xow
    ·exact xow
   ·exact E7 (xjN h6 h7 h8)
 |false=>
  rw [EI Z9];show xk9 (λ x d st'=>st'=sq0/\∃la of,d=xgq la of/\la<of/\x<of/\la≤hint/\τ (xjc (hint-la))) (Q:=λ d st'=>st'=sq0/\∃la of,d=xgq la of/\la<of/\la≤hint/\τ (xjc (hint-la))/\(hint+1≤of\/(of≤hint/\xzX (hint-of)))) ?_ ⟨rfl,0,1,rfl,by show xGZ,by show xGZ,by exact xac,hr⟩ ?_
  ·rintro x d st' _ hx ⟨rfl,la,of,rfl,h1,h2,h3,h4⟩;dsimp only;by_cases Ng:of≥hint+1
   ·show xmt Ng (E7 ⟨rfl,la,of,rfl,h1,h3,h4,.inl Ng⟩)
   ·rw [EI Ng];show xsm (hB (hint-of) (by exact Gk hh) ?_);cases e:xjc (hint-of) with
    |true=>
     show xmt Z7 (E7 ⟨rfl,la,of,rfl,h1,h3,h4,xcz (by exact FS Ng) e⟩)
    |false=>
     show xkF Z9 (E7 ⟨rfl,of,2*of+1,rfl,Hl xGP,Nat.succ_lt_succ (Ey h2 xGP),by exact FS Ng,e⟩)
  ·rintro d st' ⟨rfl,la,of,rfl,h1,h2,h3,h4⟩;exact⟨rfl,la,of,rfl,h1,h3,h4,.inl (by exact Ew hh (EZ h2))⟩
  ·rintro d st' ⟨rfl,la,of,rfl,h1,h3,h4,h5⟩;dsimp only;show xaZ (tj (c:=λ i=>xjc i) (xtt (KL (xJK ⟨h1,Hl h3⟩) _) (Nat.add_sub_add_right ..)) (Ew xmO (EZ hh)) mono (PP i hi) (Sc i h6 h7) ?_ ?_ λ k h6 h7 h8=>?_)
   ·rcases h5 with z|⟨z,z2⟩
    ·show xjV (Ha z) IU hi hi
    ·exact mono i _ (show i≤hint-of by rw [Fp (Nat.le_succ_of_le z),Lm z] at hi;exact Gi hi) (by exact Gk hh) z2
   ·cases e:xjc i with
    |false=>rfl
    |true=>show ρ (mono _ i (show hint-la≤i by assumption) h7 e) h4 h4
   ·intro x Mt hi Ng;dsimp only;show xmt Ng xow
   ·intro x Mt hi LU hhn;dsimp only;rw [EI (by exact xMx)];show xsm (hB _ (Ey (mid LU) hhn) ?_)
    split
    ·exact xow
    ·exact xow
   ·exact E7 (xjN h6 h7 h8)
universe SG
namespace SG
open PySem PyProof.Rows SM
abbrev Mr (κ:KeyKind):Keyed->Ο Keyed:=Le κ.blt xiz
abbrev Ou (κ:KeyKind):Keyed->Ο Keyed:=Lt κ.blt xiz
def cI (κ:KeyKind)(a b r:Os):Prop:=r.toList.Pairwise xbp/\xi6 r.toList (a.toList++b.toList)
def MA (κ:KeyKind)(a b out:Os)(ia ib:Nat):Prop:=Mg κ.blt xiz (a.toList++b.toList) out.toList xBa xx7
def MA.sa {κ:KeyKind}{a:Os}{b:Os}{out:Os}{ia ib:Nat}(h:xnc a b):xlN xBa:=Δ xyE
def MA.sb {κ:KeyKind}{a:Os}{b:Os}{out:Os}{ia ib:Nat}(h:xnc a b):xlN xx7:=Δ xyF
def fE {xs:Os}{i:Nat}(h:xg2 i):xnu=xs[i]::xFt i 1:=by
 have:xJS i:=by show xtC
 show Τ (Gb this)
def jj {κ:KeyKind}{xs:Os}{i:Nat}(h:xg2 i)(s:xlN xnu){y:Keyed}(hy:y∈xnu):xbp xs[i] y:=by
 rw [fE h] at s hy;show xel hy z
 ·exact xk0
 ·exact xCq s y z
def jX {xs:Os}{i k:Nat}:xx3 i (i+k)=xz4 xnu:=by
 rw [Kz,JE];congr 1;exact HQ _ _
def fK {xs:Os}{i:Nat}:xx3 i xs.size=xnu:=by
 rw [Kz,JE,EV Z6]
def kA {xs:Os}{i k:Nat}:xz4 xnu++xFt i k=xnu:=by
 rw [<-Gz,E9]
theorem MA.pushA {κ:KeyKind}{a:Os}{b:Os}{out:Os}{ia ib k:Nat}(h:xnc a b)(hX:xgF (xz4 xBa) (xmQ y xx7 x y)):xsA a b (xdN (xFu (ia+k))) (ia+k) ib:=by
 unfold MA at h ⊢;rw [Fl,jX];rw [<-kA (k:=k)] at h;exact Mg.pushA h hX
theorem MA.pushB {κ:KeyKind}{a:Os}{b:Os}{out:Os}{ia ib k:Nat}(h:xnc a b)(hY:∀y∈xz4 xx7,xh0 x xBa y x):xsA a b (xdN (xBz (ib+k))) ia (ib+k):=by
 unfold MA at h ⊢;rw [Fl,jX];rw [<-kA (xs:=b) (k:=k)] at h;exact Mg.pushB xcN h hY
def qj {out xs:Os}{i:Nat}(h:xg2 i):xzv xs i=xdN (xs.extract i (i+1)):=by
 apply Array.toList_inj.mp;rw [K9,Fl,jX,fE h];rfl
def MA.pushA1 {κ:KeyKind}{a:Os}{b:Os}{out:Os}{ia ib:Nat}(h:xnc a b)(UK:xkn ia)(Xy:xkJ ib)(hl:xbp a[ia] b[ib]):xsA a b (xzv a ia) (ia+1) ib:=by
 show ST (qj UK) (h.pushA λ x hx y hy=>?_)
 rw [fE UK] at hx;show xbL x a[ia] (by simpa using hx) (xfX hl (jj Xy h.sb hy))
def MA.pushB1 {κ:KeyKind}{a:Os}{b:Os}{out:Os}{ia ib:Nat}(h:xnc a b)(UK:xkn ia)(Xy:xkJ ib)(hl:xhF b[ib] a[ia]):xsA a b (xzv b ib) ia (ib+1):=by
 show ST (qj Xy) (h.pushB λ y hy x hx=>?_)
 rw [fE Xy] at hy;show xbL y b[ib] (by show xD0) (de xcN hl (jj UK h.sa hx))
def MA.doneB {κ:KeyKind}{a:Os}{b:Os}{out:Os}{ia ib:Nat}(h:xnc a b)(e:ib=b.size):xln (xdN (xFu a.size)++xBz b.size):=by
 unfold MA at h;have e0:xx7=[]:=Gu (by simp [e]);rw [e0] at h;unfold cI;rw [Fl,Fl,fK,fK,e0,Fw];exact h.endA
def MA.doneA {κ:KeyKind}{a:Os}{b:Os}{out:Os}{ia ib:Nat}(h:xnc a b)(e:ia=a.size):xln (xdN (xFu a.size)++xBz b.size):=by
 unfold MA at h;have e0:xBa=[]:=Gu (by simp [e]);rw [e0] at h;unfold cI;rw [Fl,Fl,fK,fK,e0,Fw];exact h.endB
def MA.last {κ:KeyKind}{a:Os}{b:Os}{out:Os}{ia ib:Nat}(h:xnc a b)(e:ia+1=a.size)(hl:∀y∈b.toList,xh0 x xMu y x):xln (xdN (xBz b.size)++xFu a.size):=by
 have h2:=h.pushB (k:=xxk ib) λ y hy x hx=>hl y (Ft (Fg hy)) x (by show LE (xaA xAx ia (Ik (Jz e))) hx)
 unfold MA at h2;have e0:b.toList.drop (ib+(xxk ib))=[]:=Gu (by simp;lia);rw [e0] at h2;have h3:=h2.endA;unfold cI;rw [Fl] at h3;rw [Fl,Fl,fK,fK];have e1:xmB (xBz (ib+(xxk ib))) xx7:=by rw [jX,EV Z6]
 show WF e1 h3 h3
structure NN (sq0 st':SortSt):Prop where
 k:kindOf st'=kindOf sq0
 a:xyw=xpC
 p:pendingOf st'=xvh
 f:failedOf st'=failedOf sq0
def NN.refl (sq0:SortSt):xD1 sq0:=xmy rfl rfl
def yy:xaX (xtw Unit):=sortPriv%PySem.Builtin.setMinGallop
def eJ {prog:LI}{w:LJ}{A:LL}{E:Ρ}{s:LH}{st0 sq0:SortSt}{g:Nat}{Q:Unit->xfp}(h0:NN st0 sq0)(h:∀st',NN st0 st'->xhi st'):xdq (yy g):=by
 refine wpS_modify (xcX ⟨h0.k,h0.a,h0.p,h0.f⟩)
def Ak {κ:KeyKind}{xs:Os}(h:xIH){i j:Nat}(YY:i≤j)(hj:xg2 j):τ (xnC j (xr9 i)):=by
 rw [d5 hj,d5 (Fh YY hj)];show xa3 i j z z
 ·exact xn5 h i j (by simp;exact Jq z hj) (by simpa using hj) z
 ·show xbL i j (Fa YY z) xk0
def sB {prog:LI}{w:LJ}{A:LL}{E:Ρ}{s:LH}{κ:KeyKind}(hO:κ.OneLt){sq0:SortSt}{key:Keyed}{xs:Os}{i n hint:Nat}{Q:xiD->xfp}(hk:xkX)(hs:xIH)(Mf:xGS p p)(N7:xAg)(hn:xwO (i+n))(hh:hint<n)
  (h:∀k,xbv k->(∀j,j<k->τ (xn9 (i+j)))->(∀j,k≤j->j<n->Pi (xn9 (i+j)))->xqG k):xdq (gN false key xs i n hint):=by
 have eb:∀j,O7 κ false key xs j= ! xn9 j:=λ j=>rfl
 refine eQ hO hk hn hh N7 Mf (λ p q Vw hq hb=>?_) λ k h1 h2 h3=>xjN h1 xuK (Sc j hj Qa)
 ·rw [eb] at hb ⊢;have MX:τ (xn9 (i+q)):=by show xl6
  have:=Ak hs (show i+p≤i+q from Hn.mpr Vw) (Ey (Ii hq _) hn);cases e:xn9 (i+p) with
  |false=>rfl
  |true=>
   show xcv (xFb _ (i+q) _ e)
   ·show ρ MX z z
   ·show ρ this z z
 ·show xdA (h2 j hj) eb;show xnL
 ·show xdA (h3 j hj Qa) eb;show xnL
def t5 {prog:LI}{w:LJ}{A:LL}{E:Ρ}{s:LH}{κ:KeyKind}(hO:κ.OneLt){sq0:SortSt}{key:Keyed}{xs:Os}{i n hint:Nat}{Q:xiD->xfp}(hk:xkX)(hs:xIH)(Mf:xGS p p)(N7:xAg)(hn:xwO (i+n))(hh:hint<n)
  (h:∀k,xbv k->(∀j,j<k->Pi (xnC (i+j) xv5))->(∀j,k≤j->j<n->τ (xnC (i+j) xv5))->xqG k):xdq (gN true key xs i n hint):=by
 have eb:∀j,O7 κ true key xs j=xnC j xv5:=λ j=>rfl
 refine eQ hO hk hn hh N7 Mf (λ p q Vw hq hb=>?_) λ k h1 h2 h3=>xjN h1 xuK (Sc j hj Qa)
 ·rw [eb] at hb ⊢;have:=Ak hs (show i+p≤i+q from Hn.mpr Vw) (Ey (Ii hq _) hn);show xcv (xFb _ (i+p) _ hb)
  ·show ρ this z z
  ·exact z
 ·exact h2 j hj
 ·exact h3 j hj Qa
def aL [xBV] {Q:α->xfp}(hc:c)(h:xtZ A E s m1 Q sq0):xtZ A E s (if c then m1 else m2) Q sq0:=by show xmt hc h
def aJ [xBV] {Q:α->xfp}(hc:¬c)(h:xtZ A E s m2 Q sq0):xtZ A E s (if c then m1 else m2) Q sq0:=by show xkF hc h
def c5 {M:Model}{A:LL}{E:Ρ}{s:LH}{α:Type}{c:Prop} [xBV] {m1 m2:xtw α}{Q:α->xfp}{sq0:SortSt}(h1:xtZ A E s m1 Q sq0)(h2:xtZ A E s m2 Q sq0):xtZ A E s (if c then m1 else m2) Q sq0:=by
 by_cases hc:c
 ·exact aL hc h1
 ·exact aJ hc h2
def nr {xs:Os}{i k:Nat}{x:Keyed}(h:x∈xz4 xnu):∃j,j<k/\∃hj:xg2 (i+j),x=xs[i+j]:=by
 obtain⟨j,hj⟩:=List.mem_iff_getElem?.mp h;rw [KS] at hj
 split at hj
 ·rename_i hjk
  rw [Ix] at hj;have LU:=xbX hj;refine⟨j,hjk,by simpa using LU,?_⟩;have:=(ED.mp hj).2;rw [<-this];rfl
 ·cases hj
def Zj (κ:KeyKind)(a b:Os)(st0:SortSt){β:Type}(low:Nat)(pr:Os->xi3 (Ο β))(c:xGF×β)(sq0:SortSt):Prop:=
 NN st0 sq0/\((∃r,NE xhX r/\xln r)\/∃out ia ib,xuf/\pr out ia ib xh6/\xnc a b/\xkn (ia+1)/\xkJ ib/\low≤ia+ib)
def LoP (κ:KeyKind)(a b:Os)(sq0:SortSt)(y:Nat){γ δ ε:Type}(r:ForInStep (xGF×Os×Nat×Nat×γ×δ×ε))(st':SortSt):Prop:=match r with
 | .done c'=>xxy a b sq0 (y+1+1) (λ out ia ib d=>∃g p q,d=(out,ia,ib,g,p,q)) c' st'
 | .yield c'=>xxy a b sq0 (y+1+1) (λ out ia ib d=>∃g p q,d=(out,ia,ib,g,p,q)) c' st'/\W1 c'.1
def pL {prog:LI}{w:LJ}{A:LL}{E:Ρ}{s:LH}{κ:KeyKind}{a:Os}{b:Os}(hO:κ.OneLt){sq0:SortSt}{Q:Os->xfp}(hk:xkX)(ha:xiN p a.toList p)(hb:xiN p b.toList p)(sa:xMr)(sb:xMs)
  (na:xkn 0) (nb:xkJ 0) (h0:xhF b[0] a[0]) (hl:∀y∈b.toList,xh0 x xMu y x) (h:∀r st',xD1 st'->xln r->Q r st'):
  xdq (xN a b):=by
 show xaZ xzo
 extract_lets total done lastOfA ia0 ib0
 show xt3 nb ?_
 extract_lets XJ
 have Yh:xsA a b XJ 0 1:=MA.pushB1 (out:=#[]) (ia:=0) (ib:=0) ⟨sa,sb,xgN⟩ na nb h0;by_cases e1:1=b.size
 ·refine xtv (by simpa [ib0] using e1) (xkv xyH (Yh.doneB e1))
 refine xiV (by simpa [ib0] using e1);by_cases e2:0+1=a.size
 ·refine xtv (by simpa [ia0] using e2) (xkv xyH (Yh.last e2 hl))
 refine xiV (by simpa [ia0] using e2);show xoZ
 extract_lets mg0
 show xk9 (λ y c st'=>xxy a b sq0 (y+1) (λ out ia ib d=>∃mg,d=(out,ia,ib,mg)) c st'/\xuf) (Q:=λ c st'=>xD1 st'/\∃r,NE xhX r/\xln r) ?_ (xvy xyH ⟨XJ,0,1,rfl,xa4,Yh,FM na e2,Z5,Z5⟩) ?_
 rotate_left
 ·rintro c st' ⟨⟨_,⟨r,e,_⟩|⟨out,ia,ib,_,_,_,q1,q2,q3⟩⟩,en⟩
  ·show xo1
  ·exfalso;have:xHq=xxl:=by simp [total]
   lia
 ·rintro⟨c1,c2⟩ st' ⟨Nd,r,e,hW⟩;show xy6 e e;exact E7 (h r st' Nd hW)
 rintro y c Td _ hy ⟨⟨Zv,⟨r,e,_⟩|⟨Zs,ia1,ib1,_,⟨mg1,e2⟩,hM1,q1,q2,q3⟩⟩,en⟩
 ·show xo1
 show xyv c1 c2 c en e2;subst en e2;show xk9 (λ x c st'=>xxy a b sq0 (y+1+x) (λ out ia ib d=>∃p q,d=(out,ia,ib,p,q)) c st'/\xuf) (Q:=λ c st'=>xxy a b sq0 (y+1+1) (λ out ia ib d=>∃p q,d=(out,ia,ib,p,q)) c st') ?_ (xvy Zv ⟨Zs,ia1,ib1,rfl,xpj,hM1,q1,q2,q3⟩) ?_
 ·rintro x c OC _ hx ⟨⟨M5,⟨r,e,_⟩|⟨VX,W5,X',_,⟨p2,r2,e2⟩,VH,t1,t2,t3⟩⟩,en⟩
  ·show xo1
  show xyv c1 c2 c en e2;subst en e2;show xt3 t2 (xBK (xxe W5 xwV) (wpS_bind (j9 hO (M5.k.trans hk) xHR (ha _ Z6) ?_)));cases e:xiP b[X'] a[W5] with
  |true=>
   have SR:=VH.pushB1 Z4 t2 e;refine aL rfl (xBK t2 ?_);by_cases hz:X'+1=b.size
   ·refine xBD hz M5 (SR.doneB hz)
   ·refine aJ xmr (xAI M5 ⟨_,W5,X'+1,rfl,xpj,SR, xej,xuG t2,Z5⟩ (xtF M5 ⟨_,W5,X'+1,rfl,xpj,SR,F2 t1,xuG t2,HV t3⟩))
  |false=>
   have SR:=VH.pushA1 Z4 t2 e;refine xue (xBK (xxe W5 Z4) ?_);by_cases hz:W5+1+1=a.size
   ·refine xBD hz M5 (SR.last hz hl)
   ·refine aJ xmr (xAI M5 ⟨_,W5+1,X',rfl,xpj,SR,xuG t1, xej,Z5⟩ (xtF M5 ⟨_,W5+1,X',rfl,xpj,SR,xuG t1,F2 t2,Z5⟩))
 ·rintro c st' ⟨⟨_,⟨r,e,_⟩|⟨out,ia,ib,_,_,_,t1,t2,t3⟩⟩,en⟩
  ·show xo1
  ·exfalso;have:xHq=xxl:=by simp [total]
   lia
 rintro⟨c1,c2⟩ OC ⟨M5,⟨r,e,hW⟩|⟨VX,W5,X',e,⟨p2,r2,e2⟩,VH,t1,t2,t3⟩⟩
 ·show xy6 e e;exact E7 (xef M5 r hW)
 dsimp only at e e2;subst e e2;show xaZ xzo;show xk9 (λ x c st'=>xxy a b sq0 (y+1+1) (λ out ia ib d=>∃g p q,d=(out,ia,ib,g,p,q)) c st'/\xuf) (Q:=λ c st'=>xxy a b sq0 (y+1+1) (λ out ia ib d=>∃g p q,d=(out,ia,ib,g,p,q)) c st') ?_ (xvy M5 ⟨VX,W5,X',rfl,xuy _ _,VH,t1,t2,t3⟩) ?_
 ·clear VH t1 t2 t3 hM1 q1 q2 q3;rintro x c MW _ hx ⟨⟨QV,⟨r,e,_⟩|⟨SW,Ve,Vd,_,⟨g3,p3,r3,e2⟩,VG,t1,t2,t3⟩⟩,en⟩
  ·show xo1
  show xyv c1 c2 c en e2;subst en e2
  extract_lets v1 v2 v3 v4 v5 v6 v7 v8 v9 v10 v11 v12 jp
  have VB:∀g,xlo (jp () g) (LoP κ a b sq0 y) MW:=by
   intro g;show xaZ (eJ QV λ NJ MT=>xBK t2 (wpS_bind (sB hO xEV sa ha xHR (EL (xDF xwV)) (show 0<a.size-Ve from Nat.zero_lt_sub_of_lt (EZ t1)) λ k f1 f2 f3=>?_)));have f1':k≤a.size-Ve:=f1;show xzM hM4 (xsA a b (SW++a.extract Ve (Ve+k)) (Ve+k) Vd) (VG.pushA λ x hx y hy=>by
    show xuv j hj Qa (nr hx);show xnD (f2 j hj) (d5 Qa) (xfX this (jj t2 VG.sb hy)))
   extract_lets u1 Xp
   have Rq:∀out ia,xsA a b out ia Vd->∀UK:xkn (ia+1),xhF b[Vd] a[ia]->y+1+1≤ia+Vd->xlo (Xp () out ia) (LoP κ a b sq0 y) NJ:=by
    intro out ia hM UK LU QX;show xt3 t2 ?_;have XA:=hM.pushB1 xD2 t2 LU;by_cases hz:Vd+1=b.size
    ·refine xpv hz (XA.doneB hz)
    refine xiV xmr;have t2':=xuG t2;show xt3 (xxe ia xD2) (wpS_bind (t5 hO xEV sb hb (ha _ Z6) (EL (FE t2)) (IP t2') λ k2 d1 d2 d3=>?_));show xzM d1' (k2≤xxk (Vd+1)) d1
    extract_lets w1 w2 X9
    have Rp:∀out ib,xnc a b->∀Xy:xkJ ib,xbp a[ia] b[ib]->y+1+1≤ia+ib->xlo (X9 () out ib) (LoP κ a b sq0 y) NJ:=by
     intro out ib hM Xy hle QX;show xt3 (xxe ia xD2) ?_;have Y9:=hM.pushA1 xD2 Xy hle;have hw:=Ew QX (FY (HL ia) ib);by_cases hz:ia+1+1=a.size
     ·refine xpv hz (Y9.last hz hl)
     refine aJ xmr (xAI MT ⟨_,ia+1,ib,rfl,xuy _ _,Y9,xuG UK,Xy,hw⟩ (xtF MT ⟨_,ia+1,ib,rfl,xuy _ _,Y9,xuG UK,Xy,hw⟩))
    clear_value X9
    by_cases OV:k2>0
    ·refine aL OV ?_;have hM7:=XA.pushB (k:=k2) λ y hy x hx=>by
      show xuv j hj Qa (nr hy);show xnD (d2 j hj) (d5 Qa) (de xcN this (jj (xxe ia xD2) XA.sa hx))
     by_cases Q5:Vd+1+k2=b.size
     ·refine xpv Q5 (hM7.doneB Q5)
     ·have O6:=FM (Kp t2 d1') Q5;refine aJ (No (Q5 xpF)) (Rp _ (Vd+1+k2) hM7 O6 ?_ (Ew QX (Jc (Ew xky xdk) _)));show xg4 (d3 k2 Tl (xEo O6)) (d5 O6)
    ·refine aJ OV (Rp _ (Vd+1) XA t2' ?_ (Ew QX (Jc xky _)));show xg4 (d3 0 (FS OV) (IP t2')) (d5 (show xkJ (Vd+1+0) from t2'))
   clear_value Xp
   by_cases OV:k>0
   ·refine aL OV ?_;by_cases hz:Ve+k+1=a.size
    ·refine xpv hz (hM4.last hz hl)
    refine xiV xmr;by_cases Q5:Ve+k=a.size
    ·refine xpv Q5 (hM4.doneA Q5)
    ·have Q2:=FM (Kp (EZ xwV) f1') Q5;refine aJ (No (Q5 xpF)) (Rq _ (Ve+k) hM4 (xuG Q2) ?_ (Ew t3 (FY xdk _)));show xg4 (f3 k Tl (xEo Q2)) (d5 Q2)
   ·refine aJ OV (Rq _ Ve VG t1 ?_ t3);show xg4 (f3 0 (FS OV) (IP xwV)) (d5 (xxe (Ve+0) xwV))
  clear_value jp
  exact c5 (HG (VB _) λ r st' q=>by cases r<;>exact q) (HG (VB _) λ r st' q=>by cases r<;>exact q)
 ·rintro c st' ⟨q,_⟩;exact q
 rintro⟨c1,c2⟩ MW ⟨QV,⟨r,e,hW⟩|⟨SW,Ve,Vd,e,⟨g3,p3,r3,e2⟩,VG,u1,u2,u3⟩⟩
 ·show xy6 e e;exact E7 (xef QV r hW)
 dsimp only at e e2;subst e e2;exact wpS_bind (eJ QV λ NJ MT=>xtF MT ⟨SW,Ve,Vd,rfl,xa4,VG,u1,u2,u3⟩)
def MH (κ:KeyKind)(a b out:Os)(na nb:Nat):Prop:=Mh κ.blt xiz (a.toList++b.toList) xIS xIT out.toList.reverse
def MH.sa {κ:KeyKind}{a:Os}{b:Os}{out:Os}{na nb:Nat}(h:xxO):xlN xIS:=xyE.1
def MH.sb {κ:KeyKind}{a:Os}{b:Os}{out:Os}{na nb:Nat}(h:xxO):xlN xIT:=xyF.1
def si {xs:Os}{i:Nat}(h:xg2 i):xBj i 1=xs.toList.take i++[xs[i]]:=by
 have h':xJS i:=by show xtC
 rw [F1,Ex h'];rfl
def iZ {κ:KeyKind}{xs:Os}{i:Nat}(h:xg2 i)(s:xlN (xBj i 1)){y:Keyed}(hy:y∈xBj i 1):xbp y xs[i]:=by
 rw [si h] at s hy;show xbO hy z z
 ·exact xbI (EN.mp s) y z _ Z6
 ·show xbL y xs[i] (by show xtD) xk0
def du {xs:Os}{i n:Nat}(h:xbv i):xx3 i n=xgn xnu n i:=by
 rw [Kz,JE]
def oN {xs:Os}{i n:Nat}(h:xbv i):xs.toList.take i++xx3 i n=xs.toList.take n:=by
 rw [du h];have:n=i+(n-i):=Ik (FE h);rw(config:={occs:=.pos [2]}) [this];rw [Ld]
def ja {xs:Os}{i n:Nat}{x:Keyed}(hin:xbv i)(hn:xwO n)(h:x∈xx3 i n):∃j,i≤j/\∃hj:j<n,x=xs[j]:=by
 rw [du hin] at h;show xuv j hj Qa (nr h);show xav (i+j) xdk (Gr hj) rfl
theorem MH.pushA {κ:KeyKind}{a:Os}{b:Os}{out:Os}{na nb at':Nat}(h:xxO)(hat:at'≤na)(hX:∀y∈xIT,xh0 x (xB2 at').toList y x):xta b (xdN (xB2 at').reverse) at' nb:=by
 unfold MH at h ⊢;rw [<-oN hat] at h;rw [Fl,Il,HE,Hf];exact Mh.pushA xcN h hX
theorem MH.pushB {κ:KeyKind}{a:Os}{b:Os}{out:Os}{na nb at':Nat}(h:xxO)(hat:at'≤nb)(hY:xgF xIS (xmQ y (xB3 at').toList x y)):xta b (xdN (xB3 at').reverse) na at':=by
 unfold MH at h ⊢;rw [<-oN (xs:=b) hat] at h;rw [Fl,Il,HE,Hf];exact Mh.pushB h hY
def p8 {out xs:Os}{i:Nat}(h:xg2 i):xzv xs i=xdN (xs.extract i (i+1)).reverse:=by
 apply Array.toList_inj.mp;rw [K9,Fl,HE,jX,fE h];rfl
def MH.pushA1 {κ:KeyKind}{a:Os}{b:Os}{out:Os}{i j:Nat}(h:xzW (i+1) (j+1))(hi:xkn i)(hj:xkJ j)(hl:xhF b[j] a[i]):xta b (xzv a i) i (j+1):=by
 show ST (p8 hi) (h.pushA Z5 λ y hy x hx=>?_)
 show xuv q q1 q2 (ja xAh xej hx);show xbL q i (Nat.eq_of_le_of_lt_succ q1 q2) (fw xcN (iZ hj h.sb hy) hl)
def MH.pushB1 {κ:KeyKind}{a:Os}{b:Os}{out:Os}{i j:Nat}(h:xzW (i+1) (j+1))(hi:xkn i)(hj:xkJ j)(hl:xbp a[i] b[j]):xta b (xzv b j) (i+1) j:=by
 show ST (p8 hj) (h.pushB xAh λ x hx y hy=>?_)
 show xuv q q1 q2 (ja xAh xej hy);show xbL q j Z5 (xfX (iZ hi h.sa hx) hl)
def MH.doneA {κ:KeyKind}{a:Os}{b:Os}{out:Os}{na nb:Nat}(h:xxO)(e:na=0):xln (xB2 0++xB3 0++out.reverse):=by
 subst e;unfold MH at h;rw [IE] at h;unfold cI;rw [Fl,Fl,HE,du xac,du xac,Hm,Hm,IT,IT,IE,FJ];exact h.endB
def MH.doneB {κ:KeyKind}{a:Os}{b:Os}{out:Os}{na nb:Nat}(h:xxO)(e:nb=0):xln (xB2 0++xB3 0++out.reverse):=by
 subst e;unfold MH at h;rw [IE] at h;unfold cI;rw [Fl,Fl,HE,du xac,du xac,Hm,Hm,IT,IT,IE,Fw];exact h.endA
def MH.first {κ:KeyKind}{a:Os}{b:Os}{out:Os}{na nb:Nat}(h:xxO)(e:nb=1)(hf:∀y∈b.toList.take 1,xh0 x a.toList y x):xln (xB3 0++xB2 0++out.reverse):=by
 subst e;have h2:=h.pushA (at':=0) xac λ y hy x hx=>hf y hy x (by rw [du xac,Hm] at hx;exact xDo)
 unfold MH at h2;rw [IE,Fl,Il,HE,Hf] at h2;have h3:=h2.endB;unfold cI;rw [Fl,Fl,HE,Eu];rw [du (xs:=b) xac,Hm,IT];exact h3
def Zl (κ:KeyKind)(a b:Os)(st0:SortSt){β:Type}(low:Nat)(pr:Os->xi3 (Ο β))(c:xGF×β)(sq0:SortSt):Prop:=
 NN st0 sq0/\((∃r,NE xhX r/\xln r)\/∃out i j,xuf/\pr out (i+1) (j+1) xh6/\xzW (i+1) (j+1)/\xkn i/\xkJ j/\0<j/\i+1+(j+1)+low≤xxl)
def HiP (κ:KeyKind)(a b:Os)(sq0:SortSt)(y:Nat){γ δ ε:Type}(r:ForInStep (xGF×Nat×Nat×Os×γ×δ×ε))(st':SortSt):Prop:=match r with
 | .done c'=>xxz a b sq0 (y+1+1) (λ out ia ib d=>∃g p q,d=(ia,ib,out,g,p,q)) c' st'
 | .yield c'=>xxz a b sq0 (y+1+1) (λ out ia ib d=>∃g p q,d=(ia,ib,out,g,p,q)) c' st'/\W1 c'.1
def oX {prog:LI}{w:LJ}{A:LL}{E:Ρ}{s:LH}{κ:KeyKind}{a:Os}{b:Os}(hO:κ.OneLt){sq0:SortSt}{Q:Os->xfp}(hk:xkX)(ha:xiN p a.toList p)(hb:xiN p b.toList p)(sa:xMr)(sb:xMs)
  (na:xkn 0) (nb:xkJ 0) (hf:∀y∈b.toList.take 1,xh0 x a.toList y x) (hl:xhF b[xxk 1] a[xAx]) (h:∀r st',xD1 st'->xln r->Q r st'):
  xdq (xO a b):=by
 obtain⟨ma,Xw⟩:∃ma,a.size=ma+1:=⟨xAx,xHZ na rfl⟩;obtain⟨mb,hmb⟩:∃mb,b.size=mb+1:=⟨xxk 1,Z5⟩;have LU:xhF (b[mb]'(xKe)) (a[ma]'(xF2)):=by
  have e1:xxk 1=mb:=Ik (Jz hmb.symm);have e2:xAx=ma:=Ik (Jz Xw.symm);simp only [e1,e2] at hl;exact hl
 have hM00:xta b #[] (ma+1) (mb+1):=by
  unfold MH;have e1:a.toList.take (ma+1)=a.toList:=EV (by simp;exact EL Xw);have e2:b.toList.take (mb+1)=b.toList:=EV (by simp;exact EL hmb);rw [e1,e2];exact⟨by simpa using sa,by simpa using sb,by simpa using xgN⟩
 have Yh:xta b #[a[ma]'(xF2)] ma (mb+1):=hM00.pushA1 xF2 xKe LU;show xaZ xzo
 extract_lets total done firstOfB na0 nb0
 have ena:na0=ma:=by show xAx=ma;exact Ik (Jz Xw.symm)
 have enb:nb0=mb+1:=hmb
 clear_value na0 nb0
 subst ena enb;show xt3 (xxe na0 xF2) ?_
 extract_lets XJ
 by_cases e1:na0=0
 ·refine xAZ e1 (xkv xyH (Yh.doneA e1))
 refine xzV (e1 xpF);by_cases e2:mb+1=1
 ·refine xAZ e2 (xkv xyH (Yh.first e2 hf))
 refine xzV (e2 xpF);show xfP i0 i0 (na0=i0+1) ⟨na0-1,xDG e1⟩;show xoZ
 extract_lets mg0
 show xk9 (λ y c st'=>xxz a b sq0 (y+1) (λ out ia ib d=>∃mg,d=(ia,ib,out,mg)) c st'/\xuf) (Q:=λ c st'=>xD1 st'/\∃r,NE xhX r/\xln r) ?_ (xvy xyH ⟨XJ,i0,mb,rfl,xa4,Yh,Z5,xKe,Z5,Z5⟩) ?_
 rotate_left
 ·rintro c st' ⟨⟨_,⟨r,e,_⟩|⟨out,i,j,_,_,_,q1,q2,q3,q4⟩⟩,en⟩
  ·show xo1
  ·exfalso;have:xHq=xxl:=by simp [total]
   lia
 ·rintro⟨c1,c2⟩ st' ⟨Nd,r,e,hW⟩;show xy6 e e;exact E7 (h r st' Nd hW)
 clear Yh hM00;rintro y c Td _ hy ⟨⟨Zv,⟨r,e,_⟩|⟨Zs,i1,j1,_,⟨mg1,e2⟩,hM1,q1,q2,q3,q4⟩⟩,en⟩
 ·show xo1
 show xyv c1 c2 c en e2;subst en e2;show xk9 (λ x c st'=>xxz a b sq0 (y+1+x) (λ out ia ib d=>∃p q,d=(ia,ib,out,p,q)) c st'/\xuf) (Q:=λ c st'=>xxz a b sq0 (y+1+1) (λ out ia ib d=>∃p q,d=(ia,ib,out,p,q)) c st') ?_ (xvy Zv ⟨Zs,i1,j1,rfl,xpj,hM1,q1,q2,q3,q4⟩) ?_
 ·rintro x c OC _ hx ⟨⟨M5,⟨r,e,_⟩|⟨VX,i2,j2,_,⟨p2,r2,e2⟩,VH,t1,t2,t3,t4⟩⟩,en⟩
  ·show xo1
  show xyv c1 c2 c en e2;subst en e2;show xaZ (xGJ j2 t2 (xGJ i2 t1 (j9 hO (M5.k.trans hk) xHR (ha _ Z6) ?_)));cases e:xiP b[j2] a[i2] with
  |true=>
   have SR:=VH.pushA1 t1 t2 e;refine xF3 rfl (xwj i2 t1 ?_);by_cases hz:i2=0
   ·refine xBD hz M5 (SR.doneA hz)
   ·show xfP i3 i3 (i2=i3+1) ⟨i2-1,xDG hz⟩;refine aJ xmr (xAI M5 ⟨_,i3,j2,rfl,xpj,SR,xwV, xej, xej,Z5⟩ (xtF M5 ⟨_,i3,j2,rfl,xpj,SR,xwV,Z5,Nat.zero_lt_of_lt t3,Z5⟩))
  |false=>
   have SR:=VH.pushB1 t1 t2 e;refine xue (wpS_bind (xwj j2 t2 ?_));by_cases hz:j2=1
   ·refine xBD hz M5 (SR.first hz hf)
   ·show xfP j3 j3 (j2=j3+1) ⟨j2-1,xHZ t3 rfl⟩;refine aJ xmr (xAI M5 ⟨_,i2,j3,rfl,xpj,SR, xej,FR t2,Z5,Z5⟩ (xtF M5 ⟨_,i2,j3,rfl,xpj,SR,Z5,FR t2,Z4,Z5⟩))
 ·rintro c st' ⟨⟨_,⟨r,e,_⟩|⟨out,i,j,_,_,_,t1,t2,t3,t4⟩⟩,en⟩
  ·show xo1
  ·exfalso;have:xHq=xxl:=by simp [total]
   lia
 rintro⟨c1,c2⟩ OC ⟨M5,⟨r,e,hW⟩|⟨VX,i2,j2,e,⟨p2,r2,e2⟩,VH,t1,t2,t3,t4⟩⟩
 ·show xy6 e e;exact E7 (xef M5 r hW)
 dsimp only at e e2;subst e e2;show xaZ xzo;show xk9 (λ x c st'=>xxz a b sq0 (y+1+1) (λ out ia ib d=>∃g p q,d=(ia,ib,out,g,p,q)) c st'/\xuf) (Q:=λ c st'=>xxz a b sq0 (y+1+1) (λ out ia ib d=>∃g p q,d=(ia,ib,out,g,p,q)) c st') ?_ (xvy M5 ⟨VX,i2,j2,rfl,xuy _ _,VH,t1,t2,t3,t4⟩) ?_
 ·clear VH t1 t2 t3 t4 hM1 q1 q2 q3 q4;rintro x c MW _ hx ⟨⟨QV,⟨r,e,_⟩|⟨SW,i3,j3,_,⟨g3,p3,r3,e2⟩,VG,t1,t2,t3,t4⟩⟩,en⟩
  ·show xo1
  show xyv c1 c2 c en e2;subst en e2
  extract_lets v1 v2 v3 v4 v5 v6 v7 v8 v9 v10 v11 v12 jp
  have VB:∀g,xlo (jp () g) (HiP κ a b sq0 y) MW:=by
   intro g;show xaZ (eJ QV λ NJ MT=>wpS_bind (xGJ j3 t2 (sB (i:=0) (n:=i3+1) (hint:=i3) hO xEV sa ha xHR (xhH (F6 _) t1) (Kf _) λ k f1 f2 f3=>?_)));show xzM hM4 (xta b (SW++(a.extract k (i3+1)).reverse) k (j3+1)) (VG.pushA f1 λ y hy x hx=>by
    show xuv q q1 q2 (ja f1 xej hx);show xdF (f3 q q1 xej) F6 (d5 (Ey q2 t1));exact fw xcN (iZ t2 VG.sb hy) this)
   extract_lets u1 u2 Xp
   have Rq:∀out i,xzW (i+1) (j3+1)->∀hi:xkn i,xbp a[i] b[j3]->i+1+(j3+1)+(y+1+1)≤xxl->xlo (Xp () (i+1) out) (HiP κ a b sq0 y) NJ:=by
    intro out i hM hi hle QX;show xaZ (xwj j3 t2 ?_);have XA:=hM.pushB1 hi t2 hle;by_cases hz:j3=1
    ·refine xpv hz (XA.first hz hf)
    refine xiV xmr;show xfP j4 j4 (j3=j4+1) ⟨j3-1,xHZ t3 rfl⟩;show xaZ (xGJ i hi (t5 (i:=0) (n:=j4+1) (hint:=j4) hO xEV sb hb (ha _ Z6) (xhH (F6 _) (EZ t2)) (Kf _) λ k2 d1 d2 d3=>?_));dsimp-zeta only
    extract_lets w1 w2 w3 X9
    have Rp:∀out j,xzW (i+1) (j+1)->∀hj:xkJ j,0<j->xhF b[j] a[i]->i+1+(j+1)+(y+1+1)≤xxl->xlo (X9 () (j+1) out) (HiP κ a b sq0 y) NJ:=by
     intro out j hM hj hj0 LU QX;show xaZ (xwj i hi ?_);have Y9:=hM.pushA1 hi hj LU;by_cases hz:i=0
     ·refine xpv hz (Y9.doneA hz)
     show xfP i5 i5 (i=i5+1) ⟨i-1,xDG hz⟩;have hw:=Ew (FY (FY xky _) _) QX;refine aJ xmr (xAI MT ⟨_,i5,j,rfl,xuy _ _,Y9,FR hi,hj,hj0,hw⟩ (xtF MT ⟨_,i5,j,rfl,xuy _ _,Y9,FR hi,hj,hj0,hw⟩))
    clear_value X9
    have OH:∀q,q+1=k2->∀hq:xkJ q,xhF b[q] a[i]:=λ q hq Ql=>by
     show xdF (d2 q (xvE hq)) F6 (d5 Ql);show xfM
    by_cases OV:j4+1-k2>0
    ·refine aL OV ?_;have hM7:=XA.pushB (at':=k2) d1 λ x hx y hy=>by
      show xuv q q1 q2 (ja d1 (EZ t2) hy);show xdF (d3 q q1 q2) F6 (d5 (Jq q2 t2));exact xfX (iZ hi XA.sa hx) this
     by_cases Q5:k2=1
     ·refine xpv Q5 (hM7.first Q5 hf)
     refine xzV (Q5 xpF);by_cases YQ:k2=0
     ·refine xpv YQ (hM7.doneB YQ)
     refine xzV (YQ xpF);show xfP k3 k3 (k2=k3+1) ⟨k2-1,xDG YQ⟩;exact Rp _ k3 hM7 (Jq d1 t2) (JS (No (Q5 (xBb z)))) (OH k3 rfl _) (Ew (FY (Jc (Nat.le_succ_of_le d1) _) _) QX)
    ·refine xiV OV;exact Rp _ j4 XA (FR t2) (JS (No (hz (xBb z)))) (OH j4 (Fa (xxX (Jj OV)) d1) _) (Ew (FY (Jc xky _) _) QX)
   clear_value Xp
   have OH:∀q,q+1=k->∀hq:xkn q,xbp a[q] b[j3]:=λ q hq Ql=>by
    show xdF (f2 q (xvE hq)) F6 (d5 Ql);show xfM
   by_cases OV:i3+1-k>0
   ·refine aL OV ?_;by_cases hz:k=0
    ·refine xpv hz (hM4.doneA hz)
    refine xiV xmr;show xfP k3 k3 (k=k3+1) ⟨k-1,xDG hz⟩;exact Rq _ k3 hM4 (Ey f1 t1) (OH k3 rfl _) (Ew (FY (FY f1 _) _) t4)
   ·refine xiV OV;exact Rq _ i3 VG t1 (OH i3 (Fa (xxX (Jj OV)) f1) _) t4
  clear_value jp
  exact c5 (HG (VB _) λ r st' q=>by cases r<;>exact q) (HG (VB _) λ r st' q=>by cases r<;>exact q)
 ·rintro c st' ⟨q,_⟩;exact q
 rintro⟨c1,c2⟩ MW ⟨QV,⟨r,e,hW⟩|⟨SW,i3,j3,e,⟨g3,p3,r3,e2⟩,VG,u1,u2,u3,u4⟩⟩
 ·show xy6 e e;exact E7 (xef QV r hW)
 dsimp only at e e2;subst e e2;exact wpS_bind (eJ QV λ NJ MT=>xtF MT ⟨SW,i3,j3,rfl,xa4,VG,u1,u2,u3,u4⟩)
def xo {prog:LI}{w:LJ}{A:LL}{E:Ρ}{s:LH}{κ:KeyKind}(hO:κ.OneLt){sq0:SortSt}{key:Keyed}{xs:Os}{i n hint:Nat}{Q:xiD->xfp}(hk:xkX)(hs:∀p q,p≤q->q<n->τ (xnC (i+q) (xr9 (i+p))))(Mf:xGS p p)(N7:xAg)(hn:xwO (i+n))(hh:hint<n)
  (h:∀k,xbv k->(∀j,j<k->τ (xn9 (i+j)))->(∀j,k≤j->j<n->Pi (xn9 (i+j)))->xqG k):xdq (gN false key xs i n hint):=by
 have eb:∀j,O7 κ false key xs j= ! xn9 j:=λ j=>rfl
 refine eQ hO hk hn hh N7 Mf (λ p q Vw hq hb=>?_) λ k h1 h2 h3=>xjN h1 xuK (Sc j hj Qa)
 ·rw [eb] at hb ⊢;have MX:τ (xn9 (i+q)):=by show xl6
  have:=hs p q Vw hq;cases e:xn9 (i+p) with
  |false=>rfl
  |true=>
   show xcv (xFb _ (i+q) _ e)
   ·show ρ MX z z
   ·show ρ this z z
 ·show xdA (h2 j hj) eb;show xnL
 ·show xdA (h3 j hj Qa) eb;show xnL
def wF {prog:LI}{w:LJ}{A:LL}{E:Ρ}{s:LH}{κ:KeyKind}(hO:κ.OneLt){sq0:SortSt}{key:Keyed}{xs:Os}{i n hint:Nat}{Q:xiD->xfp}(hk:xkX)(hs:∀p q,p≤q->q<n->τ (xnC (i+q) (xr9 (i+p))))(Mf:xGS p p)(N7:xAg)(hn:xwO (i+n))(hh:hint<n)
  (h:∀k,xbv k->(∀j,j<k->Pi (xnC (i+j) xv5))->(∀j,k≤j->j<n->τ (xnC (i+j) xv5))->xqG k):xdq (gN true key xs i n hint):=by
 have eb:∀j,O7 κ true key xs j=xnC j xv5:=λ j=>rfl
 refine eQ hO hk hn hh N7 Mf (λ p q Vw hq hb=>?_) λ k h1 h2 h3=>xjN h1 xuK (Sc j hj Qa)
 ·rw [eb] at hb ⊢;have:=hs p q Vw hq;show xcv (xFb _ (i+p) _ hb)
  ·show ρ this z z
  ·exact z
 ·exact h2 j hj
 ·exact h3 j hj Qa
theorem qb (o:Nat):∀(r:xfk) (n:Nat) (xs:Os),xwO (o+n+r.length)->
  xmB ((r.zipIdx n).foldl (λ a x=>a.setIfInBounds (o+xgv) xgt) xs) (xBj o n++r++xFt (o+n) r.length)
 | [],n,xs,h=>by simp
 |x::r,n,xs,h=>by
  rw [EK] at h;have LU:xJS (o+n):=by simp;exact Nat.lt_of_add_right_lt h
  rw [List.zipIdx_cons,List.foldl_cons,qb o r (n+1) _ (by show xaF JL),KP];have e1:(xs.toList.set (o+n) x).take (o+(n+1))=xBj o n++xbT:=by
   rw [show o+(n+1)=o+n+1 by lia,F1,Gs LU,List.take_set_of_le Tl];rfl
  have e2:(xs.toList.set (o+n) x).drop (o+(n+1)+r.length)=xFt (o+n) (r.length+1):=by
   rw [List.drop_set_of_lt Z5];congr 1;lia
  rw [e1,e2,EK];simp [Eu]
def fD {κ:KeyKind}{xs:Os}{P X S:xfk}(e:xwP (P++X++S)){j:Nat}(hj:xgV j):xr9 xoL=xiz X[j]:=by
 have LU:xg2 xoL:=by
  have:xs.toList.length=xs.size:=Z6;rw [<-this,e];simp;exact Ln _ hj
 rw [d5 LU];congr 1;have:xs[xoL]=xs.toList[xoL]'(by simpa using LU):=Z6;rw [this];simp only [e];rw [HS (by show xCG),HN Z5];congr 1;exact HQ _ _
def jc {xs:Os}(e:xwP (P++X++S))(hj:xgV j):∃LU:xg2 xoL,xs[xoL]=X[j]:=by
 have LU:xg2 xoL:=by
  have:xs.toList.length=xs.size:=Z6;rw [<-this,e];simp;exact Ln _ hj
 refine xbW LU;have:xs[xoL]=xs.toList[xoL]'(by simpa using LU):=Z6;rw [this];simp only [e];rw [HS (by show xCG),HN Z5];congr 1;exact HQ _ _
def qq {xs:Os}{P X S:xfk}(e:xwP (P++X++S)){i n:Nat}(hi:xbv i)(hn:n≤X.length):xx3 (xfU i) (xfU n)=xgn (X.drop i) n i:=by
 rw [du (Hn.mpr hi),e,xaA (xfU n-(xfU i)) (n-i) (Nat.add_sub_add_left _ _ _)];rw [Eu,<-Gz,JA,G1 (Ew hi hn),FU (by simp;lia)]
def li {κ:KeyKind}{xs:Os}{P X S:xfk}(e:xwP (P++X++S))(h:X.Pairwise xbp)(p q:Nat)(Vw:p≤q)(hq:xgV q):τ (xnC (xfU q) (xr9 (xfU p))):=by
 rw [fD e hq,fD e (show xgV p from Fh Vw hq)];show xa3 p q z z
 ·exact xn5 h p q (Jq z hq) hq z
 ·show xbL p q (Fa Vw z) xk0
universe SG
namespace SM
theorem M1 {α:Type}{p:xkt α}:∀{ys:xbH},(∃y∈ys,Pi (p y))->∃l1 y l2,ys=l1++y::l2/\Pi (p y)/\∀z∈l1,¬Pi (p z)
 | [],h=>by obtain⟨y,hy,_⟩:=h;cases hy
 |z::ys,h=>by
  by_cases hz:Pi (p z)
  ·exact xgB [] z ys hz (xpU h h)
  ·obtain⟨y,hy,hp⟩:=h;show xel hy hy
   ·show xab hp hz
   ·obtain⟨l1,y,l2,e,h1,h2⟩:=M1 ⟨y,hy,hp⟩;refine⟨z::l1,y,l2,by show Τ e,h1,PP u hu⟩;show xel hu hu
    ·exact hz
    ·exact h2 u hu
theorem Mn {kf:α->κ}(O:Ord blt):∀{xs ys:xbH},xxL->xs.Perm ys
 | [],ys,h=>by
  cases ys with
  |nil=>show xeE
  |cons y ys=>have:=xwf h.symm (ER);cases this
 |x::xs,ys,h=>by
  have hx:=xwf h (ER);obtain⟨l1,y,l2,rfl,hy,h1⟩:=M1 ⟨x,hx,ML O x⟩;have e:=h xcT;have n1:l1.filter (xp8 xcT)=[]:=G5.mpr h1;rw [E2 (ML O x),Fd,n1,FJ,E2 hy] at e;obtain⟨rfl,e2⟩:=Hx e;have ht:xFV (l1++l2):=λ k=>by
   by_cases hk:xtr k x
   ·have z:=MZ.mp hk;show xeU (xcT=k) (O.tot _ _ xd2 xhn);rw [Fd,n1,FJ];exact e2
   ·have e3:=xjN;rw [xos,Fd,xos] at e3;show LE Fd e3
  exact(List.Perm.cons x (Mn O ht)).trans Jf.symm
universe SM
namespace SG
open PySem PyProof.Rows SM
def vz {xs:Os}(h:xg2 0):xs[0]∈xs.toList.take 1:=by
 show xdA (si (xs:=xs) (i:=0) h) F6;show xbc this
def vP {xs:Os}(h:xg2 0):xs[xs.size-1]∈xs.toList.drop (xs.size-1):=by
 show xbc (fE (show xg2 (xs.size-1) from Z4))
def zF {A:LL}{E:Ρ}{s:LH}{M:Model}{σ:Type}{x:σ}{Q:PUnit->Ο σ}{sq0:σ}(h:Q ⟨⟩ x):xtZ A E s (set x:StateT σ Sem PUnit) Q sq0:=by
 unfold wpS;show LE StateT.run_set (EM (xcC h))
def pK {prog:LI}{w:LJ}{A:LL}{E:Ρ}{s:LH}{κ:KeyKind}(hO:κ.OneLt){sq0:SortSt}{i:Nat}{P X Y S:xfk}{pw pw2:Nat}{Q:Bool->xfp}(hk:xkX)(hf:xvo sq0)(Mf:xiN p xpS p)
  (e:xpS=P++X++Y++S) (hX:X.Pairwise xbp) (hY:xFk) (nX:xgV 0) (nY:0<Y.length)
  (p1:Ν (xvh) (P.length,X.length,pw)) (p2:xbw (xvh) (i+1) (xaN P X,Y.length,pw2))
  (h:∀st' Z,kindOf st'=oneType'->xvo st'->pendingOf st'=xEL ((xvh).setIfInBounds i (P.length,xsF,pw)) i 1->xmB xyw (P++Z++S)->Z.Pairwise xbp->xi6 Z (X++Y)->xwS st'):
  xdq (mergeAt' i):=by
 have eX:xpS=P++X++(Y++S):=by show xbc e
 have eY:xpS=(P++X)++Y++S:=e;have lPX:xaN P X=xKK:=Et;have lA:xCO=xEA xKK+S.length:=by
  have:(xpC).toList.length=xCO:=Z6;rw [<-this,e];simp [FD]
 have hmX:xiN x X x:=λ x hx=>Mf x (by rw [e];simp [hx])
 have hmY:xiN y Y y:=λ y hy=>Mf y (by rw [e];simp [hy])
 show xoZ;dsimp-zeta only;rw [p1,p2];dsimp-zeta only;show xaZ (zF ?_);obtain⟨hy0,ey0⟩:=jc eY (j:=0) nY;show xaZ (xwj (xaN P X) xej ?_);have ey:(xpC)[xaN P X]'(F2 hy0)=Y[0]:=ey0;rw [ey];show xaZ (xo hO hk (li eX hX) Mf (hmY _ (Gj _)) (show xKK≤xCO from xhH lPX.symm (EZ hy0)) nX λ k f1 f2 f3=>?_);have g2:∀j (hj:j<k),xbp (X[j]'(xkQ f1)) Y[0]:=λ j hj=>by
  show xg4 (f2 j hj) (fD eX (show xgV j from xkQ f1))
 have g3:∀j,k≤j->∀hj:xgV j,xhF Y[0] X[j]:=λ j hj Qa=>by
  show xg4 (f3 j hj Qa) (fD eX Qa)
 show xzM Zo (xmQ y Y Y[0] y) (λ y hy=>by
  show xf4 j hj hy;rcases Iz j with rfl|z
  ·exact xk0
  ·exact xn5 hY 0 j nY hj z);by_cases hz:xx0 k=0
 ·refine xAZ hz (xcX (X++Y) hk hf rfl (by show xpS=_;show xbc e) ?_ xgN);show ST EN ⟨hX,hY,λ x hx y hy=>?_⟩;show xay j hj rfl (Fx.mp hx) (xfX (g2 j (xkQ (xxX hz))) (Zo y hy))
 refine xiV xmr;have n1:=HB nX;have W7:k≤xk8:=HD (Je (No (hz (Kq z))));obtain⟨hx0,ex0⟩:=jc eX (j:=xk8) n1;rw [FD,FE f1,Kd nX];show xaZ (xwj (xfU (xk8)) hx0 ?_);rw [ex0];show xaZ (wF hO hk (li eY hY) Mf (hmX _ (Gj _)) (show xEA (xaN P X)≤xCO from Z5) (show Y.length-1<Y.length from HB nY) λ k2 d1 d2 d3=>?_);have c2:∀j (hj:j<k2),xhF (Y[j]'(xkQ d1)) (X[xk8]' n1):=λ j hj=>by
  show xg4 (d2 j hj) (fD eY (show j<Y.length from xkQ d1))
 have c3:∀j,k2≤j->∀hj:j<Y.length,xbp (X[xk8]' n1) Y[j]:=λ j hj Qa=>by
  show xg4 (d3 j hj Qa) (fD eY Qa)
 have Rc:0<k2:=by
  rcases Iz k2 with rfl|z
  ·have a1:=c3 0 Tl nY;have a2:=g3 xk8 W7 n1;have a3:τ (xiP Y[0] (X[xk8]' n1)):=a1;have a4:Pi (xiP Y[0] (X[xk8]' n1)):=a2;show ρ a3 a4 a4
  ·exact z
 show xzM xlast (xmQ x X x (X[xk8]' n1)) (λ x hx=>by
  show xf4 j hj hx;show xa3 j xk8 z z
  ·exact xn5 hX j _ hj n1 z
  ·show xbL j xk8 (Fa (HD hj) z) xk0);refine xzV (Iy Rc xpF)
 extract_lets x y jp
 have ex:x.toList=X.drop k:=by
  show xmB ((xpC).extract xAK (xaN P X)) _;rw [lPX,qq eX f1 Tl,EV Z6]
 have Yl:y.toList=Y.take k2:=by
  show xmB ((xpC).extract (xaN P X) (xaN P X+k2)) _;show xdA (qq eY (i:=0) (n:=k2) xac d1) HP;rw [this,Hm,IT]
 have lx:x.size=xx0 k:=by rw [<-FN,ex,EE]
 have ly:y.size=k2:=by rw [<-FN,Yl,EH,Fp d1]
 have hxa:xiN p x.toList p:=λ p hp=>hmX p (by show WF ex hp (Ft hp))
 have hya:xiN p y.toList p:=λ p hp=>hmY p (by show WF Yl hp (Fg hp))
 have sx:x.toList.Pairwise xbp:=by show LE ex (hX.sublist (Lb _ _))
 have sy:y.toList.Pairwise xbp:=by show LE Yl (hY.sublist (IK _ _))
 have xge:xh0 u x.toList Y[0] u:=λ u hu=>by
  rw [ex] at hu;show xf4 j hj hu;show LE Ih (g3 _ xdk _)
 have WT:∀v∈y.toList.take 1,xh0 u x.toList v u:=λ v hv u hu=>by
  rw [Yl,Ly,Fp Rc] at hv;show xbL v Y[0] (by
   show xf4 j hj hv;rw [EH] at hj;show xeU (j=0) (xEI (xkQ xhk));rw [Hc]) (xge u hu)
 have OH:∀v∈y.toList,xh0 u (x.toList.drop (x.size-1)) v u:=λ v hv u hu=>by
  rw [Yl] at hv;show xf4 j hj hv;rw [EH] at hj;rw [Hc];rw [ex,lx,Gz,K1,FE W7] at hu;show xbL u (X[xk8]' n1) (by
   show xf4 q hq hu;rw [EE] at hq;rw [Ih];congr 1;omega) (c2 j (xkQ xhk))
 have hj:∀(r:Os) (OC:SortSt),kindOf OC=oneType'->arrOf OC=xpC->xvo OC->pendingOf OC=xEL ((xvh).setIfInBounds i (P.length,xsF,pw)) i 1->cI κ x y r->xlo (jp r) Q OC:=by
  intro r OC b1 b2 b3 b4 hW;have lr:r.toList.length=(xx0 k)+k2:=by
   rw [xFI xcN hW.2,Et,FN,FN,lx,ly]
  show xLj ?_;show xoZ;have hfn:Pi (failedOf OC).isNone:=by show Τ b3
  refine E7 ?_;show Q ((failedOf OC).isNone) _;show ST hfn (xcX (xzc++r.toList++xGn) b1 b3 b4 ?_ ?_ ?_)
  ·show xmB ((r.toList.zipIdx 0).foldl (λ a x=>a.setIfInBounds (xAK+xgv) xgt) (arrOf OC)) _;rw [b2,qb xAK r.toList 0 xpC (by rw [lr,lA];omega),HP,lr,e];have t1:(P++X++Y++S).take xAK=P++xzc:=by
    rw [Eu,Eu,List.take_append,EV xdk,Ga,FU f1]
   have t2:xtB (P++X++Y) S (xAK+(xx0 k+k2))=xGn++S:=by
    rw [Eu (P++X),show xAK+(xx0 k+k2)=xaN P X+k2 by rw [lPX,FD,<-FD k,FE f1,FD],<-Gz,JA,G1 d1]
   rw [t1,t2];simp [Eu]
  ·have memr:∀u∈r.toList,u∈x.toList\/u∈y.toList:=λ u hu=>EQ.mp (L9.mem xcN hW.2 hu)
   rw [Eu,EN,EN];refine⟨hX.sublist (IK _ _),⟨hW.1,hY.sublist (Lb _ _),λ u hu v hv=>?_⟩,λ u hu v hv=>?_⟩
   ·show xf4 q hq hv;rw [EE] at hq;rw [Ih];show xcv (memr u hu)
    ·show WF ex z (xfX (xlast u (Ft z)) (c3 _ xdk _))
    ·rw [Yl] at z;show xf4 j hj z;rw [EH] at hj;rw [Hc];have hj:=xkQ xhk;exact xn5 hY j _ (xkQ d1) (Gr hq) (xkQ xdk)
   ·show xf4 q hq hu;rw [EH] at hq;rw [Hc];have a1:=g2 q (Ey hq xhk);show xbO hv z z
    ·show xcv (memr v z)
     ·exact xfX a1 (xKJ (xge v z))
     ·show WF Yl z (xfX a1 (Zo v (Fg z)))
    ·exact xfX a1 (Zo v (Ft z))
  ·have q1:=xKZ ((L9.refl (blt:=κ.blt) (kf:=xiz) xzc).app hW.2) xGn;rw [ex,Yl] at q1;have:xzc++(X.drop k++Y.take k2)++xGn=X++Y:=by
    rw [<-Eu,E9,Eu,E9]
   show WF this q1 q1
 clear_value jp
 have nx:0<x.size:=lx▸JS hz;have ny:0<y.size:=ly▸Rc;refine c5 (wpS_bind (pL hO hk hxa hya sx sy nx ny (WT _ (vz ny) _ Z6) OH λ r st' Nd hW=>hj r st' (Nd.k.trans hk) Nd.a (Nd.f.trans hf) Nd.p hW))
  (wpS_bind (oX hO hk hxa hya sx sy nx ny WT (OH _ Z6 _ (vP nx)) λ r st' Nd hW=>hj r st' (Nd.k.trans hk) Nd.a (Nd.f.trans hf) Nd.p hW))
def toL {xs:Os}(k:Nat):xs[k]?=xs.toList[k]?:=Z6
def pA {A' M B:xfk}(e:xwP (xuw++B)):xmB (mirror xs A'.length xhv ((xhv-A'.length)/2)) (A'++M.reverse++B):=by
 have hs:xwO xhv:=by
  rw [<-FN,e];simp
 apply G2;intro k;rw [<-toL,getElem?_mirror_all hs k,toL,toL,e];by_cases h:A'.length≤k/\k<xhv
 ·show xbM j (HZ xbS);have hj:=Nat.lt_of_add_lt_add_left xex;have e0:xEh (xhv)-1-(xEh j)=xEh (M.length-1-j):=by clear h e hs;omega
  rw [EU h,e0,Eu,Eu,E4 xdk,E4 xdk,Ga,Ga,Fs (Fh xmO (HB hj)),Fs (by simp;exact hj),List.getElem?_reverse hj]
 ·rw [EI h,Eu,Eu];show xa3 k A'.length z z
  ·rw [Fs z,Fs z]
  ·rw [E4 z,E4 z,E4 Z5,E4 (by simp;omega),Jd]
def qa {x:Keyed}(e:xwP (xuw++xbT++B)):xmB (bubble xs xhv (xhv-A'.length)) (A'++xbT++M++B):=by
 have hs:xg2 xhv:=by
  rw [<-FN,e];simp
 apply G2;intro k;rw [<-toL,getElem?_bubble hs _ xmO k,toL,toL,toL,e,show xhv-(xhv-A'.length)=A'.length by omega];have e1:xbw (xuw++xbT++B) xhv x:=by
  rw [Eu xuw,E4 Z6];simp
 rw [e1];by_cases h1:k=A'.length
 ·subst h1;rw [xag,Eu,Eu,E4 Tl];simp
 ·rw [xoq];by_cases h2:A'.length<k/\k≤xhv
  ·rw [EU h2,Eu xuw,Eu,E4 (HD h2.1),Fs Z4,Eu (A'++xbT),E4 (by simp;exact Nat.succ_le_of_lt h2.1),Fs (by simp;omega)];congr 1;simp;lia
  ·rw [xmx];show xa3 k A'.length z z
   ·rw [Eu xuw,Eu,Fs z,Eu (A'++xbT),Eu,Fs z]
   ·rw [E4 (by simp;lia),E4 (by simp;omega)];congr 1;simp
structure At (κ:KeyKind)(sq0:SortSt)(pe:Array (Nat×xet))(l:xfk):Prop where
 k:xkX
 f:xvo sq0
 p:xvh=pe
 a:xpS=l
 has:xiN p l p
def At.setA (h:xqy l)(e:xwP l')(hm:xhh l' (p∈l)):xlZ (setArr sq0 xs) l':=⟨h.k,h.f,h.p,e,λ p hp=>h.has p (hm p hp)⟩
def jm (hO:κ.OneLt)(h:xqy (P++X++S))(hi:xgV i)(hj:xgV j)
  (hq:xqG (xiP X[i] X[j])):xdq (ltAt' (xfU i) xoL):=by
 rw [ltAt'_eq];show xoZ;obtain⟨h1,e1⟩:=jc h.a hi;obtain⟨h2,e2⟩:=jc h.a hj;show xt3 h1 (xBK h2 ?_);rw [e1,e2];exact j9 hO h.k (h.has _ Z6) (h.has _ Z6) hq
def ji (h:xqy (xuw++B))(ei:i=A'.length)(ej:j=xhv)(hq:∀st',xtx (A'++M.reverse++B)->xhi st'):
  xdq (reverseSlice' i j):=by
 subst ei ej;exact wpS_reverse (hq _ (h.setA (pA h.a) λ p hp=>by simpa using hp))
def x5 (h:xqy (xuw++xbT++B))(ei:i=xhv)(ej:j=A'.length)(hq:∀st',xtx (A'++xbT++M++B)->xhi st'):
  xdq (moveDown' i j):=by
 subst ei ej;show LE moveDown'_eq (wpS_modify (hq _ (h.setA (qa h.a) λ p hp=>by
  simp only [EQ,EW] at hp ⊢;rcases hp with((z|z)|z)|z
  ·show xDJ (.inl z)
  ·show xaT (.inr z)
  ·show xDJ (.inr z)
  ·show xbB z)))
def uE:xi3 (xtw xiD):=sortPriv%PySem.Builtin.countRun
def yx (h:l.Pairwise xbp)(hx:xmQ y l y x):xlN (l++xbT):=by
 show LE EN ⟨h,Z6,λ a ha b hb=>by
  show xbL b x (by show xl6) (hx a ha)⟩
def ui {l:xfk}(h:l.Pairwise xbp)(hn:n+1=l.length)(hy:y∈l):xbp y (l[n]'(xvE hn)):=by
 show xf4 j hj hy;show xa3 j n z z
 ·exact xn5 h j n hj (xvE hn) z
 ·show xbL j n (Fa (Gi (EJ hj hn.symm)) z) xk0
structure Ds (κ:KeyKind)(X D0 Eb:xfk)(n OQ:Nat):Prop where
 le:Eb.length=OQ+1
 ln:D0.length+Eb.length=n
 eq:∀u∈Eb,xmQ v Eb u v
 sd:D0.reverse.Pairwise xbp
 lt:∀u∈Eb,xh0 d D0 u d
 sq0:xi6 xtE xhu
def Ds.sorted (h:xt0 X D0 Eb n OQ):xlN xtE:=by
 show LE EN ⟨List.pairwise_of_forall_mem_list λ u hu v hv=>h.eq u hu v hv,h.sd,λ u hu d hd=>xKJ (h.lt u hu d (Jg.mp hd))⟩
def dN {X:xfk}(hn:xgV n):X.take (n+1)=xhu++[X[n]]:=by
 rw [F1,Ex hn];rfl
def Ds.next (h:xt0 X D0 Eb n OQ)(hn:xgV n)(LU:xh0 u Eb X[n] u):xt0 X (xyV D0) [X[n]] (n+1) 0:=by
 have Mf:xh0 u xtE X[n] u:=λ u hu=>by
  show xbO hu z z
  ·exact LU u z
  ·have My:0<Eb.length:=by have:=h.le;exact Kn this
   have e0:Eb[0]∈Eb:=Gj My;exact(xcN).tr _ _ _ (LU _ e0) (h.lt _ e0 u (Jg.mp z))
 refine⟨rfl,by rw [Et,Jd,h.ln];rfl,λ u hu v hv=>?_,?_,λ u hu d hd=>?_,?_⟩
 ·have e1:u=X[n]:=by show xzL
  have e2:v=X[n]:=by simpa using hv
  subst e1;subst e2;exact xk0
 ·rw [Il,Hf];exact h.sorted
 ·have e1:u=X[n]:=by show xzL
  subst e1;refine Mf d ?_;show xbO hd z z
  ·exact xnS (Jg.mpr z)
  ·exact xld (Jg.mp z)
 ·rw [Il,Hf,dN hn];show TD (xBW (h.sq0.app (L9.refl [X[n]]))) (eh xcN λ y hy x hx=>?_).symm;have e1:y=X[n]:=by show xD0
  subst e1;exact Mf x hx
def Ds.more (h:xt0 X D0 Eb n OQ)(hn:xgV n)(h1:xmQ u Eb X[n] u)(h2:xmQ u Eb u X[n]):xt0 X D0 (Eb++[X[n]]) (n+1) (OQ+1):=by
 have My:0<Eb.length:=by have:=h.le;exact Kn this
 have e0:Eb[0]∈Eb:=Gj My;have hD:xh0 d D0 X[n] d:=λ d hd=>fw xcN (h1 _ e0) (h.lt _ e0 d hd)
 refine⟨by rw [Et,h.le];rfl,by rw [Et,<-FD,h.ln];rfl,λ u hu v hv=>?_,h.sd,λ u hu d hd=>?_,?_⟩
 ·rcases EQ.mp hu with z|z<;>rcases EQ.mp hv with z2|z2
  ·exact h.eq u z v z2
  ·show xbL v X[n] (by simpa using z2) (h2 u z)
  ·show xbL u X[n] (by show xtD) (h1 v z2)
  ·have e1:u=X[n]:=by show xtD
   have e2:v=X[n]:=by simpa using z2
   subst e1;subst e2;exact xk0
 ·show xbO hu z z
  ·exact h.lt u z d hd
  ·show xbL u X[n] (by show xtD) (hD d hd)
 ·show ST (dN hn) (xBW (h.sq0.app (L9.refl [X[n]])));rw [Eu,Eu];refine(L9.refl Eb).app (eh xcN λ y hy x hx=>?_).symm;show xbL y X[n] (by show xD0) (hD x (Jg.mp hx))
def wx (hO:κ.OneLt){Q:(xGG×Nat)->xfp}
  (h:xqy (P++X++S)) (hn:MS=X.length) (ha:ω a) (han:a≤MS) (hs:xlN (X.take a))
  (hf:∀(x n:Nat) (UH:ω n) (Qc:n<MS),xCs (f x (xgj n)) (λ r st'=>st'=sq0/\r=xbZ (xiP (X[n]'(EJ Qc hn)) (X[n-1]'(Gk (EJ Qc hn)))) (.done (xgj n)) (.yield (xgj (n+1)))))
  (hq:∀n,xbv a->n≤MS->xlN xhu->(n=MS\/∃LU:xgV n,xhF X[n] (X[n-1]'(Gk LU)))->Q (xgj n) sq0):xdq (forIn [a:MS] (xgj a) f):=by
 refine xBH (λ x c st'=>st'=sq0/\c=xgj x/\xlN (X.take x)) ?_ ?_ (xd9 rfl hs)
 ·rintro x c st' hax SK ⟨rfl,rfl,Tq⟩;refine HG (hf x x (Ew ha hax) SK) ?_;rintro r Rl ⟨rfl,rfl⟩;by_cases hc:Pi (xiP (X[x]'(xzZ)) (X[x-1]'(Gk xzZ)))
  ·show xmt hc (hq x hax (HK SK) Tq (xcz xzZ hc))
  ·show ST (EI hc) (Ψ rfl rfl);show ST (dN (show xgV x from xzZ)) (yx Tq (PP y hy))
   have l1:=ui Tq (by rw [EH,Fp (EZ xzZ),KW (Ew ha hax)]) hy;show WF Hc l1 (xfX l1 (by simpa using hc))
 ·rintro c st' ⟨rfl,rfl,Tq⟩;show xjl (xaA (max a MS) MS (Lo han)) Tq (hq MS han Tl Tq xbF)
def m5 (hO:κ.OneLt)(h:xqy (P++X++S))(O5:Mt=P.length)(hn:MS=X.length)(h1:ω MS)
  (hq:∀m Y st',ω m->m≤MS->Y.length=m->xFk->xi6 Y (X.take m)->xtx (P++(Y++xp0)++S)->Q (some m) st'):xdq (uE Mt MS):=by
 subst O5;have up:∀{sq0} {X},xqy (P++X++S)->∀(hXn:MS=X.length) (n:Nat) (UH:ω n) (Qc:n<MS) {Q:xFC->xfp},xqG (xiP (X[n]'(EJ Qc hXn)) (X[n-1]'(Gk (EJ Qc hXn))))->xdq (ltAt' (xfU n) (xfU n-1)):=by
  intro sq0 X h hn n UH Qc Q hq;show LE (xaA (xfU n-1) (xfU (n-1)) (Kd UH _)) (jm hO h (EJ Qc hn) (Gk (EJ Qc hn)) hq)
 show xaZ (wx hO h hn (EB 1) h1 ?_ ?_ λ n UH Qc hs hor=>?_)
 ·cases X with
  |nil=>simp
  |cons x X=>simp
 ·intro x n UH Qc;show xsm (up h hn n UH Qc ?_)
  split
  ·exact xow
  ·exact xow
 dsimp-zeta only;have same:P++X++S=P++(xhu++X.drop n)++S:=by rw [E9]
 have lt:xaJ xhu n:=by rw [EH,Fp (xtt Qc hn)]
 by_cases e1:n=MS
 ·refine xAZ e1 (hq n xhu sq0 UH Qc lt hs xgN (same▸h))
 show xhB (xzV (e1 xpF)) LU Qp (hor.resolve_left e1);have hn5:=EJ LU hn.symm;have TJ:=Fh xac LU
 extract_lets v1 v2 jp
 have VB:∀Td,xlZ Td (P++(xFT++X.drop n)++S)->(∀u∈xhu,xmQ v xhu u v)->xlo (jp ()) Q Td:=by
  intro Td hA1 heq;show xaZ xzo;have hprev:(X[n-1]'(Gk LU))∈xhu:=by
   show LE List.mem_take_iff_getElem (xee (n-1) (xJK ⟨HB UH,Gk LU⟩))
  have hX0:xh0 u xhu X[n] u:=λ u hu=>de xcN Qp (heq _ hprev u hu)
  have hD0:xt0 X xFT [X[n]] (n+1) 0:=by
   refine⟨rfl,by rw [Jd,lt];rfl,λ u hu v hv=>?_,by show LE Hf hs,λ u hu d hd=>?_,?_⟩
   ·have e1:u=X[n]:=by show xzL
    have e2:v=X[n]:=by simpa using hv
    subst e1;subst e2;exact xk0
   ·have e1:u=X[n]:=by show xzL
    subst e1;exact hX0 d (Jg.mp hd)
   ·rw [Hf,dN LU];refine(eh xcN λ y hy x hx=>?_).symm;have e1:y=X[n]:=by show xD0
    subst e1;exact hX0 x hx
  have hA0:xlZ Td (P++(xFT++[X[n]]++X.drop (n+1))++S):=by
   rw [Eu xFT,Ju,<-Gb LU];exact hA1
  show xk9 (λ x c st'=>∃D0 Eb OQ,c=xgq x OQ/\xt0 X D0 Eb x OQ/\xtx (P++(D0++Eb++xCL)++S)) (Q:=λ c st'=>∃m D0 Eb OQ,c=xgq m OQ/\m≤MS/\n+1≤m/\xt0 X D0 Eb m OQ/\xtx (P++(D0++Eb++xp0)++S)) ?_ (xgB _ _ 0 hD0 hA0) ?_
  ·rintro x c OC hax SK ⟨D0,Eb,OQ,rfl,hD,hA⟩;have hax':n+1≤x:=hax;have OU:=hD.le;have Mu:=hD.ln;have hxX:xgV x:=xzZ;have lC:MS=xaN (D0++Eb) xCL:=by rw [Et,Et,EE,Mu,xDF hxX];exact hn
   have hc1:(D0++Eb++xCL)[x]'(xCF lC)=X[x]:=by
    rw [HN (by show LE Et (EL Mu)),Ih];simp only [Et,Mu,IU,HP]
   have hE:=xvE OU.symm;have Q6:=Ey (Km n) hax';have Ya:x-1=D0.length+OQ:=by rw [<-Mu,OU];rfl
   have Xz:(D0++Eb++xCL)[x-1]'(Gk (xCF lC))=Eb[OQ]' hE:=by
    rw [HS (by rw [Et,Mu];exact HB Q6),HN (by show LE Ya xdk)];simp only [Ya,Ga]
   have hEl:(Eb[OQ]' hE)∈Eb:=Gj _;show xaZ (up hA lC x Q6 SK ?_);rw [hc1,Xz];dsimp only;cases e:xiP X[x] (Eb[OQ]' hE) with
   |true=>
    refine aL rfl ?_;have hN:=hD.next hxX λ u hu=>de xcN e (hD.eq _ hEl u hu)
    have fin:∀MW,xlZ MW (xyV (P++D0)++(xCL++S))->xlZ MW (P++(xyV D0++[X[x]]++X.drop (x+1))++S):=λ MW h3=>by
     rw [Eu (xyV D0),Ju,<-Gb hxX];show xp1 h3
    by_cases SY:OQ>0
    ·refine xF3 SY (ji (by show xp1 hA) (by rw [Et,<-Mu,OU,<-FD];exact KY ..) (by rw [Et,FD,Mu]) λ MW UR=>E7 (xgB _ _ 0 hN (fin MW UR)))
    ·have Zw:Eb.reverse=Eb:=by
      obtain⟨y,e⟩:=xL7 (OU.trans (xBb (Jj SY)));show Τ e
     refine aJ SY (E7 (xgB _ _ 0 hN (fin OC ?_)));rw [Zw];show xp1 hA
   |false=>
    refine xiV Z9;rw [Kd Q6];show xaZ (jm hO hA (Gk (xCF lC)) (xCF lC) ?_);rw [hc1,Xz];dsimp only;cases e2:xiP (Eb[OQ]' hE) X[x] with
    |true=>exact xtv rfl ⟨x,D0,Eb,OQ,rfl,EZ SK,hax',hD,hA⟩
    |false=>
     refine xue (E7 (xgB D0 _ (OQ+1) (hD.more hxX (λ u hu=>xfX e2 (hD.eq _ hEl u hu)) (λ u hu=>xfX (hD.eq u hu _ hEl) e)) ?_));rw [<-Eu D0,Eu (D0++Eb),Ju,<-Gb hxX];exact hA
  ·rintro c OC ⟨D0,Eb,OQ,rfl,hD,hA⟩;have:max (n+1) MS=MS:=Lo hn5;have this':max v1 MS=MS:=this;rw [this'] at hD hA ⊢;exact⟨MS,D0,Eb,OQ,rfl,Tl,hn5,hD,hA⟩
  ·rintro c OC ⟨m,D0,Eb,OQ,ec,Xx,hm2,hD,hA⟩;subst ec;have OU:=hD.le;have Mu:=hD.ln;dsimp-zeta only
   extract_lets r1 r2 r3 r4 X9
   have er3:m=r3:=rfl;have er4:OQ=r4:=rfl
   clear_value r3 r4
   subst er3 er4;have Rp:∀MW,xlZ MW (xyV (P++D0)++(xp0++S))->xlo (X9 ()) Q MW:=by
    intro MW UR;have hm0:=Ey (Km n) hm2;show xaZ (ji (M:=xyV D0) (by show xp1 UR) rfl (by rw [Et,Jd,Mu]) (PP NJ Rh));rw [Il,Hf] at Rh;have lY:xaN Eb D0.reverse=m:=by rw [Et,Jd,Iw,Mu]
    have lYX:MS=xaN xtE xp0:=by rw [Et,lY,EE,FE (xtt Xx hn)];exact hn
    have hA5:xlZ NJ (P++(xtE++xp0)++S):=by show xp1 Rh
    show xaZ (wx hO hA5 lYX hm0 Xx ?_ ?_ λ n2 YV hn4 Ot _=>?_)
    ·rw [FU (EL lY.symm),EV (EL lY)];exact hD.sorted
    ·intro x n2 YV hn4;show xsm (up hA5 lYX n2 YV hn4 ?_)
     split
     ·exact xow
     ·exact xow
    refine E7 (hq n2 _ NJ (Ew hm0 YV) hn4 (by rw [EH,<-lYX,Fp hn4]) Ot ?_ ?_)
    ·have e1:(xtE++xp0).take n2=xtE++xgn xp0 n2 m:=by
      rw [List.take_append,EV (xhH lY YV),lY]
     have e2:X.take n2=X.take m++xgn xp0 n2 m:=by
      rw [<-Ld,FE YV]
     rw [e1,e2];exact hD.sq0.app xgN
    ·have e1:xtB xtE xp0 n2=X.drop n2:=by
      rw [List.drop_append,Gu (xhH lY YV),FJ,lY,Gz,FE YV]
     rw [<-e1,E9];exact hA5
   clear_value X9
   by_cases SY:OQ>0
   ·refine xF3 SY (ji (by show xp1 hA) (by rw [Et,<-Mu,OU,<-FD];exact KY ..) (by rw [Et,FD,Mu]) λ MW UR=>Rp MW UR)
   ·have Zw:Eb.reverse=Eb:=by
     obtain⟨y,e⟩:=xL7 (OU.trans (xBb (Jj SY)));show Τ e
    refine aJ SY (Rp OC ?_);rw [Zw];show xp1 hA
 clear_value jp
 by_cases hgt:n>1
 ·refine aL hgt ?_;rw [Kd UH];show xsm (jm hO h TJ (Gk LU) ?_);cases er:xiP (X[0]' TJ) (X[n-1]'(Gk LU)) with
  |true=>exact xtv rfl (hq n xhu sq0 UH Qc lt hs xgN (same▸h))
  |false=>
   refine xue (wpS_bind (ji ?_ rfl (by rw [lt]) λ MW UR=>VB MW (by show xp1 UR) λ u hu v hv=>?_))
   ·have e0:P++xhu++(X.drop n++S)=P++X++S:=by rw [Eu P,<-Eu xhu,E9,<-Eu]
    show LE e0 h
   ·show xaD l1 (ui hs (by rw [lt,KW UH]) hu) Hc l1;show xf4 j hj hv;rw [Hc];have l2:xbp (X[0]' TJ) (X[j]'(xkQ (xhH lt (EZ LU)))):=by
     rcases Iz j with rfl|z
     ·exact xk0
     ·show xdF (xn5 hs 0 j (Jq z hj) hj z) Hc Hc;show xfM
    exact xfX l1 (xfX er l2)
 ·refine aJ hgt (VB sq0 ?_ λ u hu v hv=>?_)
  ·show xeU (n=1) (Fa (xIi hgt) UH);rw [same] at h;have e1:(X.take 1).reverse=X.take 1:=by
    cases X with
    |nil=>rfl
    |cons x X=>rfl
   show LE e1 h
  ·show xeU (n=1) (Fa (xIi hgt) UH);show xf4 j hj hu;show xf4 q UG hv;have e1:j=0:=xEI (lt▸hj);have e2:q=0:=xEI (lt▸UG);subst e1;subst e2;exact xk0
def kC (hO:κ.OneLt)(h:xqy (P++(Y++R)++S))(O5:Mt=P.length)(hY:xFk)(lY:Y.length=ok)(h1:ω ok)(hok:xbv ok)(hn:n≤ok+R.length)
  (hq:∀Y' st',Y'.length=n->xJz->xi6 Y' (Y++xwG n ok)->xtx (P++(Y'++xk5 n)++S)->xwS st'):xdq (binarySort' Mt n ok):=by
 subst O5;show xaZ (HG (xBH (λ k c st'=>c=xgj ()/\∃Y',Y'.length=k/\xJz/\xi6 Y' (Y++xwG k ok)/\xtx (P++(Y'++xk5 k)++S)) (Q:=λ c st'=>c=xgj ()/\∃Y',Y'.length=n/\xJz/\xi6 Y' (Y++xwG n ok)/\xtx (P++(Y'++xk5 n)++S)) ?step ?fin ?init) ?post)
 case post=>
  rintro c st' ⟨rfl,Y',e1,e2,e3,e4⟩;exact E7 (hq Y' st' e1 e2 e3 e4)
 case init=>
  have e:max ok 1=ok:=Nat.max_eq_left h1;show ST e ⟨rfl,Y,lY,hY,?_,?_⟩
  ·rw [IU,IE,Fw];exact xgN
  ·rw [IU,Hm];exact h
 case fin=>
  rintro c st' ⟨rfl,Y',e1,e2,e3,e4⟩;rw [Lo (Nat.max_le.2 ⟨hok,Ew h1 hok⟩)] at e1 e3 e4;exact⟨rfl,Y',e1,e2,e3,e4⟩
 case step=>
  rintro k c st' hak hkn ⟨rfl,Y',e1,e2,e3,e4⟩;have hak':ok≤k:=Ew (Nat.le_max_left _ _) hak;have hkr:k-ok<R.length:=Z4;have lC:xaN Y' (xk5 k)=k+(R.length-(k-ok)):=by rw [Et,EE,e1]
  have hkC:k<xaN Y' (xk5 k):=lC▸GQ (IP hkr);clear lC;have hx:(Y'++xk5 k)[k]' hkC=R[k-ok]:=by
   rw [HN (EL e1),Ih];simp only [e1,IU,HP]
  have hy:∀m (hm:m<k),(Y'++xk5 k)[m]'(Jq hm hkC)=Y'[m]'(xlV hm):=λ m hm=>HS (xlV hm)
  extract_lets v1 v2
  show xaZ (HG (xBH (λ x c Rl=>Rl=st'/\∃l r,c=xgq l r/\l≤r/\r≤k/\r-l≤k-x/\
    (∀i (hi:i<l) (hik:i<k),xbp (Y'[i]'(xlV hik)) R[k-ok])/\(∀i,r≤i->∀hi:i<k,xhF R[k-ok] (Y'[i]'(xlV hi)))) (Q:=λ c Rl=>Rl=st'/\∃l r,c=xgq l r/\l≤k/\(∀i (hi:i<l) (hik:i<k),xbp (Y'[i]'(xlV hik)) R[k-ok])/\(∀i,l≤i->∀hi:i<k,xhF R[k-ok] (Y'[i]'(xlV hi)))) ?istep ?ifin ?iinit) ?ipost)
  case iinit=>exact⟨rfl,0,k,rfl,xac,Tl,Iq _ 0,xem i hi hi (Ls _),λ i h1 h2=>absurd h2 (xFh h1)⟩
  case ifin=>
   rintro c Rl ⟨rfl,l,r,rfl,Vz,hrk,hm,O5,Tv⟩;show xbL l r (mz Vz hm) ⟨rfl,l,l,rfl,hrk,O5,Tv⟩
  case istep=>
   rintro x c Rl _ hxk ⟨rfl,l,r,rfl,Vz,hrk,hm,O5,Tv⟩;dsimp only;by_cases Ng:l≥r
   ·show xbL l r (Fa Vz Ng) (xtv Tl ⟨rfl,l,l,rfl,hrk,O5,Tv⟩)
   ·have hmr:(l+r)/2<r:=Z5;have hml:l≤(l+r)/2:=Z5;have Xv:=Ey hmr hrk;refine aJ Ng (wpS_bind (jm hO e4 hkC (Jq Xv hkC) ?_));rw [hx,hy _ Xv];dsimp only;cases Qp:xiP R[k-ok] (Y'[(l+r)/2]'(xlV Xv))
    case true=>
     refine xtv rfl ⟨rfl,l,(l+r)/2,rfl,hml,EZ Xv,Ew (HC (HD hmr) _) (by show LE K1 (HC hm 1)),O5,Sc i h1 h2⟩;show xa3 ((l+r)/2) i z z
     ·exact de xcN Qp (xn5 e2 _ i (xlV Xv) (xlV h2) z)
     ·show xbL i ((l+r)/2) (Fa z h1) Qp
    case false=>
     refine xue (E7 ⟨rfl,(l+r)/2+1,r,rfl,hmr,hrk,Ew (KL (HV hml) _) (HC hm 1),Sc i h1 h2,Tv⟩);show xa3 i ((l+r)/2) z z
     ·exact xfX (xn5 e2 i _ (xlV h2) (xlV Xv) z) Qp
     ·show xbL i ((l+r)/2) (Fa (Gi h1) z) Qp
  case ipost=>
   rintro c Rl ⟨rfl,l,r,rfl,Ra,O5,Tv⟩;have hd:xk5 k=R[k-ok]::xk5 (k+1):=by
    rw [Gb hkr];rw [Lm hak']
   have hA:xlZ Rl ((P++xvQ)++xvR++[R[k-ok]]++(xk5 (k+1)++S)):=by
    rw [hd] at e4;have e0:(P++xvQ)++xvR++[R[k-ok]]++(xk5 (k+1)++S)=P++(Y'++R[k-ok]::xk5 (k+1))++S:=by
     rw [Eu P,E9];simp [Eu]
    show LE e0 e4
   have lt:xaJ xvQ l:=by rw [EH,e1,Fp Ra]
   have ld:xaJ xvR (k-l):=by rw [EE,e1]
   show xaZ (x5 hA (by rw [Et,lt,ld,FD,FE Ra]) (by rw [Et,lt]) λ MW UR=>E7 ⟨rfl,xvQ++[R[k-ok]]++xvR,?_,?_,?_,?_⟩)
   ·rw [Et,Et,lt,ld];show l+1+(k-l)=k+1;rw [Nat.add_right_comm,FE Ra]
   ·have m1:xmQ y xvQ y R[k-ok]:=λ y hy=>by
     show xf4 j hj hy;show xqL lt hj Hc (O5 j hj (xkQ Ra))
    have m2:xmQ y xvR R[k-ok] y:=λ y hy=>by
     show xf4 j hj hy;show xqL ld hj Ih (xKJ (Tv _ xdk (Gr hj)))
    rw [Eu,EN];refine⟨e2.sublist (IK _ _),?_,λ a ha b hb=>?_⟩
    ·rw [Ju,GE];show xar m2 (e2.sublist (Lb _ _))
    ·show xbO hb z z
     ·show xbL b R[k-ok] (by show xtD) (m1 a ha)
     ·exact xfX (m1 a ha) (m2 b z)
   ·have e5:xwG (k+1) ok=xwG k ok++[R[k-ok]]:=by
     rw [Lm hak',dN hkr]
    rw [e5,<-Eu];refine xBW (e3.app (L9.refl [R[k-ok]]));have sw:xi6 (xvQ++([R[k-ok]]++xvR)) (xvQ++(xvR++[R[k-ok]])):=(xgN).app (eh xcN λ y hy x hx=>by
     show xeU (y=R[k-ok]) (by show xD0);show xf4 j hj hx;show xqL ld hj Ih (Tv _ xdk (Gr hj))).symm
    rw [<-Eu,<-Eu,E9] at sw;exact sw
   ·show xp1 UR
noncomputable def cy (o:Nat):List xfk->xaS
 | []=>[]
 |r::Rs=>(o,r.length)::cy (o+r.length) Rs
theorem cj (o):∀Rs,xaJ (cy o Rs) Rs.length
 | []=>rfl
 |r::Rs=>by show(cy _ Rs).length+1=_;show Τ (cj _ Rs)
theorem cq (o):∀As Bs,cy o (As++Bs)=cy o As++cy (xx9 o) Bs
 | [],Bs=>by simp [cy]
 |r::As,Bs=>by
  show(o,r.length)::cy (o+r.length) (As++Bs)=(o,r.length)::(cy (o+r.length) As++_);rw [cq _ As Bs,Gd,Et,FD]
theorem kS {α β:Type}(f:α->β):∀(l:xbH) (i:Nat),(l.eraseIdx i).map f=(l.map f).eraseIdx i
 | [],_=>rfl
 |a::l,0=>rfl
 |a::l,i+1=>by show f a::(l.eraseIdx i).map f=f a::(l.map f).eraseIdx i;rw [kS f l i]
noncomputable abbrev two (e:Nat×xet):xet:=(e.1,Δ e)
def M7 (Rs:List xfk)(pe:Array (Nat×xet)):Prop:=pe.toList.map two=cy 0 Rs
theorem M7.size {pe:Array (Nat×xet)}(h:M7 Rs pe):pe.size=Rs.length:=by
 have:=xjS h;rw [Es,cj,FN] at this;show xfM
theorem M7.push (h:M7 Rs pe)(e1:Mt=Rs.flatten.length)(e2:n=r.length):M7 (Rs++[r]) (pe.push (Mt,n,pw)):=by
 unfold M7 at h ⊢;subst e1 e2;rw [K9,EG,h,cq,F6];rfl
theorem M7.modify (h:M7 Rs pe)(i)(hf:∀e,two (f e)=two e):M7 Rs (pe.modify i f):=by
 unfold M7 at h ⊢;rw [<-h];apply G2;intro j;rw [Fq,Fq];have:(pe.modify i f).toList[j]?=xir i j ((pe.toList[j]?).map f) pe.toList[j]?:=by
  rw [Jr,Jr,Array.getElem?_modify]
 rw [this]
 split
 ·cases e:pe.toList[j]? with
  |none=>rfl
  |some v=>show xDg (two (f v)) (two v);rw [hf]
 ·rfl
theorem M7.at (h:M7 (As++X::Bs) pe)(hi:xH0 i):∃pw,Ν pe (xBw X.length pw):=by
 subst hi;unfold M7 at h;have e:xbw (pe.toList.map two) As.length (xJD X.length):=by
  rw [h,cq,E4 (by show LE cj Tl),cj,IU,F6];rfl
 rw [Fq,Jr] at e;cases e2:pe[As.length]? with
 |none=>show xjt e2
 |some v=>
  rw [e2] at e;have e3:two v=xJD X.length:=Fb e;obtain⟨v1,v2,v3⟩:=v;have e4:=congrArg Prod.fst e3;have e5:=congrArg Prod.snd e3;dsimp only at e4 e5;subst e4 e5;exact xck v3
def M7.merge (h:M7 (As++X::Y::Bs) pe)(hi:xH0 i)(hZ:Z.length=xsF):
  M7 (As++Z::Bs) (xEL (pe.setIfInBounds i (xBw xsF pw)) i 1):=by
 subst hi;have hs:=h.size;unfold M7 at h ⊢;rw [Et,EK,EK] at hs;have e1:xmB (xEL (pe.setIfInBounds As.length (xBw xsF pw)) As.length 1) ((pe.toList.set As.length (xBw xsF pw)).eraseIdx (As.length+1)):=by
  unfold Array.eraseIdxIfInBounds;rw [dif_pos (by show xaF JL),Array.toList_eraseIdx,KP]
 rw [e1,kS,List.map_set,h,cq,cq];show((cy 0 As++(xx9 0,X.length)::(xx9 0+X.length,Y.length)::cy (xEA (xx9 0+X.length)) Bs).set As.length (xJD xsF)).eraseIdx (As.length+1)=cy 0 As++(xx9 0,Z.length)::cy (xx9 0+Z.length) Bs;have lA:=cj 0 As;rw [List.set_append,EI (K4.mpr (EL lA)),lA,IU,List.set_cons_zero,List.eraseIdx_append_of_length_le (Nat.le.intro (congrFun (congrArg HAdd.hAdd lA) 1)),lA,xaA (As.length+1-As.length) 1 (HQ _ 1),hZ,F6];show _++(_::cy _ Bs)=_;rw [FD]
structure Rn (κ:KeyKind)(a0:xfk)(sq0:SortSt)(L:Nat)(Rs:List xfk)(tail:xfk):Prop where
 at':∃pe,xqy (xyK tail)/\M7 Rs pe
 so:∀r∈Rs,r.Pairwise xbp/\0<r.length
 len:Rs.flatten.length=L
 st':xi6 (xyK tail) a0
def jC (hO:κ.OneLt)(h:xE9 sq0 L (As++X::Y::Bs) tail)(hi:xH0 i)
  (hq:∀st' Z,xoh L (As++Z::Bs) tail->xwS st'):xdq (mergeAt' i):=by
 obtain⟨⟨pe,hA,hP⟩,so,hlen,Nd⟩:=h;obtain⟨sX,nX⟩:=so X Z6;obtain⟨sY,nY⟩:=so Y Z6;have ef:xzE (As++X::Y::Bs) tail=As.flatten++X++Y++(Bs.flatten++tail):=by simp [Eu]
 obtain⟨pw,p1⟩:=hP.at hi;show xbD pw2 p2 (M7.at (As:=As++[X]) (X:=Y) (Bs:=Bs) (pe:=pe) (i:=i+1) (by simpa using hP) (by simp [hi])) (pK hO (P:=As.flatten) (X:=X) (Y:=Y) (S:=Bs.flatten++tail) (pw:=pw) (pw2:=pw2) hA.k hA.f (λ p hp=>hA.has p (by show WF hA.a hp hp)) (by rw [hA.a,ef]) sX sY nX nY (by show LE hA.p p1) (by rw [hA.p,p2];simp) λ st' Z b1 b2 b3 b4 b5 b6=>?_)
 have lZ:Z.length=xsF:=by rw [xFI xcN b6,Et]
 have ez:xzE (As++Z::Bs) tail=As.flatten++Z++(Bs.flatten++tail):=by simp [Eu]
 have Td:xi6 (xzE (As++Z::Bs) tail) (xzE (As++X::Y::Bs) tail):=by
  rw [ez,ef,Eu As.flatten X];exact((xgN).app b6).app xgN
 refine hq st' Z ⟨xbV ⟨b1,b2,b3,by rw [b4,ez],λ p hp=>hA.has p (L9.mem xcN Td hp)⟩,PP r hr,?_,Td.trans Nd⟩
 ·show LE hA.p (hP.merge hi lZ)
 ·show xbO hr z z
  ·exact so r (by simp [z])
  ·show xel z z
   ·show xar b5 Z5
   ·exact so r (by simp [z])
 ·rw [<-hlen];simp [lZ,FD]
theorem q0 {α:Type}:∀{Rs:xbH} {j:Nat},j+1<Rs.length->∃As X Y Bs,Rs=As++X::Y::Bs/\xH0 j
 | [],j,h=>by show xbd
 | [x],j,h=>by show xbd
 |x::y::Rs,0,_=>⟨[],x,y,Rs,rfl,rfl⟩
 |x::Rs,j+1,h=>by
  obtain⟨As,X,Y,Bs,e,hj⟩:=q0 (Rs:=Rs) (j:=j) (by show xbd;assumption);exact⟨x::As,X,Y,Bs,by show Τ e,by simp [hj]⟩
theorem tX:∀{Rs:List xfk},(xds r Rs 0 r.length)->Rs.length≤Rs.flatten.length
 | [],_=>Tl
 |r::Rs,h=>by
  have h1:=h r Z6;have h2:=tX (Rs:=Rs) λ q hq=>h q (by simp [hq])
  rw [Gd,Et,EK];lia
def SrP (κ:KeyKind)(a0:xfk)(x:Nat){γ:Type}(r:ForInStep (Option γ×Nat))(st':SortSt):Prop:=match r with
 | .done c'=>∃Rs L,c'=xgj L/\xoh L Rs []
 | .yield c'=>∃Rs tail L,c'=xgj L/\xoh L Rs tail/\x+1≤L
def CA (h:1<n):n-2+1<n:=by omega
def Sq (hO:κ.OneLt)(hk:xkX)(hf:xvo sq0)(hp:xvh=#[])(Mf:xiN p xpS p)
  (h:∀st',xvo st'->xMG xbp->xi6 (xyw).toList xpS->xhi st'):xdq sortRuns':=by
 obtain⟨a0,ha0⟩:∃a0,xpS=a0:=xa4;have hsz:xCO=a0.length:=by rw [<-ha0,FN]
 show xoZ
 extract_lets size N1 Mt
 have hsize:size=a0.length:=hsz
 clear_value size
 have tot:∀{st' L Rs tail},xoh L Rs tail->L+tail.length=size:=λ {st' L Rs tail} hR=>by
  show xdF (xFI xcN hR.st') Et hR.len;exact this.trans hsize.symm
 show xk9 (λ x c st'=>∃Rs tail L,c=xgj L/\xoh L Rs tail/\x≤L) (Q:=λ c st'=>∃Rs L,c=xgj L/\xoh L Rs []) ?_ ?_ ?_
 rotate_left
 ·rintro c st' ⟨Rs,tail,L,rfl,hR,hx⟩;have t:=tot hR;show xbL tail [] (Gq.mp ((ID t).trans (Kq hx))) (xef Rs L hR)
 ·exact xgB [] a0 0 (xef (xee #[] ⟨hk,hf,hp,ha0,λ p hp'=>Mf p (by show LE ha0 hp')⟩) (xpU h h) xgN) Tl
 ·rintro c OC ⟨Rs,L,rfl,hR⟩;have hlen:=tot hR;show xaD Ng (tX (Rs:=Rs) λ r hr=>(hR.so r hr).2) hR.len Ng;show xk9 (λ x c st'=>c=xgj ()/\∃N5,xoh L N5 []/\N5.length≤max 1 (size-x)) (Q:=λ c st'=>c=xgj ()/\∃N5,xoh L N5 []/\N5.length≤1) ?_ ⟨rfl,Rs,hR,Ew Ng (xhH hlen (xMM _))⟩ ?_
  ·rintro x c MW _ hx ⟨rfl,N5,M4,NM⟩;show xoZ;obtain⟨pe,hA,hP⟩:=M4.at';have hs4:xAP MW=N5.length:=by show LE hA.p hP.size
   extract_lets p i before i2
   by_cases h1:p.size≤1
   ·refine xtv h1 ⟨rfl,N5,M4,?_⟩;have N6:xAP MW≤1:=h1;exact G9 hs4.symm N6
   ·refine xiV h1;have N6:¬xAP MW≤1:=h1;have hi2:i2+1<N5.length:=by
     have e1:i=xAP MW-2:=rfl;have e2:i2=i-1\/i2=i:=by
      show(xgo _)=i-1\/(xgo _)=i
      split
      ·exact xbF
      ·exact xsv
     exact hs4▸Fh (HV (e2.elim (λ e=>e▸xmO) EL)) (CA (Je N6))
    clear_value i2
    obtain⟨As,X,Y,Bs,rfl,hj⟩:=q0 hi2;show xaZ (jC hO M4 hj (Sc NJ Z M3));refine xue (E7 ⟨rfl,_,M3,?_⟩);simp only [Et,EK] at NM ⊢;exact Ew (HD ((Std.le_max.1 NM).resolve_left (No (Nat.not_succ_le_zero _ (Nat.le_of_succ_le_succ (Ew (Lw _ _) z)))))) (xMM _)
  ·rintro c MW ⟨rfl,N5,M4,NM⟩;show xav rfl N5 M4 (Ew NM (Nat.max_le.2 ⟨Tl,xhH (IU size) xac⟩))
  ·rintro c MW ⟨rfl,N5,M4,NM⟩;show xa0 pe hA hP M4.at' (E7 (h MW hA.f ?_ ?_))
   ·rw [hA.a,Fw];rcases N5 with _|⟨r,_|⟨_,R⟩⟩
    ·simp
    ·simpa using(M4.so r Z6).1
    ·cases Nat.le_of_succ_le_succ NM
   ·rw [ha0,hA.a];exact M4.st'
 rintro x c Td _ hx ⟨Rs,tail,L,ec,hR,hxL⟩;subst ec;have t:=tot hR
 extract_lets Mt jp force nf
 have elo:Mt=L:=rfl
 clear_value Mt
 subst elo;by_cases Ng:Mt≥size
 ·show xbL tail [] (Gq.mp ((ID t).trans (Kq Ng))) (xtv Ng (xef Rs Mt hR))
 show xfo (xiV Ng) pe hA hP hR.at';show xaZ (m5 hO (P:=Rs.flatten) (X:=tail) (S:=[]) (by simpa using hA) hR.len.symm (xaA (size-Mt) tail.length (Ik (ID t))) ((Nat.le_sub_iff_add_le' (EZ xDb)).mpr xDb) λ m Y OC m1 m2 lY sY tY hA2=>?_);show xzM m2' (m≤tail.length) (xtt m2 (ID t).symm)
 extract_lets n0
 have VB:∀n Y tail' MW,Y.length=n->0<n->xFk->xi6 xxo tail->xlZ MW (xyK (xxo))->
   xlo (jp () n) (SrP κ a0 x) MW:=by
  intro n Y tail' MW lY nY sY tY UR;have M4:xE9 MW Mt Rs xxo:=⟨⟨pe,UR,hP⟩,hR.so,hR.len,((xgN).app tY).trans hR.st'⟩;show xoZ
  extract_lets v1 Xp
  have Rq:∀NJ N5,xE9 NJ Mt N5 xxo->xlo (Xp ()) (SrP κ a0 x) NJ:=by
   intro NJ N5 M3;obtain⟨pe4,Rh,hP4⟩:=M3.at';have ef:xzE (N5++[Y]) tail'=N5.flatten++(xxo):=by simp [Eu]
   show xLj (E7 (xgB (N5++[Y]) tail' (Mt+n) ⟨Ψ ((xFd).push (Mt,n,0)) (xc8 Rh.k Rh.f (by show LE ef Rh.a) (λ p hp=>Rh.has p (by show WF ef hp hp))),PP r hr,?_,by show LE ef M3.st'⟩ (IF hxL nY)))
   ·show LE Rh.p (hP4.push M3.len.symm lY.symm)
   ·show xbO hr z z
    ·exact M3.so r z
    ·show xbL r Y (by show xtD) ⟨sY,EJ nY lY.symm⟩
   ·have:=M3.len;simp only [JI,Et,Gd,List.flatten_nil,Fw];rw [this,lY]
  clear_value Xp
  cases hb:(pendingOf MW).back? with
  |none=>
   have:xlo (Xp ()) (SrP κ a0 x) MW:=Rq MW Rs M4;simpa only [hb] using this
  |some e=>
   obtain⟨s1,n1,p1⟩:=e;simp only [hb];show xk9 (λ _ c st'=>c=xgj ()/\∃N5,xoh Mt N5 xxo) (Q:=λ c st'=>c=xgj ()/\∃N5,xoh Mt N5 xxo) xtA (xq3 Rs M4) ?_
   ·rintro x2 c NJ _ _ ⟨rfl,N5,M3⟩;show xoZ;obtain⟨pe4,Rh,hP4⟩:=M3.at';have hs4:xqR=N5.length:=by show LE Rh.p hP4.size
    by_cases h2:xqR>1
    ·obtain⟨As,X,Y1,Bs,rfl,hj⟩:=q0 (Rs:=N5) (j:=xqR-2) (hs4▸CA h2);obtain⟨pw,p1⟩:=hP4.at (i:=xqR-2) hj;have e1:NE (xcI (xqR>1) (xFd)[xqR-2]? none) (xBw X.length pw):=by
      rw [EU h2,<-p1,Rh.p]
     rw [e1];dsimp only;refine c5 (E7 (xq3 _ M3)) (wpS_bind (jC hO M3 hj (Sc YF Z Yf)));exact xue (E7 (xq3 _ Yf))
    ·have e1:W1 (xcI (xqR>1) (xFd)[xqR-2]? none):=xmx;show LE e1 (E7 (xq3 N5 M3))
   ·rintro c NJ ⟨rfl,N5,M3⟩;show xLj (Rq _ N5 ?_);show xa0 pe4 Rh hP4 M3.at' ⟨xbV (xc8 Rh.k Rh.f Rh.a Rh.has),M3.so,M3.len,M3.st'⟩;show M7 N5 ((xFd).modify (xqR-1) _);show LE Rh.p (hP4.modify _ λ e=>rfl)
 clear_value jp
 by_cases LU:m<N1
 ·refine xF3 LU xzo;show xaZ (kC hO (P:=Rs.flatten) (Y:=Y) (R:=xsa) (S:=[]) hA2 hR.len.symm sY lY m1 (show m≤min (size-Mt) N1 from xL8 (EZ LU)) (show min (size-Mt) N1≤m+(xsa).length by rw [EE,FE m2'];exact xtt xhk (ID t).symm) λ Y' MW lY' sY' tY' UR=>?_);refine xue (HG (VB _ Y' ((xsa).drop (min (size-Mt) N1-m)) MW lY' (Ey m1 (xL8 (EZ LU))) sY' ?_ (by simpa using UR)) λ r st' q=>by cases r<;>exact q);have e1:xi6 (Y'++(xsa).drop (min (size-Mt) N1-m)) ((tail.take m++xgn xsa (min (size-Mt) N1) m)++(xsa).drop (min (size-Mt) N1-m)):=(tY'.trans (tY.app xgN)).app xgN;rw [Eu,E9,E9] at e1;exact e1
 ·refine aJ LU (HG (VB m Y xsa OC lY xej sY ?_ (by simpa using hA2)) λ r st' q=>by cases r<;>exact q);have e1:=tY.app (L9.refl (blt:=κ.blt) (kf:=xiz) xsa);show WF E9 e1 e1
universe SG
namespace SG
open PySem PyProof.Rows
abbrev ltI:Int->xkt Int:=λ a b=>xft a b
noncomputable abbrev ky {β:Type} (p:Int×β):Int:=xak
def Rm:SM.Ord ltI:=⟨λ a=>F7 xMy,λ a b c h1 h2=>Ez (Int.lt_trans xiR (EA h2)),λ a b c h=>by
  have:=xbJ;by_cases c1:a<b
  ·show xaT (Ez c1)
  ·show xbB (Ez (Int.lt_of_le_of_lt (xJI c1) this)),λ a b h1 h2=>by
  have:=Jk h1;show xbu (Jk h2)⟩
noncomputable def kInt:KeyKind where
 α:=Int
 blt:=λ a b=>xft a b
 irrefl:=λ a=>F7 xMy
 trans:=λ a b c h1 h2=>Ez (Int.lt_trans xiR (EA h2))
 negTrans:=λ a b c h=>by
  have:=xbJ;by_cases c1:a<b
  ·show xaT (Ez c1)
  ·show xbB xoi
 total:=λ a b h1 h2=>by
  have:=Jk h1;show xbu (Jk h2)
 keyOf:=λ v=>match v with
  | .int n _=>some n
  |_=>none
 dflt:=0
def WY:kInt.OneLt:=by
 intro prog w A E s x y a b Q hx hy hq;cases x with
 |int n t=>
  cases y with
  |int m u=>
   cases hx;cases hy;exact oneLt_int hq
  |_=>cases hy
 |_=>cases hx
theorem WV {α:Type}{R:α->Ο α}:∀{l:xbH},l.length<2->l.Pairwise R
 | [],_=>.nil
 | [x],_=>by simp
 |x::y::l,h=>by show xbd;lia
universe SG
namespace L2
open PySem PyProof.Rows QQ
theorem pd:∀{l1} {x} {l2} {m},PR (l1++x::l2) m->∃m1 y m2,m=m1++y::m2/\PR l1 m1/\(∃t,xgt=xbq xhj)/\RelV y.2 xgv/\PR l2 m2
 | [],x,l2,m,h=>by
  cases h with
  |cons a b c=>exact⟨[],_,_,rfl,.nil,a,b,c⟩
 |z::l1,x,l2,m,h=>by
  cases h with
  |cons a b c=>
   obtain⟨m1,y,m2,rfl,h1,h2,h3,h4⟩:=pd c;exact⟨_::m1,y,m2,rfl,.cons a b h1,h2,h3,h4⟩
def Bc (g:PR l1 m1)(h:PR l2 m2):PR (l1++l2) (m1++m2):=by
 induction g with
 |nil=>exact h
 |cons a b _ ih=>exact .cons a b ih
def yv (h:PR l m){k:Int}(hn:∀z∈l,¬Pi (xIU xfi k z)):∀z∈m,¬Pi (xHo k z):=by
 induction h with
 |nil=>intro z hz;cases hz
 |cons a b c ih=>
  intro z hz;show xel hz hz
  ·show xf1 t a (xra (ER ..))
  ·exact ih (λ u hu=>hn u (xkg hu)) z hz
theorem yd:∀{l' l:xlA LG LG} {m},xEk xfi l' l->PR l m->∃m',xBA SG.ky m' m/\PR l' m'
 | [],l,m,hs,h=>by
  have e:=xJo xEQ hs;cases h with
  |nil=>exact⟨[],xJ2,.nil⟩
  |cons a b c=>cases e
 |x::l',l,m,hs,h=>by
  have O:=xEQ;have hx:=SM.L9.mem O hs (xz6 x (l:=l'));obtain⟨l1,y,l2,rfl,hy,h1⟩:=SM.M1 ⟨x,hx,SM.ML (blt:=SG.kInt.blt) (kf:=xfi) O x⟩;have e:=hs (xfi x);have n1:l1.filter (xIU xfi (xfi x))=[]:=G5.mpr h1;rw [E2 (SM.ML O x),Fd,n1,FJ,E2 hy] at e;obtain⟨rfl,e2⟩:=Hx e;have ht:xEk xfi l' (l1++l2):=λ k=>by
   by_cases hk:Pi (xIU xfi k x)
   ·have z:=SM.MZ.mp hk;show xeU (xfi x=k) (O.tot _ _ xd2 xhn);rw [Fd,n1,FJ];exact e2
   ·have e3:=hs k;rw [xos,Fd,xos] at e3;show LE Fd e3
  obtain⟨m1,y,m2,rfl,p1,⟨t,hy1⟩,p2,p3⟩:=pd h;obtain⟨m',q1,q2⟩:=yd ht (Bc p1 p3);have hkx:xfi x=xhj:=by
   obtain⟨x1,x2⟩:=x;have e9:x1=xbq xhj:=hy1;subst e9;rfl
  have km:∀z∈m1,¬Pi (xHo xhj z):=by
   show WF hkx h1 (yv p1 h1)
  refine Ψ (y::m') (xdr k)
  ·by_cases hk:Pi (xHo k y)
   ·have z:=SM.MZ.mp hk;show xeU (xhj=k) (SG.Rm.tot _ _ xd2 xhn);have n2:m1.filter (xHo xhj)=[]:=G5.mpr km;have q:=q1 xhj;rw [Fd,n2,FJ] at q;rw [E2 hk,Fd,n2,FJ,E2 hk,q]
   ·show xaD q (q1 k) Fd q;rw [xos,Fd,xos,q]
  ·obtain⟨x1,x2⟩:=x;show xbE y1 y2 y (.cons ⟨t,hy1⟩ p2 q2)
def vv {σ:St}
  (I:Ps) (ho:xfg a (xBm n)) (fa:xpi a) (hl:its.length=ks.length) (MO:xb0 its.length)
  (Wb:∀(MC:Wp) (s':LH) (E':Ρ) (i:Nat) (x:LG) (k:Int),xgb its->Ν ks k->xqE X σ H s'->xmY (xqh xbT) (λ r Oq=>(∃t,r=xbq k)/\xqE X σ H Oq) E' s')
  (h:∀(s':LH) (out:Os) (kv:xaI),xxE->(∃e,s'.heap.get? a=some (seqObj "list" (out.map (·.2)) e))->xGe ks->xIv SG.kInt->xK0 xfi xsl->P (xKs .none) s'):
  xmY (Builtin.«list.sort» ⟨xbK,[(xns,xbN)]⟩) P E s:=by
 rw [kK];have ha:xvd a:=E1 ho;show xdu (listItems_at ho rfl ?_) (JV ho rfl ?_);obtain⟨e1,ho1⟩:∃e1,xfn xHJ a xDa:=xa1 (JW ho (λ _=>#[]));have I1:xDV xHJ:=I.turn fa;have hs1:xE6 (xHJ).objs.size:=Heap.size_update ..;show xas xHJ h1 (Ev (xJT ho1 ?_));show xdu (wpAny_newTuple ?_) xEG;refine Gf ?_;have ho3:xfn (xCv 0 xkx) a xDa:=xhC (xhC ho1);have I3:xDV (xCv 0 xkx):=xBE s.toks (λ b o e=>xhC xdZ)
 have hc3:xfn (xCv 0 xkx) (xBx 0) (xpy ([]:xaI).toArray 0):=xfz;have SQ:xu8 (xBx 0):=by rw [size_push',hs1];lia
 have fc:xpi (xBx 0):=xEF SQ SQ;have nac:a≠xBx 0:=xsB ha SQ;show xmY _ P E (xlE (xCv 0 xkx));show xrY (xBx 0) c (xCv 0 xkx) h3;dsimp only;show xdu (IM ?_) (wpAny_forIn_array' _ (λ rest _ s'=>∃(i:Nat) (kv:xaI),rest=its.drop i/\i≤its.length/\xGe (ks.take i)/\xxE/\xpH a xDa/\∃e2,xpH c (xpy kv.toArray e2)) _ ?_ ?_ _ _ ⟨0,[],rfl,xac,.nil,I3,ho3,0,hc3⟩)
 ·rintro x rest _ s' ⟨i,kv,hr,hi,UJ,I',hoa,e2,O4⟩;have hx:xgb its:=by
   have:xbw (its.drop i) 0 x:=by rw [<-hr];rfl
   rw [Ix] at this;show xnL
  have Nf:i<its.length:=xbX hx;have hk:Ν ks ks[i]:=Ex Z4;have TM:rest=its.drop (i+1):=by
   show WF (Gb Nf) hr (Hx hr).2
  have Ip:=I'.pinned (fp:=[a,c]) (xaw (by
   show xjC
   ·exact fa
   ·show xiI hb fc)) (xaw (by
   show xjC
   ·exact xaU hoa eO
   ·show xiI hb (xaU O4 eO)))
  show xaa (IZ (xcw (Wb _ s' _ i x ks[i] hx hk Ip) (Sc r Oq z9) e e));obtain⟨⟨t,hrv⟩,I''⟩:=z9;subst hrv;have hoa':NE (Oq.heap.get? a) xDa:=(I''.pin _ (xoe Z6 hoa)).1;have hoc':NE (Oq.heap.get? c) (xpy kv.toArray e2):=(I''.pin _ (xoe Z6 O4)).1;have I2:=I''.unpinned;have Ra:kv.length=i:=by rw [UJ.length,EH];lia
  dsimp only;show xaa (JV hoc' rfl xeR (hsz:=by rw [EO,Ra,IH];lia) (hsz2:=by rw [Array.size_push,EO,Ra,IH];lia));refine⟨i+1,kv++[xbq ks[i]],TM,Nf,?_,I2.turn fc,?_,?_⟩
  ·rw [F1,hk];exact uz UJ
  ·show xA1 c _ a=_;show LE (Hk _ _ _ _ nac) hoa'
  ·have e:=JW hoc' (λ x=>x.push (xst ks[i]));show WF List.push_toArray e xmT
 ·rintro _ s' ⟨i,kv,hr,hi,UJ,I',hoa,e2,O4⟩;have hie:xvw i:=by
   show xdA (xjS hr) EE;simp at this;lia
  rw [hie,hl,Fy] at UJ;have Ra:xvw kv.length:=by rw [UJ.length,hl]
  have hz:xvw (xrV).size:=by show xbc Array.size_zip;exact Ha (EL Ra.symm)
  have I4:xlD (xG0 (xER xBq)):=I'.turn fc;have V2:xfn (xER xBq) a xDa:=by show LE (Hk _ _ _ _ nac) hoa
  have fin:∀out:Os,xIv SG.kInt->xK0 xfi xsl->P (xKs .none) (xG0 ((xER xBq).update a (Obj.mapSeq λ _=>out.map (·.2)))):=by
   intro out hp hs;show xiU e5 (JW V2 (λ _=>out.map (·.2))) (xER xBq) h4;show xcF I5 (xlD (xG0 (xLD a))) (Inv.turn (s:=xG0 h4) I4 fa) (xLD a) h5;exact xcX out kv I5 (xa1 e5) UJ hp hs
  show xaa (listItems_at O4 rfl ?_);by_cases h2:its.toArray.size<2
  ·rw [EU h2,EU h2];show xaa xeR;show xjw StateT.run_pure xeR;dsimp only;show xdu (JV O4 rfl ?_ (hsz:=by rw [EO,Ra,IH];lia)) xHt;show xdu (xJT V2 ?_) (JV V2 rfl ?_ (hsz2:=by rw [Array.size_map];show(xrV).size≤_;rw [hz,IH];lia));simp only [bne_self_eq_false,Hg,JO];refine EM (fin _ (SG.WV ?_) ?_)
   ·rw [FN];show(xrV).size<2;show WF EO h2 (lt_of_eq_of_lt hz h2)
   ·have:xmB xrV xsl:=Z6;show SM.L9 _ _ (xrV).toList _;show LE this xJ2
  ·rw [xmx,xmx];rw [EO] at h2;have hkk:keyKind' kv.toArray=pure oneType':=by
    match kv,UJ,Ra with
    | [],_,Ra=>simp at Ra;lia
    | [_],_,Ra=>simp at Ra;lia
    |v₁::v₂::vs,UJ,_=>exact keyKind_ints UJ
   show xjw hkk xeR;have hzl:xmB xrV xsl:=Z6;have hik:xhh (arrOf (xMz xrV #[] 7 none)).toList (SG.OG SG.kInt p):=by
    intro p hp;have hp':p∈xsl:=by show xaC hzl hp
    show xay n t e (UJ.all _ (JU hp').1) ⟨n,by show Τ e⟩
   show xaa (xcw (SG.Sq SG.WY (sq0:=xMz xrV #[] 7 none)
    (Q:=λ _ st'=>xMG (SG.Mr SG.kInt)/\xvo st'/\xEk xfi (xyw).toList xsl)
    rfl rfl rfl hik λ st' a1 a2 a3=>⟨a2,a1,by show xaC hzl a3⟩) ?_ e e)
   rintro⟨⟨⟩,st'⟩ Oq ⟨rfl,hp,hf,hs⟩;have hsz9:xvw (xyw).size:=by rw [<-FN,xJo xEQ hs,List.length_zip,Ra,Nat.min_self]
   dsimp only;show xdu (JV O4 rfl ?_ (hsz:=by rw [EO,Ra,IH];exact xdC MO)) xHt;show xdu (xJT V2 ?_) (JV V2 rfl ?_ (hsz2:=by rw [Array.size_map,hsz9,IH];omega));rw [hf];simp only [bne_self_eq_false,Hg,JO];exact EM (fin _ hp hs)
def px {σ:St}
  (I:Ps) (hp:xJm its.toArray) (hl:its.length=ks.length) (MO:xb0 its.length)
  (Wb:∀(MC:Wp) (s':LH) (E':Ρ) (i:Nat) (x:LG) (k:Int),xgb its->Ν ks k->xqE X σ H s'->xAN X.A.in1.in1 (xqh xbT) (λ r Oq=>(∃t,r=xbq k)/\xqE X σ H Oq) E' s')
  (h:∀(s':LH) (l:LF) (out:Os) (kv:xaI),xxE->xpi l->(∃e,s'.heap.get? l=some (seqObj "list" (out.map (·.2)) e))->xGe ks->xIv SG.kInt->xK0 xfi xsl->xrJ s'):
  xjU (xr6 "sorted" xaV [(xns,xbN)]) Q E s:=by
 refine call_function_entry_kw kind_sorted plain_sorted entry_sorted (iY _ _) ?_;unfold Builtin.«sorted»;refine Ev (m:=checkCount "sorted" 1 1 _) xeR;show xdu (collect_list hp ?_) xEG;have hsz:((s.heap.push (seqObj "list" #[] 0)).update s.heap.objs.size (Obj.mapSeq (·++its.toArray))).objs.size=xcq:=by
  rw [Heap.size_update,size_push']
 have hoL:xfn (((s.heap.push (seqObj "list" #[] 0)).update s.heap.objs.size (Obj.mapSeq (·++its.toArray))).push (seqObj "list" its.toArray 0)) xcq (xBm 0):=by
  show xaC hsz xfz
 have I2:xDV (xLt (xBm 0)):=xGK (λ b o e=>
  xhC (by show LE (Hk _ _ _ _ xC9) xdZ))
 show xki _ (xlE (xLt (xBm 0)));rw [hsz];have fl:xpi xcq:=xEF xky xky;show xaa (Gf (wpAny_call_entry_kw slot_list_sort (xqt hoL) entry_list_sort (vv I2 hoL fl hl MO Wb λ s' out kv a1 a2 a3 a4 a5=>xEM) (gl _ _)));exact EM (xa9 (h s' _ out kv a1 fl a2 a3 a4 a5))
def zi (K:Frag)(sp:Sp)(t:TA):TE:=λ σ H Q=>xdo λ zs H1=>∃(p:LF) (xs:LT) (ks:xkk),zs=xaV/\K' K H1 p xs/\xCX ks.length/\xb0 xs.length/\
 (∀(i:Nat) v k,xri v->Ν ks k->sp [v] H1 (λ r H2=>r=.int k/\H2=H1) E0)/\
 ∀l m,xgW l->(m.map (·.1)).Pairwise (·≤·)->xBA SG.ky m (ks.zip xs)->xrJ (upd H1 l (.lst (m.map (·.2))))
def lf {fe:LN}{p:Pos}{kp:Pos}{pos:Pos}{y:Str}{t:TA}(F:xBg LZ k f fd xc0 sp)(hr:xvl (k+2))(hb:xuO X.K xc0 [])(hg:xvF "sorted")(hm:xnA "sorted")(hf:xtu fe xbN)(ha:xiX [e] t)
  (he:Μ (xvW (e:: [])=xfH::xvW [])) (Pn:xLx)
  (Mf:Μ ((backToKw pos (keywordEach [⟨some "key",fe,kp⟩] X.env)).all (·.1.isSome)=true))
  (hkw:Μ ((backToKw pos (keywordEach [⟨some "key",fe,kp⟩] X.env)).any (·.1.isNone)=false))
  (hfm:Μ ((backToKw pos (keywordEach [⟨some "key",fe,kp⟩] X.env)).filterMap (·.1)=[("key":Str)])):
  xlb "sorted" p [e] [⟨some "key",fe,kp⟩] (zi X.K sp t):=by
 intro LQ s σ H Q I h;show TD (GD (xuB (show xyc "sorted" (.builtin "sorted") from Z8) ?_)) (xMa e (rest:=[]) (xdd xng us) he Pn Mf hkw);show xn4 vs;refine kws_cons (thn (hf LQ s1 σ H1 (λ v H2=>v=xbN/\H2=H1) I1 xj0) λ fv s2 ⟨v,H2,I2,r2,e1,e2⟩=>kws_nil ?_);subst e1 e2;obtain rfl:fv=Value.ref f:=r2;rw [hfm];obtain⟨p,xs,ks,rfl,hq,hlen,MO,Pf,q⟩:=q1;show xpG u ru (gJ r1);obtain rfl:u=Value.ref p:=ru;show xuQ rv pl hz (I2.list hq);show xwy Nf;show xki (xr6 "sorted" xaV [(xns,xbN)]) s2;refine px (ks:=ks) I2 pl.isList Z5 (xhH Nf.symm MO) (λ MC s' E' i x k' hx hk I'=>?_) λ s' l out kv I' fl ⟨en,ho⟩ UJ hp hs=>?_
 ·obtain⟨v,hv,rvv⟩:∃v,xri v/\RelV v x:=by
   have hix:xeM i:=by have:=xbX hx;exact EJ this Nf.symm
   obtain⟨u,e3,r3⟩:=xGQ i (x:=xs[i]) (Ex hix);show ρ hx e3 e3;exact xaU (Ex hix) r3
  refine Kc (Kh (xFJ X.A.in1.in1 s' H2 (xgU xbT) xbT [v] _ E0 hr.in1.in1 I'.env0.in1.in1 (hb s' xbT I'.kIn rfl) (xlU rvv) (Pf i v k' hv hk)) (Sc r Oq hq));cases r with
  |error e=>show xoX
  |ok fl=>
   cases fl with
   |ret u=>
    obtain⟨v',H',I'',rr,e1,e2⟩:=I'.after hq;subst e1 e2;show xar rr I''
   |next=>show xoX
   |brk=>show xoX
   |cont=>show xoX
 ·obtain⟨m,Nd,hpr⟩:=yd hs (B9 UJ rv);have hvals:=zy hpr;have hml:=B8 hpr;have hol:xvw out.toList.length:=by rw [xJo xEQ hs,List.length_zip,UJ.length];lia
  refine xby xax _ (I'.adopt fl (its:=out.toList.map (·.2)) hvals (by rw [Es];show xaF IH) (n:=en) (by rw [ho,<-Array.toList_map])) (q l m fl.1 ?_ Nd);rw [FL];intro i j hi hj YY;rw [Es] at hi hj;have key:∀(i:Nat) (h:i<m.length) (h2:i<out.toList.length),xfi (out.toList[i]' h2)=m[i].1:=by
   intro i hi hi2;obtain⟨t,v,e⟩:=DN hpr (Ex hi);have e':out.toList[i]=(xbq m[i].1,v):=Fb ((Ex hi2).symm.trans e);show Τ e'
  have l1:=xn5 hp i j Z5 Z5 YY;rw [List.getElem_map,List.getElem_map];have l2:τ (SG.kInt.blt (xfi (out.toList[j]' Z4)) (xfi (out.toList[i]' Z4))):=l1;rw [key i hi,key j hj] at l2;have l3:¬m[j].1<m[i].1:=No (by
   have:Pi (SG.kInt.blt m[j].1 m[i].1):=xwU;show ρ this l2 l2)
  exact Int.not_lt.mp l3
universe L2
namespace PM
abbrev Bd:=Nat×Id
noncomputable def pairs:xaB->xaB
 |a::b::r=>(xo5+xgm,a.2++xd4)::xG1
 |_=>[]
def occ (R:xaB)(p:Nat):Nat:=(xC3 b (xs5 xd4)).sum
def MF (B:xaB):Prop:=B.Pairwise λ a b=>xo5≤xgm
def gz {a b:Id}(h:a.Perm b):a.sum=b.sum:=by
 induction h with
 |nil=>rfl
 |cons x _ ih=>simp [ih]
 |swap x y l=>simp;exact Nat.add_left_comm _ _ _
 |trans _ _ h1 h2=>exact h1.trans h2
def pQ {R S:xaB}(h:R.Perm S)(p:Nat):xm1=xdW S:=gz (h.map _)
def kx (R S:xaB)(p:Nat):xdW (R++S)=xm1+xdW S:=by simp [occ]
def eB (b:Bd)(S:xaB)(p:Nat):xdW (b::S)=xs5 xd4+xdW S:=by simp [occ]
def Eg {R U X Y:xaB}(h:xqv R U (X++Y)):∃RX RY UX UY,R.Perm (RX++RY)/\U.Perm (UX++UY)/\X.Perm (RX++UX)/\Y.Perm (RY++UY):=by
 induction R generalizing X Y with
 |nil=>exact⟨[],[],X,Y,.nil,h,.refl _,.refl _⟩
 |cons r R ih=>
  have hr:r∈X++Y:=h.subset ER;show xbO hr hX hY
  ·have e:=Jy hX;have h2:xqv R U (X.erase r++Y):=(h.trans (e.append_right Y)).cons_inv;obtain⟨RX,RY,UX,UY,h3,h4,h5,h6⟩:=ih h2;exact⟨r::RX,RY,UX,UY,h3.cons r,h4,e.trans (h5.cons r),h6⟩
  ·have e:=Jy hY;have h2:xqv R U (X++Y.erase r):=(h.trans ((e.append_left X).trans Jf)).cons_inv;obtain⟨RX,RY,UX,UY,h3,h4,h5,h6⟩:=ih h2;exact⟨RX,r::RY,UX,UY,(h3.cons r).trans Jf.symm,h4,h5,e.trans (h6.cons r)⟩
def u5:∀(n:Nat) {B RP UP:xaB},xnN n->MF B->xqv RP UP xeP->(∀r∈RP,∀u∈UP,r.1≤u.1)->
  ∃R U,xqv R U B/\(∀r∈R,∀u∈U,r.1≤u.1)/\R.length=xH1 2/\(∀p,xm1=xdW RP)/\∀r∈R,∃q∈RP,∃x∈B,xa5=r.1+xgt:=by
 intro n
 induction n with
 |zero=>
  intro B RP UP hB _ h _;have e:B=[]:=Gq.mp xLN;subst e;have:RP=[]/\UP=[]:=by
   have:=Lf.mp h;show xnL
  show xmU this ⟨[],[],.nil,xqF (by show xbd),rfl,xf2,xqF (by show xbd)⟩
 |succ n ih=>
  intro B RP UP hB hs h hle
  match B,hB,hs,h with
  | [],_,_,h=>
   have:RP=[]/\UP=[]:=by
    have:=Lf.mp h;show xnL
   show xmU this ⟨[],[],.nil,xqF (by show xbd),rfl,xf2,xqF (by show xbd)⟩
  | [x],_,_,h=>
   have:RP=[]/\UP=[]:=by
    have:=Lf.mp h;show xnL
   show xmU this ⟨[],xbT,.refl _,xqF (by show xbd),rfl,xf2,xqF (by show xbd)⟩
  |a::b::r,hB,hs,h=>
   have Tq:MF r:=xC2 (xC2 hs);have ha:=xCq hs;have hb:=xCq (xC2 hs);have hab:xo5≤xgm:=ha b ER;have hm:(xo5+xgm,a.2++xd4)∈RP++UP:=h.symm.subset ER;show xbO hm hR hU
   ·have e:=Jy hR;have h2:xqv (RP.erase (xo5+xgm,a.2++xd4)) UP xG1:=((e.append_right UP).symm.trans h).cons_inv;obtain⟨R,U,h3,h4,h5,h6,h7⟩:=ih (by simp at hB;exact HK hB) Tq h2 λ x hx u hu=>hle x (Ko hx) u hu
    show xaD hl e.length_eq EK hl;refine⟨a::b::R,U,(h3.cons b).cons a,?_,?_,xdr p,?_⟩
    ·intro x hx u hu;have hur:u∈r:=h3.subset (xnS hu);show xel hx hx
     ·exact ha u (xkg hur)
     ·show xel hx hx
      ·exact hb u hur
      ·exact h4 x hx u hu
    ·rw [EK,EK,h5];lia
    ·rw [pQ e p,eB,eB,eB,h6 p];show _=xs5 (a.2++xd4)+_;show xaF IL
    ·intro x hx;show xel hx hx
     ·exact xdE hR b Z6 rfl
     ·show xel hx hx
      ·exact xdE hR a Z6 (Iw _ _)
      ·obtain⟨q,hq,y,hy,e⟩:=h7 x hx;exact⟨q,Ko hq,y,xkg xwp,e⟩
   ·have e:=Jy hU;have h2:xqv RP (UP.erase (xo5+xgm,a.2++xd4)) xG1:=(Jf.symm.trans ((e.append_left RP).symm.trans h)).cons_inv;obtain⟨R,U,h3,h4,h5,h6,h7⟩:=ih (by simp at hB;lia) Tq h2 λ x hx u hu=>hle x hx u (Ko hu)
    have key:xgF R (xgt≤xo5/\xgt≤xgm):=by
     intro x hx;obtain⟨q,hq,y,hy,e⟩:=h7 x hx;have h8:xa5≤xo5+xgm:=hle q hq _ hU;have h9:=hb y hy;lia
    refine⟨R,a::b::U,?_,?_,h5,h6,PP x hx⟩
    ·exact Jf.trans ((Jf.trans (h3.cons b)).cons a)
    ·intro x hx u hu;show xel hu hu
     ·exact(key x hx).1
     ·show xel hu hu
      ·exact(key x hx).2
      ·exact h4 x hx u hu
    ·obtain⟨q,hq,y,hy,e⟩:=h7 x hx;exact⟨q,hq,y,xkg xwp,e⟩
inductive VO (sg:xaB):xti xaB
 |zero:VO sg 0 []
 |step {k:Nat} {B B':xaB}:VO sg k B->B'.Perm (sg++xeP)->MF B'->VO sg (k+1) B'
noncomputable def sgl (wt:xct) (p:Nat):Bd:=(wt p,[p])
def oJ {wt:xct}{L:Id}{RX UX:xaB}(h:(xdY).Perm (RX++UX)):∃RL UL,L.Perm (RL++UL)/\RX=RL.map xko/\UX=UL.map xko:=by
 have g:xaY (RX++UX) (xko ((xd4).headD 0)=b):=by
  intro b hb;obtain⟨p,_,rfl⟩:=Hh.mp (h.symm.subset hb);rfl
 refine⟨RX.map (·.2.headD 0),UX.map (·.2.headD 0),?_,?_,?_⟩
 ·show xdF (h.map (·.2.headD 0)) GG EG;have e:((λ b:Bd=>(xd4).headD 0)∘xko)=id:=by funext p;rfl
  rw [e,List.map_id] at this;show xfM
 ·rw [GG]
  conv=>lhs;rw [<-List.map_id RX]
  exact JJ (xaw (g b (xld hb)).symm)
 ·rw [GG]
  conv=>lhs;rw [<-List.map_id UX]
  exact JJ (xaw (g b (xnS hb)).symm)
theorem sI {wt:xct}:∀{M:Id} {p:Nat},xdW (M.map xko)=M.count p
 | [],p=>rfl
 |q::M,p=>by
  rw [FZ,eB,sI];show xs5 [q]+_=_;rw [JN,JN];simp;exact Iw _ _
theorem lN {p:Nat}:∀{M:Id},M.Nodup->p∈M->M.count p=1
 | [],_,h=>by show xbd
 |a::M,hn,h=>by
  have hn':=JX.mp hn;rw [JN];by_cases e:a=p
  ·subst e;show xbc (HX hn'.1)
  ·have hm:p∈M:=by
    show xix h h h
    ·show xab h.symm e
    ·exact h
   rw [lN hn'.2 hm];simp [e]
def kr (R:xaB)(k:Nat)(S:Id):Nat:=xFK (λ p=>2^(k-xm1))
def uZ {S:Id}{f:xct}{c:Nat}(h:xhh S (f p=c)):xFK f=xtj c:=by
 induction S with
 |nil=>rfl
 |cons a S ih=>
  rw [FZ,Jv,xlu a,ih λ p hp=>xhQ p hp,EK,Nat.mul_succ];exact Iw _ _
def uU {S:Id}{f g:xct}(h:xhh S (f p=g p)):xFK f=xFK g:=by rw [JJ h]
def xB {wt:xct}{L:Id}(hL:L.Nodup)(hw:xds p L 0 (wt p)){k:Nat}{B:xaB}(lv:VO xdY k B):MF B/\(xds b B 0 xgm)/\
  ∀R U,xqv R U B->(∀r∈R,∀u∈U,r.1≤u.1)->∃S T,L.Perm (S++T)/\(xhh S (ω xm1/\xm1≤k/\xko p∈R))/\(∀p,p∉S->xm1=0)/\2*kr R k S+2^k*R.length=xtj (2^(k+1)):=by
 induction lv with
 |zero=>
  refine⟨.nil,xqF (by show xbd),λ R U h _=>?_⟩;have:R=[]/\U=[]:=by
   have:=Lf.mp h;show xnL
  show xmU this ⟨[],L,.refl _,xqF (by show xbd),xnj,rfl⟩
 | @step k B B' _ hp hs ih=>
  obtain⟨hsB,Nv,ih⟩:=ih;have pos_pairs:∀(n:Nat) (B:xaB),xnN n->(xds b B 0 xgm)->xds b xeP 0 xgm:=by
   intro n
   induction n with
   |zero=>intro B hB _ b hb;show xeU (B=[]) (Gq.mp Z5);show xzN hb
   |succ n ih2=>
    intro B hB h b hb
    match B,hB,h,hb with
    | [],_,_,hb=>show xzN hb
    | [x],_,_,hb=>show xzN hb
    |x::y::r,hB,h,hb=>
     show xjC
     ·have:=xlu x;show 0<xgt+xhj;exact Nat.add_pos_left this _
     ·exact ih2 r (by simp at hB;lia) (xaw (xhQ b xDw)) b hb
  refine⟨hs,xes,λ R U h hle=>?_⟩
  ·show xbO xJp hb hb
   ·show xay p hpL rfl xHd (hw p hpL)
   ·exact pos_pairs _ B Tl Nv b hb
  ·obtain⟨RX,RP,UX,UP,h1,h2,h3,h4⟩:=Eg (h.trans hp);obtain⟨RL,UL,h5,rfl,rfl⟩:=oJ h3;have mR:∀b,b∈RL.map xko\/b∈RP->b∈R:=xaw (h1.symm.subset (EQ.mpr hb))
   have mU:∀b,b∈UL.map xko\/b∈UP->b∈U:=xaw (h2.symm.subset (EQ.mpr hb))
   obtain⟨R',U',h6,h7,h8,h9,h10⟩:=u5 _ Tl hsB h4.symm λ r hr u hu=>hle r (mR r (.inr hr)) u (mU u (.inr hu))
   obtain⟨S,T,Qe,h12,h13,h14⟩:=ih R' U' h6 h7;have XW:∀p,xm1=RL.count p+xdW R':=λ p=>by rw [pQ h1 p,kx,sI,h9 p]
   have hndR:RL.Nodup:=xMb (h5.nodup_iff.mp hL);have hndS:S.Nodup:=xMb (Qe.nodup_iff.mp hL);have hsub:xhh S (p∈RL):=by
    intro p hpS;have hpL:p∈RL++UL:=h5.subset (Qe.symm.subset (xld hpS));show xbO hpL hh hh
    ·exact hh
    ·obtain⟨q,hq,x,hx,e⟩:=h10 _ (xbI (h12 p hpS));have:=hle q (mR q (.inr hq)) _ (mU _ (.inl (KF hh)));have hx0:=Nv x hx;have e':xa5=wt p+xgt:=e;have:xa5≤wt p:=this;lia
   have ZJ:xhh RL (RL.count p=1):=λ p hp=>lN hndR hp
   refine⟨RL,UL,h5,λ p hpR=>⟨?_,?_,mR _ (.inl (KF hpR))⟩,PP p hpR,?_⟩
   ·rw [XW,ZJ p hpR];exact EY 1 _
   ·rw [XW,ZJ p hpR];by_cases hpS:p∈S
    ·show xbu (Δ (h12 p hpS))
    ·show xaF (h13 p hpS)
   ·rw [XW,HX hpR,h13 p (No (hpR (hsub p z)))]
   ·
    have hspl:RL.Perm (S++xGR p (! xH7 p S)):=by
     have e1:RL.Perm (RL.filter (xed p (p∈S))++xGR p (! xH7 p S)):=(List.filter_append_perm _ _).symm;refine e1.trans (List.Perm.append_right _ ?_);rw [List.perm_ext_iff_of_nodup (hndR.filter _) hndS];intro p;simp only [Hu,decide_eq_true_eq];show xar (λ h=>xex) (λ h=>⟨hsub p h,h⟩)
    have hkr:kr R (k+1) RL=kr R' k S+2^k*(xGR p (! xH7 p S)).length:=by
     unfold kr;have e2:(RL.map λ p=>2^(k+1-xm1)).sum=(RL.map λ p=>2^(k-xdW R')).sum:=by
      refine uU xmK
      rw [XW,ZJ p hp,show k+1-(1+xdW R')=k-xdW R' by lia]
     rw [e2,gz (hspl.map _),EG,Ij];congr 1;refine uZ xmK
     simp only [Hu,K6,decide_eq_false_iff_not] at hp;rw [h13 p hp.2,IT]
    have hlR:=h1.length_eq;have hlS:=hspl.length_eq;rw [Et,Es] at hlR;rw [Et] at hlS;rw [hkr,hlR,Gm 2 (k+1),Gm 2 k];rw [h8,Gm 2 k] at h14;show xrY (xGR p (! xH7 p S)).length xl (2^k) q;rw [hlS];have e0:∀z,q*2*z=2*(q*z):=No (by rw [F5 q 2,Gn])
    have e00:∀z,q*2*2*z=4*(q*z):=No (by rw [Gn (q*2) 2 z,e0 (2*z),K8 q 2 z];lia)
    have e3:q*(xH1 2)=2*(xH1 q):=by rw [K8]
    have e4:xtj (q*2)=2*(xtj q):=e0 _;have e5:q*2*(xsk xl+RP.length)=2*(xtj q)+2*(q*xl)+2*(xH1 q):=by
     rw [e0,IX q,IX q];lia
    have e6:q*2*2*(xsk xl)=4*(xtj q)+4*(q*xl):=by
     rw [e00,IX q];exact IX 4 _ _
    rw [e5,e6];rw [e3,e4] at h14;lia
theorem d8:∀(n:Nat) {B:xaB},xnN n->xaJ xeP (B.length/2)
 |0,[],_=>rfl
 |_+1,[],_=>rfl
 |_+1,[_],_=>by simp [pairs]
 |n+1,a::b::r,hB=>by
  have h1:=d8 n (B:=r) (by simp at hB;lia);rw [pairs,EK,h1,EK,EK];lia
theorem o3 {L:Id}:∀(n:Nat) {B:xaB},xnN n->(xaY B (xhh xd4 (p∈L)))->xaY xeP (xhh xd4 (p∈L))
 |0,[],_,_,_,hb=>by cases hb
 |_+1,[],_,_,_,hb=>by cases hb
 |_+1,[_],_,_,_,hb=>by cases hb
 |n+1,x::y::r,hB,h,b,hb=>by
  show xjC
  ·exact λ p hp=>xnv hp (xlu x p) (xhQ y ER p)
  ·exact o3 n (by simp at hB;lia) (xaw (xhQ b xDw)) b hb
def A9 {L:Id}{wt:xct}{k:Nat}{B:xaB}(lv:VO xdY k B):xaY B (xhh xd4 (p∈L)):=by
 induction lv with
 |zero=>intro b hb;cases hb
 | @step k B B' _ hp hs ih=>
  intro b hb;show xbO xJp hb hb
  ·show xay p hpL rfl xHd (λ q hq=>by show xiI hq hpL)
  ·exact o3 _ Tl ih b hb
def z7 {L:Id}{wt:xct}{k:Nat}{B:xaB}(lv:VO xdY k B):xb3*2^k+1≤xzC (2^k)+xb3+2^k:=by
 induction lv with
 |zero=>simp
 | @step k B B' _ hp hs ih=>
  have hl:=hp.length_eq;rw [Et,Es,d8 _ (B:=B) Tl] at hl;rw [hl,Gm];have h2:xnN (2*(B.length/2)+1):=Z5;show xrY (B.length/2) h B.length b;show xrY L.length n (2^k) q;have h3:q*b≤q*(2*h+1):=GJ _ h2;have e1:q*(2*h+1)=2*(q*h)+q:=by rw [IX,K8];lia
  have e2:2*n*q=2*(q*n):=by rw [Gn,F5 n]
  have e3:2*n*(q*2)=4*(q*n):=by rw [<-Gn,e2];lia
  have e4:q*2*(n+h)=2*(q*n)+2*(q*h):=by rw [F5 q 2,Gn,IX q];exact IX 2 _ _
  rw [e3,e4];rw [e2] at ih;lia
def best {L:Id}{wt:xct}(hL:L.Nodup)(hw:xds p L 0 (wt p)){m:Nat}{B:xaB}(lv:VO xdY m B)(hn:xgR 2)(hm:xfm (2^m)):
  (xhh L (ω (xdW xrl)/\xdW xrl≤m))/\(∀p,p∉L->xdW xrl=0)/\
  (L.map λ p=>2^(m-xdW xrl)).sum≤2^m:=by
 obtain⟨hs,Nv,hpart⟩:=xB hL hw lv;have hlen:xf3 (xb3-2):=by
  have h1:=z7 lv;have h0:0<2^m:=xks;show xa3 B.length (xb3-2) h h
  ·exfalso;have h2:2^m*(xs1 3)≤2^m*(xb3):=GJ _ Z5;rw [IX] at h2;rw [F5 xb3] at h1;lia
  ·exact h
 have Y8:xaJ xrl (xb3-2):=by show xni (Fp hlen)
 have S8:xqv xrl (B.drop (xb3-2)) B:=by rw [E9]
 have hle:∀r∈xrl,∀u∈B.drop (xb3-2),r.1≤u.1:=by
  have:MF (xrl++B.drop (xb3-2)):=by show LE E9 hs
  exact xbI (EN.mp this)
 obtain⟨S,T,h1,h2,h3,h4⟩:=hpart _ _ S8 hle;rw [Y8] at h4;generalize xrl=R at*;show xaD hlL h1.length_eq Et hlL;have hT:T=[]:=by
  rcases Iz T.length with h|h
  ·exact Gq.mp h
  ·exfalso;have h0:0<2^m:=xks;have h5:xtj (2^(m+1))≤2^m*(xb3-2):=by
    have:xtj 2≤xb3-2:=Z5;rw [Gm,Gn];exact GJ _ this
   have OV:kr R m S=0:=Z5;have hS0:S=[]:=by
    match S,OV with
    | [],_=>rfl
    |p::S',OV=>
     exfalso;unfold kr at OV;rw [FZ,Jv] at OV;have:0<2^(m-xm1):=xks;lia
   subst hS0;rw [OV] at h4;have h6:2^m*(xb3-2)=0:=by simpa using h4
   rcases Nat.mul_eq_zero.mp h6 with h|h<;>lia
 subst hT;rw [Fw] at h1;rw [JT,HP] at hlL;have hkL:kr R m S=(L.map λ p=>2^(m-xm1)).sum:=(gz (h1.map _)).symm;refine Ψ xmK (λ p hp=>h3 p (No (hp (h1.symm.subset z))))
 ·obtain⟨a,b,_⟩:=h2 p (h1.subset hp);show xar a b
 ·rw [<-hkL];rw [<-hlL,Gm] at h4;have e:2^m*(xb3-2)+2*2^m=2^m*2*L.length:=by
   rw [F5 2 (2^m),<-IX,Gn];congr 1;lia
  lia
def y9 {wt:xct}{p:Nat}{k:Nat}{B:xaB}(lv:VO ([p].map xko) k B):k=0\/B=[xko p]:=by
 induction lv with
 |zero=>exact xbF
 | @step k B B' _ hp hs ih=>
  right
  have:xeP=[]:=by
   show xja ih
   ·rename_i h;cases h;rfl
   ·rfl
  show WF this hp (List.perm_singleton.mp hp)
def S5 (P:Id)(wt:xct)(m:Nat)(ln:xct):Prop:=
 (xhh P (ω (ln p)/\ln p≤m))/\(∀p,p∉P->ln p=0)/\xKt (λ p=>2^(m-ln p))≤2^m
def S5.perm {P L:Id}{wt:xct}{m:Nat}{ln:xct}(h:S5 L wt m ln)(hp:L.Perm P):S5 P wt m ln:=by
 show xay h1 h2 h3 h ⟨λ p hpP=>h1 p (hp.symm.subset hpP),λ p hpP=>h2 p (No (hpP (hp.subset z))),by show xaC (gz (hp.map _)) h3⟩
def wQ {L:Id}{wt:xct}(hL:L.Nodup)(hw:xds p L 0 (wt p)){m:Nat}{B:xaB}(lv:VO xdY m B)(h1:xgR 1)(Xx:ω m)(hm:xfm (2^m)):
  S5 L wt m (occ (xvC 1 (xb3-2))):=by
 by_cases hn:xgR 2
 ·have e:max 1 (xb3-2)=xb3-2:=Z5;show xdM (best hL hw lv hn hm)
 ·match L,h1,hn,hL,hw,lv with
  | [p],_,_,_,hw,lv=>
   rcases y9 lv with h|rfl
   ·lia
   ·have e:∀q,occ ([xko p].take (max 1 (2* [p].length-2))) q=xzz [p]:=λ q=>by
     show occ [xko p] q=_;rw [eB];show xzz [p]+occ [] q=_;rfl
    have ep: xs5 [p]=1:=Z6;refine Ψ (PP q hq) (PP q hq)
    ·rw [EW.mp hq,e,ep];show xar Tl Xx
    ·show xdM (HX hq)
    ·rw [FZ,KQ,Jv,List.sum_nil,e,ep];have:2^(m-1)≤2^m:=xxx (Iq _ 1)
     assumption
  |a::b::r,_,hn,_,_,_=>show xab Z6 hn
universe PM
namespace SM
theorem Py {kf:β->κ}(O:Ord blt)(φ:α->β):∀{mm:List β} {Z:xbH},xf8 mm (Z.map φ)->∃Z',mm=Z'.map φ/\xEg (No (xzF z)) Z' Z
 | [],Z,h=>by
  show xaD e (xFI O h) Es e;show xbL Z [] (Gq.mp e.symm) (xd9 [] xgN)
 |x::mm,Z,h=>by
  have hx:=xwf h (xz6 x (l:=mm));obtain⟨z0,hz0,ez0⟩:=Hh.mp hx;obtain⟨l1,y,l2,rfl,hy,h1⟩:=M1 (p:=No (xp8 xcT (φ z))) (ys:=Z) ⟨z0,hz0,by show LE ez0 (ML O x)⟩;have e:=h xcT;have n1:(l1.map φ).filter (xp8 xcT)=[]:=G5.mpr λ u hu=>by
   show xay z hz rfl (Hh.mp hu) (h1 z hz)
  rw [EG,FZ,E2 (ML O x),Fd,n1,FJ,E2 hy] at e;obtain⟨ex,e2⟩:=Hx e;subst ex;have ht:xf8 mm ((l1++l2).map φ):=λ k=>by
   rw [EG,Fd];by_cases hk:xtr k (φ y)
   ·have z:=MZ.mp hk;show xeU (xzF y=k) (O.tot _ _ xd2 xhn);rw [n1,FJ];exact e2
   ·have e3:=xjN;rw [EG,FZ,xos,Fd,xos] at e3;exact e3
  show xa0 Z' rfl hs (Py O φ ht) (xd9 (y::Z') (xdr k));show xaD Tq (hs k) Fd Tq;rw [Fd];by_cases hk:Pi (xu4 (No (xzF z)) k y)
  ·have z:=MZ.mp hk;have ek:xzF y=k:=O.tot _ _ xd2 xhn;subst ek;have n2:l1.filter (xu4 (No (xzF z)) (xzF y))=[]:=G5.mpr λ u hu=>h1 u hu
   rw [n2,FJ] at Tq ⊢;rw [E2 hk,E2 hk,Tq]
  ·rw [xos,xos,Tq]
def RC (ψ:α->γ){kf':α->κ}(hk:∀z,kf' z=kg (ψ z))(h:xEg kf' Z' Z):xEg kg (Z'.map ψ) (Z.map ψ):=λ k=>by
 rw [KB,KB];have e:(xu4 kg k∘ψ)=xu4 kf' k:=by
  funext z;show xu4 kg k (ψ z)=xu4 kf' k z;show xaP eqv hk
 rw [e,xjN]
universe SM
namespace D6
open PM SM
abbrev wI (b:Bd):Int:=xzI
inductive O1 (sg:xaB):xti xaB
 |zero:O1 sg 0 []
 |step {k:Nat} {B B':xaB}:O1 sg k B->L9 SG.ltI wI B' (sg++xeP)->MF B'->O1 sg (k+1) B'
def O1.lev (h:O1 sg k B):VO sg k B:=by
 induction h with
 |zero=>exact .zero
 |step _ hs hso ih=>exact .step ih (Mn SG.Rm hs) hso
def tJ {B:xaB}(h:MF B):B.Pairwise (Le SG.ltI wI):=h.imp λ {a b} hab=>by
 show τ (xft xzI (M2 xo5));exact F7 Z5
def O1.uniq (h:O1 sg k B)(h':O1 sg k B'):B=B':=by
 induction h generalizing B' with
 |zero=>cases h';rfl
 |step _ hs hso ih=>
  cases h' with
  |step h2 Ot hso2=>
   have:=ih h2;subst this;exact Px SG.Rm (tJ hso) (tJ hso2) (hs.trans Ot.symm)
universe D6
namespace QQ
open PySem PyProof.Rows
def qY {i:Nat}(hq:xsO A)
  (he:IsEnum s.heap e it i old) (hit:xIL l i) (hl:xI6 l) (hx:W1 items[i]?)
  (hQ:∀h',xu1 it h'->xDY xeQ):xeD (pyNext xf6):=by
 have hT:s.TypeIs xf6 "enumerate":=xqt he;show xgY pyNext (IZ (Hb hT KJ
  (Io KJ hT PySem.F.entry_enumerate_next ?_ (PySem.F.args_enumerate_next_1 _))))
 show xki (field xf6 2>>= _) _;show xdu (Gw he rfl rfl ?_) (nA hq hit hl hx λ h' x he' hx'=>?_);show xa0 o ho hc hx' (Ev (xEY (xer ho hc) ?_));exact EM (hQ _ he')
universe QQ
namespace L2
open PySem PySem.Spec PyProof.Rows QQ
def VQ (K:Frag)(a:LF):It:=
 ⟨λ i H=>∃xs x,xgC/\xkW,λ i H v H'=>∃p x,xid/\v=xad/\H'=xcn H p [.int xd0,x]/\∀xs,xgC->xkW,λ i H=>∃xs,xgC/\xs.length≤i⟩
def vj {K:Frag}(a e it)(My:e≠it):
  Turn P w K (xGx k pos) xoT [e,it] e (λ i h=>(∃old,IsEnum h e it xd0 old)/\h.IsListIter it a i) where
 mem:=Z6
 obj:=λ i h st b hb=>by
  show xBP he hit st;show xix hb hb hb
  ·subst hb;exact xaU he (λ v z=>by
    have z':xJH=xKq:=z;cases z')
  ·obtain rfl:=xCQ;obtain⟨o,e',c,d⟩:=hit;exact xer e' (λ v z=>by show ρ d z z)
 keep:=λ i h h' st k=>by
  show xBP he hit st;show xar ⟨old,k e Z6 _ he⟩ (hit.at λ o x=>k it Z6 o x)
 item:=by
  intro X hP hw hK hc i LQ s σ H E I hf st hg;subst hP hw hK;show xBP he hit st;obtain⟨xs,x,hq,hx⟩:=hg;show xiu rv p hq;obtain⟨u,hu,ru⟩:=rv.get hx;obtain⟨e0,e1,e2,e3,e4,e5⟩:=hf e Z6;obtain⟨f0,f1,f2,f3,f4,f5⟩:=xum;have elt:xvd e:=E1 he;have ilt:xvd it:=by obtain⟨o,e',_⟩:=id hit;exact E1 e'
  have hT:xME:=xlI;show TD (wpAny_pyNext_enum_item he hit p.isList (by show xzL) My λ h1 ho hit1 ht hsz kk=>?_) (xa9 (wpAny_letOwnedTupleGo_enum ho (Sc h2 TC Ot)));have kept:∀b o,xfK->xfc it->xaG=IO->h2.get? b=IO:=λ b o n1 n2 x=>xhr Ot n1 (kk b o n1 n2 x)
  have XQ:NE (h2.get? s.heap.objs.size) (xG3 (.seq #[xcD s.toks,u])):=xnq Ot _ (Iy elt) ht;have UO:∀b o,xaG=IO->xu7 b:=λ b o x=>FA (E1 x)
  have nT:∀b o,xb7=IO->xu7 b:=λ b o x z=>by show xbb hT x x
  have nE:∀b o,xb7=IO->xfK/\xfc it:=λ b o x=>⟨No (by show xbb e0 x x),No (by show xbb f0 x x)⟩
  have he3:IsEnum h2 e it (xhg) u:=by
   have:(xhg)=xd0+1:=Nat.ToInt.add_congr rfl rfl;show LE this TC
  have V4:h2.IsListIter it a (i+1):=hit1.at λ o x=>xnq Ot it My.symm x
  have I2:xrR (xcn H s.heap.objs.size [.int xd0,x]) s h2 xy9:=by
   refine I.step (ch:=[e,it]) xes (λ b o _ _ hb x _=>kept b o (xhe (by simp [z])) (xhe (by simp [z])) x)
    (λ b o _ _ hb x _=>xCj (kept b o (xhe (by simp [z])) (xhe (by simp [z])) x)) (λ b o _ x n=>by show Re (UO b o x) n)
    (λ b o hb x=>⟨o,kept b o (xhe (by simp [z])) (xhe (by simp [z])) x⟩) (λ b xs x=>by show Re (nT b _ x) x) (λ b o u x=>by show Re (nT b _ x) x)
    (λ b ps x=>xAy (by rw [ai (nT b _ x),x];simp)) (PP m hm) (Sc b o x) I.bare
   ·show xix hb hb hb
    ·subst hb;show xav e3 e1 e4 e5
    ·obtain rfl:=xCQ;show xav f3 f1 f4 f5
   ·show xuF es' ep Vy r hm;exact⟨o,es',ep,kept _ o (IG e1) (IG f1) Vy,r⟩
   ·by_cases hb:xE6 b
    ·show xbx hb ad x x;show xav (by show xgE) [xcD s.toks,u] (.cons xa4 (xlU ru)) (xc8 _ XQ _ rfl)
    ·rw [xg9] at x;refine xvz b o x (λ c v Yd q=>?_) (λ c q=>by show Re (nT c _ q) q) (λ c xs q=>by show Re (nT c _ q) q)
     show xcv Yd
     ·subst z;exact kept c v (nE c _ x).1 (nE c _ x).2 q
     ·exact kept c v (nE c _ z).1 (nE c _ z).2 q
  refine⟨xpE,_,I2,rfl,xgB _ x hT rfl (λ ys hy=>by show LE (I.list_inj hy hq) hx),⟨⟨u,he3⟩,V4⟩,xes⟩;show xix hb hb hb
  ·subst hb;show Re (FA elt) e0
  ·obtain rfl:=xCQ;show Re (FA ilt) f0
 done:=by
  intro X hP hw hK hc i LQ s σ H E I hf st hg;subst hP hw hK;show xBP he hit st;obtain⟨xs,hq,hx⟩:=hg;show xiu rv p hq;obtain⟨f0,f1,f2,f3,f4,f5⟩:=xum;show xwy hl;exact qY I.hq he hit p.isList (by simp;exact xK6 hx) λ h' eb=>xcC (xvI (λ b o hb e=>eb b o hb e) f1 f3 f4 f5)
 self:=xG9 h (by
  show xBP he hit st;exact xMo h)
inductive UD (K:Frag) (R:xub) (vs:LT) (H1:Hp):Prop
 |mk (l:_) (xs:_) (h0:vs=[xax]) (h1:K' K H1 l xs) (h2:R (VQ K l) H1):UD K R vs H1
def Dm (K:Frag)(ta:TA):TI:=λ σ H R=>xgy λ vs H1=>UD K R vs H1
def je {X:Cx}(hg:xvF "enumerate")(hm:xnA "enumerate")(ha:xiX xcj ta)(hs:Μ (xfS xcj=[xhD a])):
  PI X (xGx k q) (xD9 "enumerate" p xcj [] pos) (Dm X.K ta):=by
 intro LQ s σ H R I h;show xgl (Call_ (xuB boot_enumerate (Gy (xdd xng us) hs rfl))) vs;obtain⟨l,xs,e,hq,q⟩:=q1;subst e;cases r1 with
 |cons r rr=>
  cases rr;cases r;show xuQ rv p hz (I1.list hq);refine call_enumerate_list p.isList λ h' he hit hsz hk=>?_
  have I2:xiw H1 {s1 with heap:=h'}:=xBE s1.toks hk;refine xMo ⟨s1.heap.objs.size+1,[s1.heap.objs.size+1,s1.heap.objs.size],_,_,H1,rfl,I2,vj l _ _ (Nat.succ_ne_self _),⟨xa1 he,hit⟩,xes,q⟩;have MX:s1.heap.objs.size≤b:=by
   show xix hb hb hb
   ·show LE hb xky
   ·show xiI hb Tl
  exact I1.fpOk MX (I1.hok.fresh MX)
def xL {K:Frag}{g:TG}{tt:TT}{te:TE}{R:xrT}(Pv:xaX (xe0 LT))(h0:Pv 0 [] xsE)(hl:∀i ys H,xlh->xig H->xgC)
  (hs:∀i x ys σ H p,xkW->xig H->xwa n->xid->g xad σ (xcn H p [.int xd0,x]) λ σ3 H3=>xz5 H3 λ c H5=>xbZ c (xvA H5 λ y H4=>xgu=xdf/\xgO/\xCD n/\xfN (ys++xc0) xy4) (xCD n/\Pv (i+1) ys H5))
  (hd:∀ys H,xFA H->R H) (mg:∀x σ H (A B:xbR),(∀σ' H',xjE σ'->xjF σ')->xjx A->xjx B) (mtt:∀σ H (A B:xwx),(∀v H',xjE v->xjF v)->tt σ H A->tt σ H B) (mt:∀σ H (A B:VK),(∀v H',xjE v->xjF v)->xfI A->xfI B):
  ∃W:xoR,(∃m,xrn xzR)/\∀i m ys σ' H',xoE->
   (xn8 xoT H'/\R H')\/(xoI xoT H'/\∀x H2,xok xoT H' x H2->xrr x λ σ3 H3=>xz5 H3 λ c H5=>xbZ c (xvA H5 λ y H4=>
    xgu=xdf/\xgO/\∃m',m'<m/\xpw (i+1) (ys++xc0)) (∃m',m'<m/\xCl (i+1) ys H5)):=by
 refine Ψ (λ i m ys σ H=>m=xfq i/\xlh/\xwa n/\xig H) ⟨xs.length,Z6,xac,Ff,h0⟩;rintro i m ys σ H ⟨rfl,hi,hn,p⟩;have q:=xrz ys H hi p;by_cases LU:xeM i
 ·refine xcz ⟨xs,xs[i],q,by simp [LU]⟩ (Sc x H' y);obtain⟨p1,x1,MJ,e1,e2,y⟩:=y;subst e1 e2;refine mg _ _ _ _ _ (λ σ3 H3 z=>mtt _ _ _ _ (Sc c H5 z) z) (xrB x1 ys σ _ p1 (y xs q) p hn MJ);cases c with
  |true=>
   show xjl xag z (mt _ _ _ _ (λ y H4 z9=>by obtain⟨z1,z2,z3,z4⟩:=z9;exact⟨z1,z2,xfq (i+1),xmI,rfl,LU,z3,z4⟩) z)
  |false=>
   show xjl (EI EX) z ⟨xfq (i+1),xmI,rfl,LU,xd2,xhn⟩
 ·have e:xnO i:=xuj;show xqT e ⟨xAc xs q,hd ys H p⟩
universe L2
namespace K33.S
open PySem L2 QQ PM D6
seal PE PA PS PSs PT PW PG PI
inductive RE (vs:LT) (H:Hp) (Q:VK) (LX:XK):Prop
 |mk (a:LF) (B:Id) (hi:Nat) (h0:vs=[Tm,vN hi]) (h1:XL=xfy) (h2:(xaY B (b≤hi))) (h3:xf3 1) (h4:xnN 300) (h5:(∃b∈B,0<b)) (h6:xdK true):RE vs H Q LX
def wZ:P3 xsh xsh fU:=On
def jv (R:Id):xiB=xvU (xC3 b xdj):=by show Τ GG
def QR {f fA fW:LF}(F:Ζ "are_of_things" fU xsh)(AW:xJB cz Jab fA Ze)(W:xqY fW Qn)(T:xbn):xov xsh RE:=by
 show xeL tt ht T.things wZ (λ LS A outer s H vs Q E hr h=>?_)
 intro _;obtain⟨a,B,hi,rfl,hB,hb,h1,h3,⟨b0,UN,Vg⟩,k⟩:=h;have OS:xah 2:=SB;show xjM hn xlX (xgL (aH (xnz (aD (fh AW W T) OS AW (xog (aa ak xdb)))) xHH aA) (xbU (xAq (pD sf sf ak xl7 (xaO 300 ht tt)) (cJ c8 (xkE (vB hn) T.max PyProof.Rows.boot_max xbj) ak xmk)))) ⟨_,rfl,_,rfl,a,B,0,_,rfl,hB,λ b z=>by show xbu (xh3 z),_,rfl,xhY⟩;show xcc ⟨_,rfl,a,_,rfl,Φ hB,_,_,rfl,rfl,_,rfl,xw9 (Ez (by show xdl (Int.toNat_le.mp h1))) h⟩ ⟨_,_,rfl,rfl,_,rfl,xw9 (Ez (by show xdl (Lq rfl rfl h3))) h⟩ ⟨_,rfl,a,B.map (λ b=>xdj),rfl,by show xaC jv xy7,by rw [Es];assumption,Sc n hn hmax⟩;have:xbv (M2 b0):=hmax _ (KF UN);refine xfQ _ rfl ?_
 try dsimp only
 show LE (xuY (xft 0 n) xoi) k
inductive Ww (vs:LT) (H:Hp) (Q:VK) (LX:XK):Prop
 |mk (a:LF) (B:Id) (m:Nat) (h0:vs=[Tm,xjq]) (h1:XL=xfy) (h2:(xaY B (b≤1000000))) (h3:xf3 1) (h4:xnN 300) (h5:(∃b∈B,0<b)) (h6:ω m) (h7:xeB m) (h8:xbg (B.filter (xed b (0<b))) (2^m)) (h9:xqZ):Ww vs H Q LX
def A3:P3 Jak Jak tW:=On
def ndC:(["count"]:xae).Nodup:=Z8
def y3 {f fT fA fW:LF}(F:Ζ "need_shares" tW Jak)(Th:xMR fU xsh fT fdT)(AW:xJB cz Jab fA Ze)(W:xqY fW Qn)(T:xbn):xqQ Jak Ww:=by
 obtain⟨tc,hc⟩:=T.count;show xeL tm hm T.mlen A3 (λ LS A outer s H vs Q E hr h=>?_)
 intro _;obtain⟨a,B,m,rfl,hB,hb,h1,h3,Nv,m1,m2,XZ,k⟩:=h;have Md:xba:=SB;show xgk (xgL (xql (xaK (QR Th AW W T) Th (xc6 Uf (xaO 1000000 hc tc)))) (xeN (xql (xcs (fj W T) W (xcl 1 (xrk xDu)))) (xeA c8 (xkE cF T.len Jh (xbe (jt (N:=["count"]) (g:=xhf) (tt:=o5 (xDH (λ i j=>xzU j i) xtH xHw)) (te:=xtH) rfl rfl Z8 Z8 Z8 (bS Uf)
   (λ fp s H=>xrW 0 ndC) (λ fp s H=>xm7 c8 Uf) (λ fp s H=>Uf)))) (xy8 di SZ) aO))) ⟨_,rfl,a,B,1000000,rfl,hB,hb,h1,h3,Nv,_,rfl,bi Β⟩;refine xbt
 have e1:Pi (xhG xb4 xgg&&xhG xgg 12):=by
  rw [Ez (show xb4≤xgg from Int.toNat_le.mp m1),Ez (show xeB xgg by lia)];rfl
 refine⟨_,rfl,xgg,1,12,rfl,?_⟩;rw [e1];show xa8 (xa9 (bi Β));show TD (xfR a (xhx hB) xe7) (o8 (K:=K) (a:=a) (l:=l) (xs:=xff) (n:=1) (g:=xhf) (tt:=o5 (xDH (λ i j=>xzU j i) xtH xHw)) (te:=xtH)
  (λ i ys H'=>ys=Κ (xvO xyQ b (0<b))/\xap=xdf/\UV) (xq3 ad xgd) (λ i ys H' _ z9=>by show xB1 sm;exact xCu hB) ?_ ?_ ?_ ?_ ?_)
 ·rintro i x ys σ H' hx ⟨rfl,hl,sm⟩ hσ;show xdt b MN (cD hx);have Nf:i<B.length:=xbX MN;show xfP u0 u0 (σ=[u0]) (match σ,hσ with| [u0],_=>xck u0)
  have hlen:xbg (xvO xyQ b (0<b)) 300:=Ew (Kl _ _) (by show xni (xmd _ _ h3));refine⟨_,rfl,_,_,rfl,rfl,_,rfl,?_⟩;rw [cB MN,Fd]
  try dsimp only
  by_cases h0:0<b
  ·show ST (EU (Ez (show xcU<xdj from KC.mpr h0))) ⟨_,rfl,hl,bC (by show xdl (xdC hlen)),rfl,?_,ad,xlx c⟩
   ·rw [E2 (by show xD3),EG];rfl
   ·show xlr xqq
  ·show ST (EI (xnp z (EA z) Z5)) ⟨rfl,?_,?_,sm⟩
   ·show xbc (Fc (by show xD3))
   ·exact hl
 ·rintro ys H' ⟨rfl,hl,sm⟩;rw [Es,Fy] at hl;refine⟨l,_,rfl,Φ hl,_,rfl,_,_,rfl,rfl,xxv Z5 Z9,_,_,rfl,rfl,_,rfl,xDr (xdp sm)⟩;exfalso;show xdF xbJ Es E6;have e2:xb4*2^m=M2 (2^m):=by show xbc LC
  rw [e2] at this;lia
 ·exact λ x σ H A B h z=>xih
 ·exact λ σ H A B h z9=>by obtain⟨v,e1,i,j,e2,e3,c,e4,z⟩:=z9;exact⟨v,e1,i,j,e2,e3,c,e4,xih⟩
 ·exact λ σ H A B h z9=>by show xay v e1 z z9 ⟨v,e1,xih⟩
def Bun (H:Hp)(A:Ω)(t:LF)(b:Bd):Prop:=∃l,t∉A/\l∉A/\xcV t [vN xgm,xax]/\H l=xaf xd4
inductive Of (vs:LT) (H:Hp) (Q:VK) (LX:XK):Prop
 |mk (t l:LF) (n:Nat) (h0:vs=[xfr]) (h1:xcV t [xdH,xax]) (h2:Q xdH H):Of vs H Q LX
def wR:P3 xvN xvN gM:=On
def kR (F:Ζ "weight_of" gM xvN):xew xvN Of:=by
 show xbo wR (λ LS A outer s H vs Q E hr h=>?_);obtain⟨t,l,n,rfl,ht,k⟩:=h;refine xei xHE;exact⟨_,rfl,t,_,_,_,rfl,rfl,xp4,xib,k⟩
inductive Mj (H:Hp) (A:Ω):Ω->Ο xaB
 |nil:Mj H A [] []
 |cons {t:LF} {b:Bd} {ts:Ω} {bs:xaB}:Bun H A t b->xpx->Mj H A (t::ts) (b::bs)
def Mj.keepA {H H':Hp}{A:Ω}{bs:xaB}(h:xpx)(s:∀c o,c∉A->χ=IO->xaL=IO):Mj H' A ts bs:=by
 induction h with
 |nil=>show xeE
 |cons a _ ih=>
  obtain⟨l,n1,n2,h1,h2⟩:=a;exact xkm ⟨l,n1,n2,xci n1 h1,xci n2 h2⟩
def Mj.keep {H H':Hp}{A:Ω}{bs:xaB}(h:xpx)(s:UV):Mj H' A ts bs:=h.keepA λ c o _ e=>s c o e
def Mj.sub {H:Hp}{A A':Ω}{bs:xaB}(h:xpx)(s:∀a∈A',a∈A):xK1 A':=by
 induction h with
 |nil=>show xeE
 |cons a _ ih=>
  obtain⟨l,n1,n2,h1,h2⟩:=a;exact xkm ⟨l,No (n1 (s _ z)),No (n2 (s _ z)),h1,h2⟩
def Mj.app {H:Hp}{A:Ω}{bs cs:xaB}(h:xpx)(g:Mj H A us cs):Mj H A (ts++us) (bs++cs):=by
 induction h with
 |nil=>exact g
 |cons a _ ih=>exact xkm a
def Mj.len {H:Hp}{A:Ω}{bs:xaB}(h:xpx):ts.length=bs.length:=by
 induction h with
 |nil=>rfl
 |cons a _ ih=>rw [EK,EK,ih]
theorem Mj.at {H:Hp}{A:Ω}(h:xpx):∀{i:Nat} {b},Ν bs b->∃t,Ν ts t/\Bun H A t b:=by
 induction h with
 |nil=>intro i b h;show xbd
 |cons a _ ih=>
  intro i b h;cases i with
  |zero=>show xbd;subst h;exact xa9 a
  |succ i=>show xbd;simpa using ih h
def w8:∀n {B} {i} {a b},xnN n->xbw B (2*i) a->xbw B (2*i+1) b->Ν (xeP) (xo5+xgm,a.2++xd4):=by
 intro n
 induction n with
 |zero=>intro B i a b hB h1 _;show xeU (B=[]) (Gq.mp Z5);simp at h1
 |succ n ih=>
  intro B i a b hB h1 h2
  match B,hB,h1,h2 with
  | [],_,h1,_=>simp at h1
  | [x],_,h1,h2=>simp at h2
  |x::y::r,hB,h1,h2=>
   cases i with
   |zero=>simp at h1 h2;subst h1 h2;rfl
   |succ i=>
    rw [xaA (2*(i+1)) (2*i+1+1) (Ik (Nat.succ_add _ 1))] at h1 h2;simp at h1 h2;show(xG1)[i]?=_;exact ih (by simp at hB;exact HK hB) h1 h2
def gE {ts:Ω}{i:Nat}(h:Ν ts t):(xcM)[i]?=SC t:=by rw [Fq,h];rfl
def B5 (m)(h:xmV m):xIP 1 xgg 2/\xEn 1 m 2=M2 (m/2):=by
 have e:xEn 1 m 2=M2 (m/2):=by
  show xaP Builtin.Range.rangeSize (EU Z9)
  split<;>lia
 refine⟨?_,e⟩;have f:∀i,0≤i->i<100000->xLM i:=λ i h0 h1=>by
  show xMp;rw [xoi,xoi];rfl
 show xaP Builtin.Range.small e
 try dsimp only
 rw [f 1 Z9 Z9,f xgg Z5 (xDW h),f 2 Z9 Z9,f (M2 (m/2)) xe4 Z5,EU Z9,f (xgg+(2-1)) Z5 Z5];simp
inductive T7 (vs:LT) (H:Hp) (Q:VK) (LX:XK):Prop
 |mk (p av:LF) (ts:Ω) (B:xaB) (h0:vs=xaV) (h1:xbh=xt4) (h2:(∃o,H av=IO)) (h3:Mj H [av] ts B) (h4:xFU) (h5:(xaY B (xbg xd4 8000000))) (h6:∀(l:LF) (us:Ω) (H':Hp),UV->Ξ->xap=Υ xBk->Mj H' [av] us xeP->xao):T7 vs H Q LX
def Ob:P3 ["bundles","pairs","place","first","second"] xyB kn:=On
def wr {P:LI}{K:Frag}(F:Ζ "in_pairs" kn xyB)(T:xbn):xew xyB T7:=by
 show xbo Ob (λ LS A outer s H vs Q E hr h=>?_);obtain⟨p,av,ts,B,rfl,hp,⟨oav,hav⟩,hB,hBl,hsm,k⟩:=h;refine xbV (xa7 1 Ob.nd xgT (xkH (lH Z7 T.range (aa ak (xhT xl7))) 2 Ob.nd (xaQ 3 Ob.nd (xk6 (xrf XV)) (xeX 4 Ob.nd (xk6 XV) (xi4 FK FV bx SZ (dH (xc6 (xb1 xwo xwn) (xe1 xwo xwn))))))) SZ)
 have Vu:=hB.len;show xfl (xj1 (xdD l nl));have s0:=xje [];have Ot:=B5 ts.length Z5;refine xcx ⟨_,rfl,p,_,rfl,Φ (xhW hp),1,_,2,ts.length/2,rfl,Z9,by show xdl Ot.1,by show xdl Ot.2,J6 Z9,kz (D:=xd5) (lo:=1) (c:=2) (n:=ts.length/2)
  (λ i σ H2=>∃(v2 v3 v4:xca) (us:Ω),σ=[xd3,xhl,v2,v3,v4]/\xjn=Υ xBk/\Mj H2 [l,av] us ((xeP).take i)/\xkS) ⟨none,none,none,[],rfl,ad,.nil,s0⟩ ?_ ?_⟩
 ·clear g1;rintro i σ H2 hi ⟨v2,v3,v4,us,rfl,N3,Tp,sm⟩;have l0:2*i<B.length:=Z5;have l1:2*i+1<B.length:=Z5;have g0:xbw B (2*i) B[2*i]:=Ex l0;have g1:xbw B (2*i+1) B[2*i+1]:=Ex l1;have z0:=hsm _ (Gj l0);have z1:=hsm _ (Gj l1);have hpa:=w8 _ Tl g0 g1;obtain⟨t0,ht0,la,_,_,VC,Q2⟩:=(hB.keep sm).at g0;obtain⟨t1,ht1,lb,_,_,MN,O6⟩:=(hB.keep sm).at g1;show xrY B[2*i] ba B[2*i+1] bb;have e1:xb4+xf7*2=xg5 (2*i):=Z5;have e2:xg5 (2*i)-1=M2 (2*i):=Z5;have Ml:=xep hp;show ST e1 (xfT g2 ⟨_,rfl,_,rfl,_,_,rfl,rfl,?_⟩)
  try dsimp only
  rw [e2];show xgs ⟨p,_,_,_,rfl,rfl,K'.of Ml,aF (gE ht0),xcZ⟩;show xfx g2 ⟨_,rfl,_,rfl,p,_,_,_,rfl,rfl,K'.of Ml,aF (gE ht1),xcZ⟩ g2;show xaD hul Tp.len EH hul;refine⟨_,rfl,xfa N3,_,rfl,t0,_,_,_,rfl,rfl,MD.of VC,xib,_,rfl,t1,_,_,_,rfl,rfl,MD.of MN,xib,_,_,rfl,rfl,
   _,rfl,t0,_,_,_,rfl,rfl,MD.of VC,xic,_,rfl,t1,_,_,_,rfl,rfl,MD.of MN,xic,la,lb,_,_,rfl,rfl,Q2,O6,(by rw [Es,Es,IH];lia),xxP⟩
  have e3:V.int (M2 ba.1+M2 bb.1)=vN (ba.1+bb.1):=xE7 Z5;have s3:=xaR (Κ ba.2++Κ xkR) nq;have h3q:(xbi H2 q (Κ ba.2++Κ xkR)) q=xaf (ba.2++xkR):=by rw [ad,EG]
  have Sy:=xcf N3;show xas (xbi H2 q (Κ ba.2++Κ xkR)) H3 (xeY (by show xgE) t nt)
  try dsimp only
  rw [e3];have s4:=xhz [vN (ba.1+bb.1),xqf] nt;have h4t:xc3 ((xcn H3 t [vN (ba.1+bb.1),xqf]) t) [vN (ba.1+bb.1),xqf]:=ad;have Vn:=xez Sy;have h4q:=xez h3q;show xcF nql (q≠l) (No (by show xbb N3 nq nq)) (xcn H3 t [vN (ba.1+bb.1),xqf]) H4;have W0:xt1 H4:=xJ3;refine⟨l,_,_,rfl,rfl,Vn,bC (by show xcY),SL (2*i+1),SC t0,SC t1,us++[t],rfl,?_,?_,xlx c⟩
  ·rw [ad,EG];rfl
  ·rw [F1,hpa];have kk:∀c o,c∉ [l,av]->H4 c=IO->(xcB H4 (xBk++[V.ref t])) c=IO:=λ c o n e=>by show Re (No (n (by simp [z]))) e
   have h2av:=xep hav;have ntl:t∉ [l,av]:=No (by
    simp only [ET,Kt,or_false] at z;show xja z
    ·show ρ Sy nt nt
    ·show ρ (xcf h2av) nt nt)
   have nqa:q∉ [l,av]:=No (by
    simp only [ET,Kt,or_false] at z;show xja z
    ·exact nql rfl
    ·show ρ h2av nq nq)
   exact(Tp.keepA λ c o n e=>kk _ _ n (W0 _ _ e)).app (xlU ⟨q,ntl,nqa,kk _ _ ntl h4t,kk _ _ nqa h4q⟩)
  ·show xlr (W0 _ _ xqq)
 ·rintro σ H2 ⟨v2,v3,v4,us,rfl,N3,Tp,sm⟩;show WF (EV (by show LE (d8 _ (B:=B) Tl) (EL (congrFun (congrArg HDiv.hDiv Vu.symm) 2)))) Tp (xzY (xd8 us H2 sm nl N3 (Tp.sub λ a h=>by show xbd;simp [h])))
theorem Mj.zip {H:Hp}{A:Ω}{bs:xaB}(h:xpx):∀z∈ts.zip bs,Bun H A xd2 xhn:=by
 induction h with
 |nil=>intro z hz;simp at hz
 |cons a _ ih=>
  intro z hz;rw [List.zip_cons_cons] at hz;show xel hz hz
  ·exact a
  ·exact ih z hz
theorem nZ:∀(as:Ω) bs,(bs.map (λ b=>xzI)).zip (as.map V.ref)=(as.zip bs).map (λ z:LF×Bd=>xvp (xzO z) xd2)
 | [],bs=>by simp
 |a::as,[]=>by simp
 |a::as,b::bs=>by
  have:=nZ as bs;simp only [FZ,List.zip_cons_cons,this]
theorem Mj.take {H:Hp}{A:Ω}{bs:xaB}(h:xpx):∀n,Mj H A (ts.take n) (bs.take n):=by
 induction h with
 |nil=>intro n;rw [List.take_nil,List.take_nil];show xeE
 |cons a _ ih=>
  intro n;cases n with
  |zero=>show xeE
  |succ n=>exact .cons a (ih n)
theorem mD {H:Hp}{A:Ω}:∀{Z:xlA LF Bd},(∀z∈Z,Bun H A xd2 xhn)->Mj H A (Z.map (·.1)) (Z.map (·.2))
 | [],_=>.nil
 |z::Z,h=>.cons (xlu z) (mD λ y hy=>xhQ y hy)
def ya {L:Id}(lv:VO xdY k B):(xaY B (xbg xd4 (2^k)))/\xnN xb3:=by
 have ps:∀n q B,xnN n->(xaY B (xbg xd4 q))->xaY xeP (xbg xd4 (2*q)):=by
  intro n
  induction n with
  |zero=>intro q B hB _ b hb;show xeU (B=[]) (Gq.mp xLN);show xzN hb
  |succ n ih=>
   intro q B hB h b hb
   match B,hB,h,hb with
   | [],_,_,hb=>show xzN hb
   | [x],_,_,hb=>show xzN hb
   |x::y::r,hB,h,hb=>
    show xjC
    ·have h1:=xlu x;have h2:=xhQ y ER;show xaN xgv y.2≤_;show xaF Et
    ·exact ih q r (by simp at hB;exact HK hB) (xaw (xhQ b xDw)) b hb
 induction lv with
 |zero=>show xar (xaw (by simp at hb)) xac
 | @step k B B' _ hp hs ih=>
  have Nu:=d8 _ (B:=B) Tl;have hl:=hp.length_eq;rw [Et,Es,Nu] at hl;refine⟨xes,by show xbu ih.2⟩;have h1:ω (2^(k+1)):=Nat.one_le_two_pow;show xbO xJp hb hb
  ·obtain⟨p,_,rfl⟩:=xHd;exact h1
  ·have:=ps _ _ B Tl ih.1 b hb;show xaF Gm
inductive Ue (vs:LT) (H:Hp) (Q:VK) (LX:XK):Prop
 |mk (p av:LF) (ts:Ω) (L:Id) (wt:xct) (m:Nat) (h0:vs=[xad,xjq]) (h1:xbh=xt4) (h2:(∃o,H av=IO)) (h3:Mj H [av] ts xdY) (h4:MF xdY) (h5:xgR 1) (h6:xfm 300) (h7:ω m) (h8:xeB m) (h9:∀(l:LF) (us:Ω) (B:xaB) (H':Hp),UV->Ξ->xap=Υ xBk->Mj H' [av] us (xvC 1 (xb3-2))->O1 xdY m B->xao):Ue vs H Q LX
def O9:P3 ["singles","most","bundles","step"] xBi mZ:=On
def wW {P:LI}{K:Frag}{f fP fW:LF}{fd fdP Qn:LK}(F:Ζ "lightest_bundles" mZ xBi)(Pa:xbs "in_pairs" kn xyB fP fdP)(We:xbs "weight_of" gM xvN fW Qn)(T:xbn):xov xBi Ue:=by
 show xbo O9 (λ LS A outer s H vs Q E hr h=>?_);obtain⟨p,av,ts,L,wt,m,rfl,hp,⟨oav,hav⟩,hB,hso,n1,n2,m1,m2,k⟩:=h;have Md:xba:=SB;have NL:xrL:=SB;have hn:=xlX;refine xbV (xa7 2 O9.nd (xGN Gg xbj) (xkH (cY Z7 T.range (xbe (xrf SZ))) 3 O9.nd (af (xuo O9.nd (lf (sp:=Of) (kR We) NL We.b Z7 T.sort (xxa fW Z7 We.m) (xbe (xe1 Uf (xcs (wr Pa T) Pa xeW))))))) (xw8 XV bQ (xkE (u9 hn) T.max PyProof.Rows.boot_max (xrk (xrf (xqV xl7))))))
 show xaD Vu hB.len Es Vu;show xfl ⟨_,rfl,p,_,rfl,Φ hp,xdD l0 X6⟩;have s0:=xaR xcM X6;have lv1:O1 xdY 1 xdY:=.step .zero (by rw [xcd (pairs ([]:xaB)) [],Fw];exact xJ2) hso;have e1:xgg-1=M2 (m-1):=xpW m1;refine xcx ⟨_,rfl,_,_,rfl,rfl,?_⟩
 try dsimp only
 show ST e1 ⟨M2 (m-1),rfl,IN (2^62) _,Z5,?_⟩;show ST E6 (xAj xd5 0 (n:=m-1) (λ i σ H2=>∃(lb:LF) (us:Ω) (B:xaB) (v3:xca),σ=[xd3,SL m,SC lb,v3]/\H2 lb=Υ xBk/\Mj H2 [av] us B/\O1 xdY (i+1) B/\xkS) ⟨l0,ts,_,none,rfl,ad,hB.keep s0,lv1,s0⟩ ?_ ?_)
 ·clear g1;rintro i σ H2 hi ⟨lb,us,B,v3,rfl,hlb,Tp,lv,sm⟩;obtain⟨hsz,hBl⟩:=ya lv.lev;have hsz2:xaY B (xbg xd4 8000000):=xaw (by
   have h1:=hsz b hb;have h2:2^(i+1)≤2^12:=xxx Z5;have h3:xjm 2^12=4096:=Z9;exact Ew h1 (xdC h2))
  have Nu:=d8 _ (B:=B) Tl;refine⟨_,rfl,_,rfl,lb,av,us,B,rfl,hlb,xa1 (xep hav),Tp,Z5,hsz2,λ l ps H3 s3 nl hl Vf=>?_⟩;have hpsl:=Vf.len;refine⟨p,l,_,_,rfl,rfl,xcf (xep hp),hl,(by rw [Es,Es,IH];lia),xxP⟩;have s4:=xaR (xcM++xFv) nq;have Mf:Mj (xbi H3 q (xcM++xFv)) [av] (ts++ps) (xdY++xeP):=((hB.keep xFa).app Vf).keep s4;have h4q:(xbi H3 q (xcM++xFv)) q=Υ (xsz (ts++ps)):=by rw [ad,EG]
  show xiU W0 ((xFa).trans s4) (xbi H3 q (xcM++xFv)) H4;have Rg:=Mf.len;refine⟨q,xsz (ts++ps),xiF (xdY++xeP) b xzI,rfl,K'.of h4q,by rw [Es,Es];exact Rg,by rw [Es,Et];lia,λ j v kk hv hk=>?_,λ lo mm YK hpw U0=>?_⟩
  ·rw [Fq] at hk;cases e:(xdY++xeP)[j]? with
   |none=>show xeG hk hk
   |some b=>
    rw [e] at hk;obtain⟨t,ht,lt,_,_,h1,h2⟩:=Mf.at e;show ρ (gE ht) hv hv;cases hk;exact⟨t,lt,xgm,rfl,h1,rfl,rfl⟩
  ·have hz:(xiF (xdY++xeP) b xzI).zip (xsz (ts++ps))=((ts++ps).zip (xdY++xeP)).map (λ z:LF×Bd=>xvp (xzO z) xd2):=nZ _ _;rw [hz] at U0;show xpG Z' Qg (SM.Py SG.Rm _ U0);have hZ:=(SM.Mn SG.Rm Qg).symm;have hSB:xBA wI (Z'.map (·.2)) (xdY++xeP):=by
    show xg4 (SM.RC (kg:=wI) (λ z:LF×Bd=>xhn) xf2 Qg) (Ku xFL)
   have hZB:xMh (xdY++xeP):=by
    show xg4 (hZ.symm.map (·.2)) (Ku xFL)
   have U1:xMN:=by
    rw [GG,Kb] at hpw;unfold MF;show LE Kb (hpw.imp (λ {a b} h=>by have h':xzO a≤xzO b:=h;exact KU.mp h'))
   have s5:=xLv YK;refine⟨lo,Z'.map (·.1),Z'.map (·.2),xdR (0+xf7),rfl,?_,?_,.step lv hSB U1,W0.trans s5⟩
   ·rw [ad,GG,GG];rfl
   ·exact(mD λ z hz=>Mf.zip z xMi).keep s5
 ·rintro σ H2 ⟨lb,us,B,v3,rfl,hlb,Tp,lv,sm⟩;rw [show m-1+1=m by lia] at lv;show xa8 Β;obtain⟨_,hBl⟩:=ya lv.lev;have hul:=Tp.len;refine⟨_,rfl,_,rfl,p,_,rfl,Φ (xep hp),_,_,rfl,rfl,xwv,_,_,rfl,rfl,_,_,rfl,?_⟩;have e2:xcI (Ty 2*xlW xcM-2>1) (Ty 2*xlW xcM-2) 1=M2 (max 1 (xb3-2)):=by
   rw [Es,Vu];split<;>lia
  try dsimp only
  show ST e2 ⟨_,rfl,lb,_,rfl,K'.of hlb,PP l5 n5⟩
  try dsimp only
  rw [dU,<-G6];have s5:=xaR (xsz (us.take (max 1 (xb3-2)))) n5;exact k l5 _ B _ (sm.trans s5) (xCE sm) ad ((Tp.take _).keep s5) lv
structure FnL (K:Frag)(mg:π)(x:Str)(st:LP)(ps:xae)(f:LF)(fd:LK):Prop where
 F:∃dV,xk7 x x st dV f fd
 m:mg x=xdB
 b:xoA
 d:∃t,xzk [xbq 6]
theorem FnL.kp (F:FnL K mg x st ps f fd):xii:=F.F.elim λ _ z=>z.kp
def cw (C:Id)(p:Nat):Nat:=C.getD p 0
def pos (C:Id):Id:=xx2 C.length (xed p (0<xeZ p))
def U9 (C:Id)(m:Nat)(ln:xct):Prop:=∃(L:Id) (B:xaB),MF (xEa xeZ)/\xBA wI (xEa xeZ) (xv1 xnZ xeZ)/\O1 (xEa xeZ) m B/\ln=occ (xvC 1 (xb3-2))
theorem U9.uniq (h:U9 C m ln)(h':U9 C m ln'):ln=ln':=by
 obtain⟨L,B,a1,a2,a3,a4⟩:=h;obtain⟨L',B',b1,b2,b3,b4⟩:=h';have e:=SM.Px SG.Rm (tJ a1) (tJ b1) (a2.trans b2.symm);have el:=xjS e;rw [Es,Es] at el;rw [<-e] at b3;have:=a3.uniq b3;subst this;rw [a4,b4,el]
def Mj.fresh {H:Hp}{A:Ω}(h:xpx)(n:υ av):xK1 [av]:=by
 induction h with
 |nil=>show xeE
 |cons a _ ih=>
  obtain⟨l,_,_,h1,h2⟩:=a;exact xkm ⟨l,No (ae h1 n xGq),No (ae h2 n xGq),h1,h2⟩
def ixN_nat (h:j<n):NE (ixN n xw3) j:=by
 unfold ixN;rw [EU xe4,EU (Iv.mpr h)];simp
def set_range {f f':xct}(h:∀p,f' p=f p+ xs5 [q]):(xlB n (λ p=>vN (f p))).set q (vN (f q+1))=xlB n (λ p=>vN (f' p)):=by
 refine G2 (xdr i)
 rw [List.getElem?_set,Es,Ie,Fq,Fq];by_cases hi:i<n
 ·rw [JH hi];by_cases e:q=i
  ·subst e;rw [xag,EU hi,IQ,h q];simp
  ·rw [EI e,IQ,IQ,h i];have: [q].count i=0:=HX (by simp;exact No (e z.symm));rw [this,HP]
 ·have e2:W1 (List.range n)[i]?:=Fu (by show xoo Ie hi);rw [e2];by_cases e:q=i
  ·subst e;rw [xag,EI hi];rfl
  ·show Τ (EI e)
inductive QE (vs:LT) (H:Hp) (Q:VK) (LX:XK):Prop
 |mk (a:LF) (C:Id) (m:Nat) (h0:vs=[Tm,xjq]) (h1:XL=Υ xyR) (h2:(xaY C (b≤1000000))) (h3:ω C.length) (h4:C.length≤300) (h5:(∃b∈C,0<b)) (h6:ω m) (h7:xeB m) (h8:xbg (C.filter (xed b (0<b))) (2^m)) (h9:xbg xnZ 300) (h10:ω (xnZ).length) (Qe:xbg xnZ (2^m)) (h12:∀(l:LF) (ln:xct) (H':Hp),Ξ->UV->xap=Υ (xqN p (ln p))->S5 xnZ xeZ m ln->U9 C m ln->xao):QE vs H Q LX
def M':P3 ["counts","most","singles","lengths","bundle","place"] Jak jY:=On
def Dj:(["place","count"]:xae).Nodup:=Z8
def Dd:TE:=Du (jT (Nk 1) (jT (CQ (jT xtH iW)) iW))
def DA:TT:=o5 (xDH (λ i j=>xzU j i) (Nk 1) xHw)
def S9 {P:LI}{K:Frag}{mg:π}{base:LM}{f fN fT fA fW' fL fP fW:LF}{fd SA fdT Ze fdW' fdL fdP Qn:LK}(F:FnL K mg "lengths_of" jY Jak f fd)(Ne:xbs "need_shares" tW Jak fN SA)(Th:xMR fU xsh fT fdT)(AW:xJB cz Jab fA Ze)(W:xqY fW' fdW')
  (Li:xbs "lightest_bundles" mZ xBi fL fdL) (Pa:xbs "in_pairs" kn xyB fP fdP) (We:xbs "weight_of" gM xvN fW Qn) (T:xbn):Η 33 Jak QE:=by
 show xnh dV F0 F.F (F0.ok M' λ LS A outer s H vs Q E hr h=>?_) _;obtain⟨a,C,m,rfl,ha,hC,c1,c3,Nv,m1,m2,XZ,p30,p1,pm,k⟩:=h;have Qh:xah 31:=SB;have NL:xrL:=SB;show xgk (xmg (xaK (y3 Ne Th AW W T) Ne xHO) (xaQ 2 M'.nd (lf (sp:=Of) (kR We) NL We.b Z7 T.sort (xxa fW Z7 We.m) (xbe (jt (N:=["place","count"]) (g:=U5 K 2 (NU xhf (NU (cf 1) U6))) (tt:=DA) (te:=Dd) rfl rfl Z8 Z8 Z8
   (je Z7 T.enum xbj) (λ fp s H=>xD4 (xob 0 Dj (xob 1 Dj gQ)))
   (λ fp s H=>xm7 c8 SZ) (λ fp s H=>dH (xtG 1 (aY xbj)))))) (xa7 3 M'.nd (xAt il xfs xl7) (xuz (aD (wW Li Pa We T) Qh Li (xbP 2 1)) 4 M'.nd (xuz xwn 5 M'.nd (mW (xhU (xsS xaz xcr)) (lT xaz xcr gX)))) xaz))) ⟨_,rfl,_,rfl,a,C,m,rfl,ha,hC,c1,c3,Nv,m1,m2,XZ,xdD H1 s1⟩;show xjM VC xkG (xcx ⟨_,rfl,a,_,rfl,K'.of VC,xe7⟩) (xL (K:=K) (a:=a) (l:=l) (xs:=xyR) (n:=2) (g:=U5 K 2 (NU xhf (NU (cf 1) U6))) (tt:=DA) (te:=Dd)
  (λ i ys H2=>∃ts:Ω,ys=xcM/\xjn=xdf/\C' H1 H2/\Mj H2 [l] ts (xv1 (xx2 i (xed p (0<xeZ p))) xeZ))
  ⟨[],rfl,ad,xgd,.nil⟩ (λ i ys H2 _ z9=>by show xFP sm z9 (xCu VC)) ?_ ?_ ?_ ?_ ?_)
 ·clear g1;rintro i x ys σ H2 p hx ⟨ts,rfl,hl,sm,hb⟩ hσ hp;show xdt c hc (cD hx);have Nf:i<C.length:=xbX hc;have hcw:xeZ i=c:=by rw [cw,E3,hc];rfl
  obtain⟨u0,u1,rfl⟩:∃u0 u1,σ=[u0,u1]:=match σ,hσ with| [u0,u1],_=>xee u0 u1
  have sp:=xhz [xn2,xh7] hp;have W6:=sp _ _ hl;have Vx:xc3 ((xjh p [xn2,xh7]) p) [xrs,xh7]:=ad;show xas (xjh p [xn2,xh7]) H3 ⟨p,_,rfl,MD.of Vx,rfl,_,_,rfl,_,_,rfl,rfl,?_⟩;refine⟨_,rfl,_,_,rfl,rfl,_,rfl,?_⟩;show xaD Vu hb.len Es Vu;have hfl:xbg (xx2 i (xed p (0<xeZ p))) 300:=Ew (Kl _ _) (by show LE Ie (Ew (EZ Nf) c3))
  try dsimp only
  rw [Lu,Fd];by_cases h0:0<c
  ·rw [EU (Ez (show xcU<M2 c from KC.mpr h0)),E2 (by show LE hcw (Ez h0))];refine xfR _ (by show xdy 1) (λ q nq=>xeY (by show xgE) t nt);have sq:=xaR [xrs] nq;have hlq:=sq _ _ W6;have hqq:(xbi H3 q [xrs]) q=Υ [xrs]:=ad;show xcF nql (q∉ [l]) (No (by show xjV xGq W6 nq nq)) (xbi H3 q [xrs]) H4;have st:=xhz [xh7,xqf] nt;have LU:=xey hlq;have hqt:=xey hqq;have SN:xc3 ((xcn H4 t [xh7,xqf]) t) [xh7,xqf]:=ad;show xcF ntl (t∉ [l]) (No (by show xjV xGq hlq nt nt)) (xcn H4 t [xh7,xqf]) H5;have s25:xt1 H5:=(sp.trans sq).trans st;have kk:∀c' o,c'∉ [l]->H5 c'=IO->(xcB H5 (xcM++[V.ref t])) c'=IO:=λ c' o n e=>by show Re (No (n (by simp [z]))) e
   refine⟨LU,bC (by show xcY),rfl,ts++[t],by show Τ EG,ad,xlx c',?_⟩
   ·show xlr (s25 _ _ xqq)
   ·show ST EG ((hb.keepA λ c' o n e=>kk _ _ n (s25 _ _ e)).app (xlU ⟨q,ntl,nql,?_,kk _ _ nql hqt⟩));show NE _ (HO.tup [vN (xeZ i),xqf]);show LE hcw (kk _ _ ntl SN)
  ·rw [EI (xnp z (EA z) Z4),Fc (by rw [hcw];show xD3)];refine⟨rfl,ts,rfl,W6,sm.trans sp,?_⟩;rw [List.filter_nil,Fw];exact hb.keep sp
 rotate_left
 ·rintro x σ H3 A' B' hAB ⟨a',xs,e,hq,SO,v,r,e2,v2,r2,e3,e4,h⟩;exact⟨a',xs,e,hq,SO,v,r,e2,v2,r2,e3,e4,hAB _ _ h⟩
 ·exact λ σ H A B h z9=>by obtain⟨v,e1,i,j,e2,e3,c,e4,z⟩:=z9;exact⟨v,e1,i,j,e2,e3,c,e4,xih⟩
 ·exact λ σ H A B h z9=>by obtain⟨v,e1,v2,e2,n1,z⟩:=z9;exact⟨v,e1,v2,e2,n1,λ q nq=>⟨(z q nq).1,λ t nt=>xkv ((z q nq).2 t nt)⟩⟩
 rintro ys H2 ⟨ts,rfl,hl,sm,hb⟩;rw [Es] at hb;have MX:Mj H2 [l] ts (xv1 xnZ xeZ):=hb;clear hb;show xaD Rg MX.len Es Rg;refine⟨l,xcM,xiF (xv1 xnZ xeZ) b xzI,rfl,xze,by rw [Es,Es,Es];exact Rg,by show xcY,λ j v kk hv hk=>?_,λ lo mm YK hpw U0=>Β⟩
 ·rw [Fq] at hk;cases e:(xv1 xnZ xeZ)[j]? with
  |none=>show xeG hk hk
  |some b=>
   rw [e] at hk;obtain⟨t,ht,lt,_,_,h1,h2⟩:=MX.at e;show ρ (gE ht) hv hv;cases hk;exact⟨t,lt,xgm,rfl,h1,rfl,rfl⟩
 clear g1;rw [nZ] at U0;show xpG Z' Qg (SM.Py SG.Rm _ U0);have hZ:=(SM.Mn SG.Rm Qg).symm;have hSB:xBA wI (Z'.map (·.2)) (xv1 xnZ xeZ):=by
  show xg4 (SM.RC (kg:=wI) (λ z:LF×Bd=>xhn) xf2 Qg) (Ku (by show xdl xFL))
 have hZB:xMh (xv1 xnZ xeZ):=by
  show xg4 (hZ.symm.map (·.2)) (Ku (by show xdl xFL))
 have U1:xMN:=by
  rw [GG,Kb] at hpw;unfold MF;show LE Kb (hpw.imp (λ {a b} h=>by have h':xzO a≤xzO b:=h;omega))
 obtain⟨L,UL,hLp,eL,eU⟩:=oJ (RX:=Z'.map (·.2)) (UX:=[]) (by show LE Fw hZB.symm);have eU':UL=[]:=by simpa using eU.symm
 subst eU';rw [Fw] at hLp;have s5:=xLv YK;have Y0:=(mD λ z hz=>MX.zip z xMi).keep s5;have O5:NE ((upd H2 lo (.lst ((Z'.map (λ z:LF×Bd=>(((z.2.1:Nat):Int),V.ref z.1))).map (·.2)))) lo) (.lst ((Z'.map (·.1)).map V.ref)):=by
  rw [ad,GG,GG];rfl
 show xiU sm3 (sm.trans s5) (upd H2 lo (.lst ((Z'.map (λ z:LF×Bd=>(((z.2.1:Nat):Int),V.ref z.1))).map (·.2)))) H3;rw [eL] at Y0 U1 hSB;generalize Z'.map (·.1)=ss at*;clear hZ hZB U0 Qg hpw eL eU hl MX sm s5 Rg;have hLl:=hLp.length_eq;have Tf:=s1.trans sm3;have ha3:=Tf _ _ ha;refine xcx (xeY (by show xdy 1) l4 n4)
 have s4:=xaR [xkq] n4;have SU:(xbi H3 l4 [xkq]) l4=Υ [xh4]:=ad;show xas (xbi H3 l4 [xkq]) H4 ⟨_,rfl,a,_,rfl,Φ (xez ha3),l4,_,_,rfl,rfl,SU,Z5,by show xdl (xDW c3),(by rw [Es,E6];exact bF (by show xmV (1*C.length);lia)),xdD l5 n5⟩;clear g1;have ez:xDI (xlW xyR) [xh4]=xqN p xC8:=by
  rw [E6,Es];show xjR C.length [xh4]=xIl (λ _=>xh4)
  rw [Lr,Ie];generalize C.length=n
  induction n with
  |zero=>rfl
  |succ n ih=>rw [FW,Gd,ih,FW];rfl
 try dsimp only
 rw [ez];have s5:=xaR (xqN p xC8) n5;have Yi:(xoP (xqN p xC8)) l5=Υ (xqN p xC8):=ad;have hb5:=((Y0.keep s4).fresh n5).keep s5;have hlo5:=xam (xez O5);have W2:=(xJL).trans s5;show xcF n05 (υ l5) (xCE xJL) (xoP (xqN p xC8)) H5;clear s4 s5 SU n4 n5 ez;refine xcx ⟨_,rfl,_,rfl,lo,l5,ss,L,xeZ,m,rfl,hlo5,xa1 Yi,hb5,U1,Kg p1 hLl,Z5,m1,m2,λ lb ub B H6 s6 nlb hlb hub lv=>?_⟩
 have h65:=xd6 Yi;have s06:=W2.trans s6;have Qq:S5 L xeZ m (occ (xvC 1 (xb3-2))):=by
  refine wQ (hLp.nodup_iff.mp ?_) xmK lv.lev (Kg p1 hLl) m1 (G9 hLl.symm pm)
  ·exact List.Pairwise.filter _ List.nodup_range
  ·have:=(xMj hp).2;exact EA this
 have hwR:xaY (xvC 1 (xb3-2)) (xds q xd4 q C.length):=λ b hb q hq=>by
  have:=A9 lv.lev b (Fg hb) q hq;exact Ji.mp (xMj this).1
 show xcF VA (U9 C m (occ (xvC 1 (xb3-2)))) ⟨L,B,U1,hSB,lv,rfl⟩ (xvC 1 (xb3-2)) R;have hulR:=hub.len;have hlb5:lb≠l5:=xeb Yi nlb;clear hb5 hlo5 Yi U1 Y0 O5;refine xfC lb (xhx hlb) (xoD xd5 K lb (ub.map V.ref) (λ i σ H7=>∃v4 v5:xca,σ=[xbA,SL m,SC lo,SC l5,v4,v5]/\H7 l5=Υ (xqN p xAF)/\∀c o,xcp l5->H6 c=IO->H7 c=IO) (xc8 none none h65 (xGW e)) (λ i σ H7 _ z9=>by show xBt kp z9 (K'.of (xat hlb5 hlb))) ?_ ?_)
 ·clear g1;rintro i y σ H7 hi ⟨v4,v5,rfl,h7,kp⟩;have Nf:i<R.length:=by show xnD (xbX hi) Es (EJ this hulR)
  have hRi:Ν R R[i]:=xtO;obtain⟨t,ht,lq,nt,nq,h1,h2⟩:=hub.at hRi;have hy:y=xfr:=by show WF (gE ht) hi (xzi hi)
  subst hy;have LU:=hwR _ (Gj Nf);show xcF e1 (∀p,xdW (R.take (i+1))=xAF+xs5 R[i].2) (λ p=>by
   rw [F1,hRi];show xdW (xx6++[R[i]])=_;rw [kx,eB];rfl) R[i] bb;have nq':lq≠l5:=No (nq (by simp [z]))
  have nt':t≠l5:=No (nt (by simp [z]))
  refine⟨_,rfl,t,_,_,_,rfl,rfl,MD.of (xat nt' h1),xic,lq,rfl,xhx (xat nq' h2),xoD xd5 K lq (Κ xkR) (λ j σ H8=>∃v5:xca,σ=[xbA,SL m,SC lo,SC l5,SC t,v5]/\H8 l5=Υ (xqN p (xAF+xvn xkR j p))/\∀c o,xcp l5->H6 c=IO->H8 c=IO) (xfC v5 (by simpa using h7) kp) (λ j σ H8 _ z9=>by show xpL kp z9 (K'.of (xat nq' h2))) ?_ ?_⟩
  ·rintro j y σ H8 hj ⟨v5,rfl,h8,kp8⟩;show xdt q hq (cD hj);have hqn:q<C.length:=LU q (FG hq);have hg:(xqN p (xAF+xvn xkR j p))[q]?=SL (occ xx6 q+xvn xkR j q):=by
    rw [Fq,JH hqn];rfl
   have e2:M2 (occ xx6 q+xvn xkR j q)+1=xg5 (occ xx6 q+xvn xkR j q):=Kk _;refine⟨_,rfl,_,rfl,l5,_,_,_,rfl,rfl,K'.of h8,aF hg,_,_,rfl,rfl,?_⟩
   try dsimp only
   show ST e2 ⟨_,rfl,_,rfl,l5,_,_,q,rfl,rfl,h8,ixN_nat (by rw [Es,Ie];exact hqn),SL q,rfl,?_,λ c o n e=>?_⟩
   ·rw [ad,set_range (f:=λ p=>xAF+xvn xkR j p) (f':=λ p=>xAF+xvn xkR (j+1) p) (xdr p)];rw [cB hq,IL,FD]
   ·show Re n (kp8 _ _ n e)
  ·rintro σ H8 ⟨v5,rfl,h8,kp8⟩;rw [Es,Fy] at h8;refine xfQ _ ?_ kp8;rw [h8];congr 2;refine JJ λ p _=>?_
   rw [e1 p]
 ·rintro σ H7 ⟨v4,v5,rfl,h7,kp⟩;rw [Es,hulR,Fy] at h7;refine xzY (k l5 _ H7 n05 (λ c o e=>xat (xsK n05) (s06 _ _ e)) h7 (Qq.perm hLp.symm) VA)
universe K33.S
namespace K33.Tb
open PySem L2 QQ W13 BP
seal PE PA PS PSs PT PW PG PI
inductive OK (vs:LT) (H:Hp) (Q:VK) (LX:XK):Prop
 |mk (a:LF) (L:Id) (h0:vs=xbK) (h1:XL=xhb) (h2:xmn) (h3:(xaY L (b≤6))) (h4:xkA H):OK vs H Q LX
def o1:P3 Jaf Jaf eW:=On
def mX (F:Ζ "need_table" eW Jaf)(Y:xlj):Η 3 Jaf OK:=by
 obtain⟨T,⟨_,_,W⟩,⟨_,_,AW⟩,_⟩:=Y;obtain⟨tb,hb⟩:=T.bits;show xeL tm hm T.many o1 (λ LS A outer s H vs Q E hr h=>?_)
 intro _;obtain⟨a,L,rfl,hL,hl,h6,k⟩:=h;show xcc (xwD (xvX (xAr (xnz (xaK (fh AW W T) AW (xog (xrk (xaO 6 hb tb))))) (xeK qc xl7 xDt)))) ⟨_,rfl,a,L,0,6,rfl,hL,λ b z=>by show xbu (h6 b z),_,rfl,xhY⟩ ⟨_,rfl,a,_,rfl,Φ hL,rfl,_,rfl,CI ?_ k⟩;rw [Es,hl];rfl
inductive Up (vs:LT) (H:Hp) (Q:VK) (LX:XK):Prop
 |mk (a:LF) (L:Id) (p ah:Nat) (h0:vs=[Tm,vN p,xAE]) (h1:XL=xhb) (h2:xmn) (h3:p≤272) (h4:xmq (xml ah p) H):Up vs H Q LX
def Pd:P3 ["lengths","place","ahead","most","again"] xCy lV:=On
def wA (F:Ζ "again_from" lV xCy)(T:xbn):xov xCy Up:=by
 obtain⟨tm,hm⟩:=T.many;show xeL ta Xw T.mostA Pd (λ LS A outer st H vs Q E hr h=>?_)
 intro _;obtain⟨a,L,p,ah,rfl,hL,hl,hp,k⟩:=h;have hn:=xlX;show xgk (xgc 3 Pd.nd (xkE (ic hn) T.min Kj (xc6 (xaO 66 Xw ta) (xgi xDt SZ))) (xa7 4 Pd.nd ak (xFg (PW.pt (xAs (xeK dQ xan xaz) (xeK bG (xk6 xDh) XV))) (af (xrI Pd.nd xHL))) xan)) ⟨_,rfl,_,_,rfl,rfl,_,_,rfl,Β⟩;obtain⟨m,em,Xx⟩:∃m,xcI (xC7-xmZ<66) (xC7-xmZ) 66=xgg/\m=min 66 (272-p):=xee (min 66 (272-p)) (by split<;>lia)
 try dsimp only
 rw [em];clear em;show xlq;refine xbt
 show xaD QS (kc ah xyW) EE QS;refine Ψ (λ n σ H2=>∃i,n=m-i/\σ=[xbA,xpa,SL ah,SL m,SL i]/\H2=H/\i≤m/\∀j<i,xfd (xyW) ah) ⟨m,0,rfl,rfl,rfl,xac,xem j hj hj (Ls _)⟩;rintro n σ H2 ⟨i,rfl,rfl,rfl,hi,Mf⟩;refine⟨_,rfl,_,rfl,_,_,rfl,rfl,_,rfl,xk4⟩
 ·have h2:i<m:=by have:=xiR;exact xvM
  have e1:xmZ+xf7=xjH i:=Z5;have l1:xht (p+i):=EJ (Gr (Ey h2 (xhH Xx (FX _ _)))) hl.symm;refine⟨_,rfl,_,rfl,_,rfl,_,_,rfl,rfl,?_⟩
  try dsimp only
  rw [e1];have hgd:Ν (xyW) L[p+i]:=by rw [Ix,Ex l1]
  refine⟨a,_,_,_,rfl,rfl,K'.of hL,xma l1,_,rfl,rfl,_,rfl,xeg h3 h3⟩
  ·have h4:L[p+i]=ah:=ME.mp (EA h3);refine Ψ (λ σ' H'=>σ'=[xbA,xpa,SL ah,SL m,SL (i+1)]/\H'=H2) (λ σ' H' z=>⟨m-(i+1),xF5 h2,i+1,rfl,xd2,xhn, xej,xuK⟩)
   ·by_cases e:j=i
    ·subst e;rw [hgd,h4]
    ·exact Mf j (FM (Gi hj) e)
   ·exact⟨_,rfl,_,_,rfl,rfl,rfl,rfl⟩
  ·refine xAo;have h4:xq9 (xyW)[i]? ah:=by
    rw [hgd];intro z;exact h3 (xCc (Fb z))
   rw [vV Mf h4,Ha (Ew (EZ h2) (xhH Xx xhk))] at k;exact k
 ·refine bi xAo;have h2:i=m:=by
   have N6:¬(Pi (xft xd0 xk3)):=h1;have:¬(xd0<xk3):=No (N6 xwU)
   exact Fa hi (FS (No (this (xAW z))))
  subst h2;have h5:=rz Mf;have e:xml ah p=i:=Fa (xtt (xJM ⟨xhk,xmd _ _ (hl▸QS)⟩) Xx.symm) (xJM ⟨xhH Xx xhk,h5⟩);show WF e k k
def yr:∀P,xu2 P≤9*P.length:=by
 intro P;have e:xu2 P=xKt Itm.cost:=iG P;rw [e];clear e
 induction P with
 |nil=>simp
 |cons x P ih=>
  have:x.cost≤9:=by cases x<;>simp [Itm.cost]
  simp;lia
inductive PK (C:LF) (vs:LT) (H:Hp) (Q:VK) (LX:XK):Prop
 |mk (p d a:LF) (N0 T0:Nat) (L:Id) (h0:vs=[xad,Tm]) (h1:xly C N0 T0) (h2:xb0 T0) (h3:XL=xhb) (h4:xmn) (h5:(xaY L (b≤6))) (h6:a≠d) (h7:∀(Pp:xkl) (b:Nat) (H':Hp),Walk L 0 0 Pp 272 b->xkI C H' xLn N0 (T0+xxG)->xc1 (∀c o,χ=IO->xaj->xfG->xaL=IO)):PK C vs H Q LX
def Mv:P3 ["bits","lengths","place","ahead","again"] ["bits","lengths"] iy:=On
def Sr (F:Ζ "put_table" iy ["bits","lengths"])(NT:xbs "need_table" eW Jaf fN SA)(AF:xbs "again_from" lV xCy fA Ze)(B:Yr K mg C):xqQ ["bits","lengths"] (PK C):=by
 have X:=B.R.X;show Ι W B.R.whole S B.needsize;show Ι O B.ones Pu B.put;show xiE M B.move T B.T;show xn1 GP (xDR (P:=P) (w:=w) base Pu.F S W O M T X) tm hm X.many;obtain⟨ta,hag⟩:=X.again;show xeL tl hle X.leastA Mv (λ LS A outer st H vs Q E hr h=>?_)
 intro _;obtain⟨p,d,a,N0,T0,L,rfl,hB,VF,ha,hl,h6,nad,k⟩:=h;have NL:xrL:=SB;have YN:xau a:=by
  obtain⟨dx,_,_,_,hp,_⟩:=hB;exact xro ha (by show Ε)
 show xgk (xmg (aD (mX NT B.R) NL NT xdb) (xaQ 2 Mv.nd ak (xeX 3 Mv.nd ak (xqI dQ XV xDt (xeX 4 Mv.nd (xaK (wA AF X) AF (xcl 1 (xbP 2 3))) (xhN pk xan (xaO 3 hle tl) (xxQ (aB (xwQ Uf Pu GP NL (xhT (xaO 7 hag ta)))) (aB (xwQ Uf Pu GP NL (xhT (xgi xan (xaO 3 hle tl))))) (xuo Mv.nd (xb1 XV xan))) (xc5 3 Mv.nd (xsS SZ XV) (aB (xwQ Uf Pu GP NL (xcl 3 xfs))) (af (xuo Mv.nd (xhU XV)))))))))) ⟨_,rfl,a,L,rfl,ha,hl,h6,Β⟩;show xlq;show xlq;refine Ψ (λ n σ H2=>∃q ah Pp v4,n=272-q/\σ=[xd3,xbA,SL q,SL ah,v4]/\q≤272/\Walk L 0 0 Pp q ah/\xkI C H2 xLn N0 (T0+xxG)/\(∀c o,χ=IO->xaj->xfG->xle=IO)) ⟨272,0,0,[],none,rfl,rfl,Z9,xj0,hB,λ c o e _ _=>e⟩
 rintro n σ H2 ⟨q,ah,Pp,v4,rfl,rfl,hq,hw,NY,kp⟩;refine⟨_,rfl,_,_,rfl,rfl,_,rfl,xeg hc hc⟩
 ·have Ql:q<272:=by have:=EA hc;exact xvM
  have hqL:xpb:=EJ Ql hl.symm;refine Ψ (λ σ' H'=>∃q' ah Pp v4,q<q'/\σ'=[xd3,xbA,SL q',SL ah,v4]/\q'≤272/\Walk L 0 0 Pp q' ah/\xkI C H' xLn N0 (T0+xxG)/\(∀c o,χ=IO->xaj->xfG->xaL=IO)) (λ σ' H' z9=>by obtain⟨q',ah,Pp,v4,LU,z1,z2,z⟩:=z9;exact⟨272-q',GZ (Ey LU z2) LU,q',ah,Pp,v4,rfl,z1,z2,z⟩)
  have YR:=c7 hw;have hcl:=yr Pp;have Q2:=xat ha YN nad;have hws:=dD hw hqL;have hsz:=lM (a:=ah) hqL;show xfx g2 ⟨_,rfl,_,rfl,_,rfl,a,L,q,ah,rfl,Q2,hl, xej,xcZ⟩ g2;obtain⟨dx,B2,r2,k2,Ml,hd2,br2,Rc⟩:=id NY;have no:∀r k,W1 (xcO xfD "put"):=λ r k=>xik
  refine⟨_,rfl,_,_,rfl,rfl,_,rfl,xeg h3 h3⟩
  ·have h4:3≤xml ah q:=by have:=EA h3;exact KU.mp this
   have est:xof q ah=.rep (xml ah q):=by show xaP stAt (EU h4)
   rw [est] at hws hsz;have hr66:xml ah q≤66:=Ge 66 _;show xas (xml ah q) r ⟨_,rfl,p,dx,_,rfl,Ml,xjo _,p,d,_,_,7,3,rfl,NY,Z5,Z9,Z9,Sc H3 Qm Mq⟩;obtain⟨OF,B3,r3,k3,MR,hd3,br3,YX⟩:=id Qm;have er:M2 r-3=M2 (r-3):=Z5;refine⟨_,rfl,p,OF,_,rfl,MR,xjo _,_,rfl,_,_,rfl,rfl,?_⟩
   try dsimp only
   show xmG er ⟨p,d,_,_,r-3,6,rfl,Qm,Z5,Z9,(by show r-3<2^6;lia),Sc H4 Vm OR⟩ ⟨_,rfl,_,rfl,_,_,rfl,rfl,q+r,ah,Pp++[.rep r],SL r,Z5,?_,by have:=hsz.2;show q+r≤272;have e:(xLc).size=r:=rfl;lia,hws,?_,λ c o e n1 n2=>xjy (xaW xuh n1 n2) n1 n2⟩
   ·have e2:M2 q+M2 r=M2 (q+r):=xMk _
    try dsimp only
    show Τ e2
   ·rw [iV,bU,aQ];have e5:T0+(xxG+xu2 [xLc])=T0+xxG+3+6:=by
     have:xu2 [xLc]=9:=rfl;lia
    show LE e5 Vm
  ·have h4:¬3≤xml ah q:=No (h3 xoi)
   have est:xof q ah=.one L[q]:=by show xaP stAt (EI h4);simp [List.getD,hqL]
   rw [est] at hws;have hx6:L[q]≤6:=h6 _ (Gj hqL);show xcc ⟨_,rfl,_,rfl,a,_,_,_,rfl,rfl,xCN,xma hqL,?_⟩ ⟨_,rfl,p,dx,_,rfl,Ml,xjo _,_,rfl,p,d,_,_,L[q],3,rfl,NY,Z4,Z9,(by show L[q]<2^3;lia),Sc H3 Qm Mq⟩ ⟨_,rfl,_,_,rfl,rfl,q+1,L[q],Pp++[.one L[q]],_,Kf _,rfl, xej,hws,?_,λ c o e n1 n2=>xaW xuh n1 n2⟩;rw [iV,bU,aQ];have e5:T0+(xxG+xu2 [Itm.one L[q]])=T0+xxG+3:=by
    have:xu2 [Itm.one L[q]]=3:=rfl;lia
   show LE e5 Qm
 ·have Ql:q=272:=by
   have h1:¬(Pi (xft (M2 q) 272)):=hc;have:¬(M2 q<272):=No (h1 xwU)
   lia
  subst Ql;exact k Pp ah H2 hw NY kp
universe K33.Tb
namespace C9
noncomputable def ed (L:Id):xct
 |0=>0
 |j+1=>2*xoO+L.count (j+1)
noncomputable def cdAt (L:Id) (q s:Nat):Nat:=2*xhR (s-1)+xr5 q s
noncomputable def itm (L:Id) (j p q:Nat):xBZ:=xxd (xxg/\(xgf≤j\/(xgf=j+1/\q<p))) (xh9 xgf,xgf)
def row (L:Id)(j p:Nat):List xBZ:=xlB L.length (itm L j p)
def codes (L:Id):List xBZ:=xs8 12 0
def bd (L:Id)(j p:Nat):xaJ xAA L.length:=by simp [row]
def dw {L:Id}{j p q:Nat}(h:xpb):xbw (xAA) q (itm L j p q):=by simp [row,h]
def wD (L:Id):xs8 0 0=xEe L.length:=by
 apply G2;intro q;by_cases h:xpb
 ·rw [dw h,IW,EU h];congr 1;show xaP itm (EI Z5)
 ·rw [Fu (by show xoo bd h),Fu (by show xoo Ff h)]
def xp (L:Id)(j:Nat):xs8 j L.length=xs8 (j+1) 0:=by
 apply G2;intro q;by_cases h:xpb
 ·rw [dw h,dw h];congr 1;unfold itm;by_cases c:xxg/\(xgf≤j\/(xgf=j+1/\xpb))
  ·rw [EU c,EU Z5]
  ·rw [EI c,EI Z5]
 ·rw [Fu (by show xoo bd h),Fu (by show xoo bd h)]
def zj {L:Id}{j p:Nat}(h:xfB p (j+1)):xs8 j (p+1)=(xAA).set p (some (xcy p (j+1),j+1)):=by
 have hp:xht p:=xbX h;have hg:xc4 p=j+1:=by rw [E3,h];rfl
 apply G2;intro q;by_cases e:p=q
 ·subst e;rw [dw hp,Gs (by show LE bd hp)];congr 1;unfold itm;rw [hg,EU Z5]
 ·rw [HY e];by_cases hq:xpb
  ·rw [dw hq,dw hq];congr 1;unfold itm;by_cases c:xxg/\(xgf≤j\/(xgf=j+1/\q<p))
   ·rw [EU c,EU Z5]
   ·rw [EI c,EI Z5]
  ·rw [Fu (by show xoo bd hq),Fu (by show xoo bd hq)]
def wG {L:Id}{j p:Nat}(h:xq9 L[p]? (j+1)):xs8 j (p+1)=xAA:=by
 apply G2;intro q;by_cases hq:xpb
 ·rw [dw hq,dw hq];congr 1;unfold itm;have My:q=p->xgf≠j+1:=by
   rintro rfl e;apply h;rw [E3,Ex hq] at e;show LE (Ex hq) (xpM e)
  by_cases c:xxg/\(xgf≤j\/(xgf=j+1/\q<p))
  ·rw [EU c,EU Z4]
  ·rw [EI c,EI (by
    intro z;apply c;refine xbW xd2;rcases xhn with z|⟨z1,z2⟩
    ·show xaT z
    ·refine .inr (xbW z1);have:xau q:=λ e=>My e z1
     lia)]
 ·rw [Fu (by show xoo bd hq),Fu (by show xoo bd hq)]
def t7 (L:Id)(j p:Nat):xcy p (j+1)=2*xoO+xr5 p (j+1):=rfl
def pH {L:Id}{j p:Nat}(h:xfB p (j+1)):xcy (p+1) (j+1)=xcy p (j+1)+1:=by
 unfold cdAt;rw [F1,h,IL];simp;lia
def ve {L:Id}{j p:Nat}(h:xq9 L[p]? (j+1)):xcy (p+1) (j+1)=xcy p (j+1):=by
 unfold cdAt;rw [F1,IL];cases e:L[p]? with
 |none=>simp
 |some z=>
  rw [e] at h;have:z≠j+1:=λ q=>h (by rw [q])
  simp [List.count_singleton,this]
def oR (L:Id)(j:Nat):xcy L.length (j+1)=xhR (j+1):=by
 rw [t7,Fy];rfl
theorem ud (L:Id)(a:Nat):∀d,2^d*xhR a≤xhR (a+d)
 |0=>by simp
 |d+1=>by
  have:=ud L a d;show _≤2*xhR (a+d)+_;rw [Gm];have:2^d*2*xhR a=2*(2^d*xhR a):=by rw [F5 (2^d) 2,Gn]
  omega
theorem Aq (L:Id):∀j,xoO+L.length≤L.length*2^j
 |0=>by simp [ed]
 |j+1=>by
  have:=Aq L j;have:=xMO (j+1) (l:=L);rw [ed,Gm,<-Gn];lia
def tI {L:Id}{q s:Nat}(h:xpo)(hs:xrO):xh9 s<xhR s:=by
 show xfP j j (s=j+1) ⟨s-1,xHZ hs rfl⟩;have h1:=pH (j:=j) h;have h2:xcy (q+1) (j+1)≤xhR (j+1):=by
  rw [<-oR];unfold cdAt;have:List.count (j+1) (List.take (q+1) L)≤List.count (j+1) (List.take L.length L):=by
   show LE Fy (xMc (IK _ _))
  exact Hn.mpr this
 exact Ey (EL h1.symm) h2
def DT {L:Id}{q1 q2 s1 s2:Nat}(h1:xfB q1 s1)(p1:ω s1)(lt:s1<s2):xcy q2 s2/2^(s2-s1)≠xcy q1 s1:=by
 have a:=tI h1 p1;have b:2^(s2-s1)*xhR s1≤xcy q2 s2:=by
  show xdA (ud L s1 (s2-1-s1)) (show s1+(s2-1-s1)=s2-1 by omega);rw [show s2-s1=(s2-1-s1)+1 by omega,Gm];unfold cdAt;have e:2^(s2-1-s1)*2*xhR s1=2*(2^(s2-1-s1)*xhR s1):=by rw [F5 (2^(s2-1-s1)) 2,Gn]
  omega
 have c:xhR s1≤xcy q2 s2/2^(s2-s1):=(xLU).mpr (by show LE F5 b);omega
def krf (m:Nat)(L:Id):Nat:=(xiF (xsi l (0<l)) l (2^(m-l))).sum
def tx (m:Nat)(L M:Id):krf m (L++M)=krf m L+krf m M:=by
 unfold krf;rw [Fd,EG,Ij]
theorem WS {m:Nat}(hm:xeB m):∀L:Id,(∀l∈L,l≤m)->xhM L=2^(12-m)*krf m L
 | [],_=>rfl
 |a::L,h=>by
  have ih:=WS hm L λ l z=>xhQ l z
  have ha:=xlu a;unfold krf at ih ⊢;by_cases c:0<a
  ·simp only [Lg,c,decide_true,if_true,FZ,Jv];rw [ih,IX,<-HI];congr 2;exact Ik (Nat.sub_add_sub_cancel hm ha)
  ·simp only [Lg,c,decide_false,Hg,JO];exact ih
structure Good (L:Id):Prop where
 ne:xgR 1
 le:xfm 300
 most:∀l∈L,xeB l
 some:∃l∈L,0<l
 room:xhM L≤4096
universe C9
namespace C10
open BP C9
def kle (L:Id)(j:Nat):Nat:=xhM (xsi l (l≤j))
theorem gc (p:xkt Nat):∀L:Id,xhM (L.filter p)≤xhM L
 | []=>Tl
 |a::L=>by
  have ih:=gc p L;have e:∀M:Id,xhM (a::M)=xhM xcj+xhM M:=λ M=>tx 12 xcj M
  by_cases h:Pi (p a)
  ·rw [E2 h,e (L.filter p),e L];exact Hn.mpr ih
  ·rw [Fc h,e L];exact Ki ih
def wN (L:Id)(j:Nat):kle L (j+1)=kle L j+L.count (j+1)*2^(12-(j+1)):=by
 induction L with
 |nil=>simp [kle]
 |cons a L ih=>
  have e:∀M:Id,xhM (a::M)=xhM xcj+xhM M:=λ M=>tx 12 xcj M
  unfold kle at ih ⊢;rw [JN];by_cases h1:a≤j
  ·rw [E2 (by simp;exact F3 h1),E2 (by show xte),e (xsi l (l≤j+1)),e (xsi l (l≤j)),ih,EI (by simp;lia)];simp only [HP];exact Ik (FD _ _ (_*2^(12-_)))
  ·by_cases h2:a=j+1
   ·subst h2;rw [E2 Z6,Fc Z6,e (xsi l (l≤j+1)),ih,EU Z6];have:xhM [j+1]=2^(12-(j+1)):=by
     unfold krf;simp
    rw [this,IV,Nat.one_mul];lia
   ·rw [Fc (by simp;exact FM (xLy h1) λ a=>h2 (id (Ik a))),Fc (by show xte),ih,EI (by simpa using h2)];simp only [HP]
theorem wM (L:Id):∀j,xeB j->xoO*2^(12-j)=kle L j
 |0,_=>by
  unfold kle krf;have:(xvO (xsi l (l≤0)) l (0<l))=[]:=by
   rw [List.filter_filter,G5];intro a _;simp;lia
  rw [this];simp [ed]
 |j+1,h=>by
  have ih:=wM L j (HK h);rw [wN,<-ih];show(2*xoO+L.count (j+1))*2^(12-(j+1))=_;rw [IV,show 12-j=(12-(j+1))+1 by lia,Gm];congr 1;rw [F5 2,Gn,F5 2]
def BU {L:Id}(g:xmm){j:Nat}(hj:xeB j):xoO≤2^j:=by
 have h:=wM L j hj;have h1:kle L j≤4096:=Ew (gc _ L) g.room;have h2:2^j*2^(12-j)=4096:=by rw [<-HI,xaA (j+(12-j)) 12 (FE hj)]
 rw [<-h,<-h2] at h1;exact Nat.le_of_mul_le_mul_right h1 xks
def rD {L:Id}(g:xmm){q s:Nat}(h:xpo):xeB s:=g.most s (FG h)
def Wf {L:Id}(g:xmm){q s:Nat}(h:xpo)(hs:xrO):xh9 s<2^s:=
 Ey (tI h hs) (BU g (rD g h))
def w4 {L:Id}{q r s:Nat}(h1:xpo)(h2:xfB r s)(e:xh9 s=xcy r s):q=r:=by
 have key:∀q r:Nat,xpo->q<r->xr5 q s<xr5 r s:=λ q r h1 h=>by
  have e1:xzT q 1=L.take q++[s]:=by rw [F1,h1];rfl
  have e2:xr5 (q+1) s=xr5 q s+1:=by rw [e1,IL];simp
  have e3:xr5 (q+1) s≤xr5 r s:=by
   have:xzT q 1=(L.take r).take (q+1):=by rw [Ly,Fp Z4]
   show LE this (xMc (IK _ _))
  omega
 unfold cdAt at e;rcases Nat.lt_trichotomy q r with h|h|h
 ·have:=key q r h1 h;omega
 ·exact h
 ·have:=key r q h2 h;omega
def eD (L:Id)(u:xaH)(q:Nat):Prop:=xfB q u.length/\ω u.length/\xh9 u.length=num u
def XH (L:Id)(u:xaH):Prop:=∃q s,xpo/\u.length<s/\xh9 s/2^(s-u.length)=num u
def jr {L:Id}{u:xaH}{q:Nat}(h:xrC u q)(b:XH L u):False:=by
 obtain⟨h1,h2,h3⟩:=h;obtain⟨q2,s2,b1,b2,b3⟩:=b;exact DT h1 h2 b2 (b3.trans h3.symm)
def qI {L:Id}{u:xaH}{q r:Nat}(h:xrC u q)(h':xrC u r):q=r:=w4 xbS h'.1 ((xtI).trans (xbI h').symm)
inductive Res where
 |thing (q s:Nat)
 |bad
 |none
def Due (L:Id)(rest:xaH):Ο Res
 | .thing q s=>s≤rest.length/\xrC (rest.take s) q/\∀j<s,xFD L j
 | .bad=>∃s,s≤rest.length/\(∀j<s,xFD L j)/\¬xFD L s/\∀q,¬xrC (rest.take s) q
 | .none=>∀j≤rest.length,xFD L j
def Due.uniq {L:Id}{rest:xaH}{a b:Res}(ha:xzA L a)(hb:xzA L b):a=b:=by
 have tt:∀{q s q' s'},xsw L rest q s->xsw L rest q' s'->s≤s':=λ {q s q' s'} h h'=>by
  show xa3 s' s c c
  ·show xjB (jr (Δ h') (xtI s' c))
  ·exact c
 have tb:∀{q s},xsw L rest q s->xzA L .bad->False:=λ {q s} h ⟨r,h1,h2,h3,h4⟩=>by
  rcases Nat.lt_trichotomy s r with c|c|c
  ·exact jr xqK (h2 s c)
  ·subst c;exact h4 q xqK
  ·exact h3 (xtI r c)
 have tn:∀{q s},xsw L rest q s->xzA L .none->False:=λ {q s} h h'=>jr xqK (h' s xbS)
 have bn:xzA L .bad->xzA L .none->False:=λ z9 h'=>by show xrU r h1 h2 h3 h4;exact h3 (h' r h1)
 cases a with
 |thing q s=>
  cases b with
  |thing q' s'=>
   have e:s=s':=Fa (tt ha hb) (tt hb ha);subst e;rw [qI (Δ ha) (Δ hb)]
  |bad=>show xjB (tb ha hb)
  |none=>show xjB (tn ha hb)
 |bad=>
  cases b with
  |thing q' s'=>show xjB (tb hb ha)
  |bad=>rfl
  |none=>show xjB (bn ha hb)
 |none=>
  cases b with
  |thing q' s'=>show xjB (tn hb ha)
  |bad=>show xjB (bn hb ha)
  |none=>rfl
theorem Ux:∀{a b:xaH},a.length=b.length->num a=num b->a=b
 | [],[],_,_=>rfl
 |x::a,y::b,h,e=>by
  have hl:a.length=b.length:=by show xtC
  rw [gZ,gZ,hl] at e;have h1:=NZ a;show xaD h2 (NZ b) hl h1;have exy:x=y:=by
   cases x<;>cases y<;>first|rfl|(exfalso;simp at e;omega)
  subst exy;rw [Ux hl Z4]
def Sn (u:xaH){k:Nat}(h:k≤u.length):num xKv=num u/2^(xzw k):=by
 have e:num u=num xKv*2^(xzw k)+num xKw:=by
  show xdF (dF xKv xKw) E9 EE;show xfM
 show xaD LU (NZ xKw) EE LU;rw [e,F5,KA xks,Kr LU];rfl
def wd (c:xet):xaH:=dig xhX xh6
def ZP {L:Id}(g:xmm){q s:Nat}(h:xpo)(hs:xrO):num (wd (xh9 s,s))=xh9 s:=by
 unfold wd;show LE fG (HF (Wf g h hs))
def lh {L:Id}{q:Nat}(g:xmm):(xsU)[q]?=xxd xpb (xxd xxg (xh9 xgf,xgf)):=by
 unfold codes;by_cases h:xpb
 ·rw [dw h,EU h];congr 1;unfold itm;have:xeB xgf:=by
   rw [E3,Ex h];exact g.most _ (Gj h)
  by_cases c:xxg
  ·rw [EU ⟨c,.inl this⟩,EU c]
  ·rw [EI (No (c xd2)),EI c]
 ·rw [EI h,Fu (by show xoo bd h)]
def rE {L:Id}(g:xmm){q:Nat}{c:xet}(h:xbw (xsU) q (some c)):xfB q xh6/\ω xh6/\xhX=xh9 xh6:=by
 rw [lh g] at h
 split at h
 ·rename_i hq
  injection h with h
  split at h
  ·rename_i h1
   cases h;refine xee ?_ h1;rw [E3,Ex hq];rfl
  ·cases h
 ·cases h
def Ol {L:Id}(g:xmm){q s:Nat}(h:xpo)(hs:xrO):xbw (xsU) q (some (xh9 s,s)):=by
 have hq:=xbX h;have e:xgf=s:=by rw [E3,h];rfl
 rw [lh g,EU hq,e,EU hs]
universe C10
namespace L2
open PySem PySem.Spec PyProof.Rows QQ
section
variable {κ:Type}[DecidableEq κ]
def cm (LY:xqW)(k:κ):xca:=(LY.find? (xed kv (xe2=k))).map (·.2)
def putK (LY:xqW)(k:κ)(v:V):xqW:=
 xbZ (xCB kv (xe2=k)) (LY.map (λ kv=>xir xe2 k (xe2,v) kv)) (LY++[(k,v)])
def bY {k:κ}(e:xak=k):NE (cm (p::r) k) xfE:=by simp [cm,Js,e]
def bV {k:κ}(e:¬xak=k):cm (p::r) k=cm r k:=by simp [cm,Js,e]
theorem gC (k:κ):∀LY:xqW,(xCB kv (xe2=k))=(xtN).isSome
 | []=>rfl
 |p::r=>by
  rw [List.any_cons];by_cases e:xak=k
  ·simp only [xrD,Ez e,Bool.true_or,Option.isSome_some]
  ·rw [xrE,F7 e,Bool.false_or];exact gC k r
theorem pq (k j:κ)(y):∀LY:xqW,cm (LY.map λ kv=>xir xe2 k (xe2,y) kv) j=xiF (xyk j) x (xir j k y x)
 | []=>rfl
 |p::r=>by
  have ih:=pq k j y r;rw [FZ];by_cases h:xak=k
  ·rw [EU h];by_cases e:xak=j
   ·rw [bY (p:=(xak,y)) e,xrD,IQ,EU (e.symm.trans h)]
   ·rw [bV (p:=(xak,y)) e,xrE,ih]
  ·rw [EI h];by_cases e:xak=j
   ·rw [xrD,xrD,IQ,EI (No (h (e.trans z)))]
   ·rw [xrE,xrE,ih]
theorem lF (k j:κ)(y):∀LY:xqW,W1 xtN->cm (LY++[(k,y)]) j=xyi (j=k) y (xyk j)
 | [],_=>by
  by_cases e:k=j
  ·show xmt e.symm xrD
  ·show xkF (No (e z.symm)) xrE
 |p::r,hn=>by
  rw [HW];have hk:¬xak=k:=No (by show ρ (bY z) hn hn)
  rw [bV hk] at hn;have ih:=lF k j y r hn;by_cases e:xak=j
  ·rw [xrD,xrD,EI (No (hk (e.trans z)))]
  ·rw [xrE,xrE,ih]
def jI (LY:xqW)(k j:κ)(y):cm (xn0 k y) j=xyi (j=k) y (xyk j):=by
 unfold putK;by_cases a:Pi (xCB kv (xe2=k))
 ·rw [EU a,pq];rw [gC] at a;by_cases e:j=k
  ·obtain⟨x,hx⟩:=Option.isSome_iff_exists.mp a;rw [EU e,e,hx,IQ,xag]
  ·rw [EI e];cases xyk j with
   |none=>rfl
   |some x=>rw [IQ,EI e]
 ·show ST (EI a) (lF k j y LY ?_);rw [gC] at a;cases q:xtN with
  |none=>rfl
  |some x=>show WF q a (a rfl).elim
def d6 (LY:xqW)(k:κ)(v):xbg (xn0 k v) (xH2 1):=by
 unfold putK
 split
 ·rw [Es];omega
 ·rw [Et,EK,JT];omega
def NO.isSome_eq (r:NO o u):o.isSome=u.isSome:=by
 cases o with
 |none=>cases u with
  |none=>rfl
  |some _=>show xjB xF4
 |some _=>cases u with
  |none=>show xjB xF4
  |some _=>rfl
def KV.val (r:xq0)(k:κ):NO xtN (xH3 vs):=by
 unfold KV at r
 induction r with
 |nil=>exact True.intro
 | @cons p q ps qs h t ih=>
  show xAG h1 h2;by_cases e:xak=k
  ·have e':xa5=k:=xEP;have b:NE (xH3 (q::qs)) xbl:=by simp [valueAt,Js,e']
   rw [xrD,b];exact h2
  ·have e':¬xa5=k:=No (e xFm)
   have b:xH3 (q::qs)=xH3 qs:=by simp [valueAt,Js,e']
   rw [xrE,b];exact ih
theorem KV.any (r:xq0)(k:κ):(xCB kv (xe2=k))=vs.any (xed kv (xe2=k)):=by
 unfold KV at r
 induction r with
 |nil=>rfl
 |cons h t ih=>rw [List.any_cons,List.any_cons,ih,xbS]
def KV.repl (r:xq0)(k:κ)(ry:xh8):
  KV (LY.map λ kv=>xir xe2 k (xe2,y) kv) (vs.map λ kv=>xir xe2 k (xe2,u) kv):=by
 unfold KV at r ⊢
 induction r with
 |nil=>show xeE
 | @cons p q ps qs h t ih=>
  rw [FZ,FZ];show xhB (xkm ?_) h1 h2 h;by_cases e:xak=k
  ·rw [EU e,EU xEP];show xar h1 ry
  ·rw [EI e,EI (No (e xFm))];show xar h1 h2
def KV.put (r:xq0)(k:κ)(ry:xh8):KV (xn0 k y) (stored vs k u):=by
 unfold putK stored;rw [r.any k];by_cases e:Pi (vs.any (xed kv (xe2=k)))
 ·rw [EU e,EU e];exact r.repl k ry
 ·rw [EI e,EI e];exact Paired.snoc r (xcC ry)
theorem KV.length {vs:xlA κ LG}(r:xq0):LY.length=vs.length:=Paired.length r
universe s
def qk (r:RelV (kV k) u):Pi ((b9 P w).is k u):=by
 cases k with
 |inl i=>obtain⟨t,e⟩:=(xwc (∃t,u=xst i));subst e;exact ow P w i t
 |inr x=>obtain⟨t,e⟩:=(xwc (∃t,u=xCi x));subst e;exact oV P w x t
theorem kZ:∀{ks} {us},xr0 xJ4->ItemsAre (b9 P w) ks us
 | [],_,r=>by show ρ KQ r r;show xeE
 |k::ks,_,r=>by
  rw [FZ] at r;cases r with
  |cons h t=>exact .cons (qk h) (kZ t)
abbrev KT (H:Hp):xmw xnR->Ο (xlA xnR (LF×LG)):=Paired λ p q=>xak=xa5/\xcV (Δ q) ((xak).map kV)/\RelV xfE (xbI q)
def KT.val (r:xrF LY xs)(k):NO xtN ((atKey xs k).map (·.2)):=by
 induction r with
 |nil=>exact True.intro
 | @cons p q ps qs h t ih=>
  obtain⟨h1,_,h2⟩:=h;by_cases e:xak=k
  ·have e':xa5=k:=xEP;have b:NE (atKey (q::qs) k) xbl:=by simp [atKey,Js,e']
   rw [xrD,b];exact h2
  ·have e':¬xa5=k:=No (e xFm)
   have b:atKey (q::qs) k=atKey qs k:=by simp [atKey,Js,e']
   rw [xrE,b];exact ih
def KT.repl (r:xrF LY xs)(k)(ry:xh8):
  xrF (LY.map λ kv=>xir xe2 k (xe2,y) kv) (xs.map (putAt k u)):=by
 induction r with
 |nil=>show xeE
 | @cons p q ps qs h t ih=>
  rw [FZ,FZ];show xfo (xkm ?_) h1 h2 h3 h;unfold putAt;by_cases e:xak=k
  ·rw [EU e,EU xEP];exact⟨h1,h2,ry⟩
  ·rw [EI e,EI (No (e xFm))];exact⟨h1,h2,h3⟩
def KT.put (r:xrF LY xs)(k)(hb:xcV b xB7)(ry:xh8):
  xrF (xn0 k y) (storedH xs k b u):=by
 have e:(xCB kv (xe2=k))=(atKey xs k).isSome:=by
  rw [gC,(r.val k).isSome_eq,K7]
 unfold putK storedH;rw [e];by_cases q:xke (atKey xs k)
 ·rw [EU q,EU q];exact r.repl k ry
 ·rw [EI q,EI q];exact Paired.snoc r (xq3 hb ry)
def KT.keeps (r:xrF LY xs)(ht:∀b ys,xcV b ys->xc3 xde ys):KT H' LY xs:=
 Paired.mapP r (xEs ⟨xd2,ht _ _ (Δ z),xbI z⟩)
def Ay (ok:xij)(e:Rd H a u):xpt u:=e.ok ok
def qm (ok:xij)(e:Rd H a xp3):xvu/\τ (xpQ a)/\∃vs,xq0/\xK3 P w a vs:=
 show xpt xp3 from Ay ok e
def DH (ok:xij)(e:xip xp3):xvu/\τ (xpQ a)/\∃vs,xq0/\xK3 P w a vs:=qm ok xHa
def kh (ok:xij)(e:xc3 XL xJ4):(xBu P w).is h ks a:=by
 obtain⟨_,its,r,o,h1,h2,n,h3⟩:=(show xpt (.tup xJ4) from ok a _ e);exact⟨o,its.toArray,n,h1,h2,h3,by simpa using kZ r⟩
def pZ (ok:xij)(e:Rd H a xiK):xvu/\τ (xpQ a)/\
  ∃xs,xrF LY xs/\h.DictOfH (xBu P w) a xs:=by
 obtain⟨z,y,xs,r,o,es,ep,h1,h2,h3,h4,h5⟩:=(show xpt xiK from Ay ok e);refine⟨z,y,xs,r,o,es,ep,h1,h2,h3,h4,PP x hx,h5⟩;have all:∀{l} {m},xrF l m->xgF m ((xBu P w).is h xgt (Δ x)):=by
  intro l m q
  induction q with
  |nil=>intro x hx;exact nomatch hx
  | @cons p q ps qs hq t ih=>
   intro x hx;show xix hx e hx
   ·subst e;exact kh ok (by show xaC hq.1 (Δ hq))
   ·exact ih x hx
 exact all r x hx
def CU (ok:xij)(e:xip xiK):xvu/\τ (xpQ a)/\
  ∃xs,xrF LY xs/\h.DictOfH (xBu P w) a xs:=pZ ok xHa
def O2 (H:Hp)(a:LF)(y:V)(r:xca):Prop:=
 (∃LY k,Rd H a xp3/\y=kV k/\r=xtN)\/∃LY k b,Rd H a xiK/\y=xmc/\xcV b xB7/\r=xtN
def Vb (H:Hp)(a:LF)(y v:V)(H':Hp):Prop:=
 (∃LY k,xip xp3/\y=kV k/\xKa/\H'=xwH (.dK (xn0 k v)))\/
 ∃LY k b,xip xiK/\y=xmc/\xcV b xB7/\xKa/\H'=xwH (.dT (xn0 k v))
def O2.t {k:xnR}(e:xip xiK)(eb:xcV b xB7):O2 H a xmc xtN:=.inr ⟨LY,k,b,xHa,rfl,eb,rfl⟩
def Vb.t {k:xnR}(e:xip xiK)(eb:xcV b xB7)(hl:xKa):
  Vb H a xmc v (xwH (.dT (xn0 k v))):=.inr ⟨LY,k,b,e,rfl,eb,hl,rfl⟩
def Inv.big {σ:St}(I:Ps):xvd sysModules:=by
 have h:xvd mainGlobals:=(xID).lt;exact Jq Z9 h
def uX {σ:St}(hu:xmf 1<cLine)(I:Ps)(g:O2 H a y xdV)(ry:xh8)(h:∀w' s',xxE->RelV v w'->Q w' s'):
  xmY (getItem Tm u) Q E s:=by
 rcases g with⟨LY,k,e,ey,l⟩|⟨LY,k,b,e,ey,eb,l⟩
 ·subst ey;show xlc hd vs rel dd (xHe e);show xay w' hw Xi (NO.some_of (by show LE l (rel.val k))) (wpAny_getItem_of xHu dd.mapOf hw (h w' _ xek Xi))
 ·subst ey;cases xgH xyu ry;show xlc hd xs rel dd (xHf e);obtain⟨w',hw,Xi⟩:=NO.some_of (by show LE l (rel.val k));show xa0 p hp Ml (Option.map_eq_some_iff.mp hw) (wpAny_getItem_heap xHv xHV dd hp ?_);show LE Ml (h w' _ xek Xi)
def Em {σ:St}(hu:xmf 1<cLine)(I:Ps)(g:O2 H a y o)(ry:xh8)(h:∀s',xxE->xGX o.isSome s'):
  xmY (compareOp .In u Tm) Q E s:=by
 rcases g with⟨LY,k,e,ey,l⟩|⟨LY,k,b,e,ey,eb,l⟩
 ·subst ey;show xlc hd vs rel dd (xHe e);refine wpAny_in_of xHu hd dd.mapOf ?_;rw [<-xEC k,<-l];exact xcX xek
 ·subst ey;cases xgH xyu ry;show xlc hd xs rel dd (xHf e);refine wpAny_in_heap xHv xHV hd dd ?_;show xaD q (xEC k) K7 q;rw [<-q,<-l];exact xcX xek
def zA {σ:St}(hu:xmf 1<cLine)(I:Ps)(g:O2 H a y o)(ry:xh8)(h:∀s',xxE->xGX (! o.isSome) s'):
  xmY (compareOp .NotIn u Tm) Q E s:=by
 rcases g with⟨LY,k,e,ey,l⟩|⟨LY,k,b,e,ey,eb,l⟩
 ·subst ey;show xlc hd vs rel dd (xHe e);refine wpAny_notIn_of xHu hd dd.mapOf ?_;rw [<-xEC k,<-l];exact xcX xek
 ·subst ey;cases xgH xyu ry;show xlc hd xs rel dd (xHf e);refine wpAny_notIn_heap xHv xHV hd dd ?_;show xaD q (xEC k) K7 q;rw [<-q,<-l];exact xcX xek
def sC {σ:St}(I:Ps)(mu:Mut XL)(hs:xA7 a h')(he:∃q,xea a q)(new:xv4 (xwH ob) h' a ob):
  xlt (xwH ob) s t':=
 I.write mu xbF (λ b q hb z=>xhr hs hb z) he new
def AQ (z:xvu)(hd:τ (xpQ a))(rel:xq0)(dd:h'.DictOf (b9 P w) a vs):
  xzm H' h' a xp3:=⟨z,hd,vs,rel,dd⟩
def uJ {σ:St}(hu:xmf 1<cLine)(I:Ps)(g:Vb H a y v H')(ry:xh8)(rv:RelV v r)(h:∀s',xi8->xhi s'):
  xmY (setItem Tm u r) Q E s:=by
 rcases g with⟨LY,k,e,ey,l,eH⟩|⟨LY,k,b,e,ey,eb,l,eH⟩
 ·subst ey eH;show xlc hd vs rel dd (DH I.hok e);have hz:xc2 vs.length:=by show xaC rel.length z
  have hl:xc2 (xn0 k v).length:=by have:=d6 LY k v;omega
  refine wpAny_setItem_pairs xHu dd λ h' dd' hs=>xcX ?_
  have he:∃q,xea a q:=let⟨q,_,_,hq,_⟩:=dd';⟨q,hq⟩;exact sC I (by show xdM True.intro) hs he (AQ hl hd (rel.put k rv) dd')
 ·subst ey eH;cases xgH xyu ry;show xlc hd xs rel dd (CU I.hok e);have hz:xnw:=by show xaC (Paired.length rel) z
  have hl:xc2 (xn0 k v).length:=by have:=d6 LY k v;omega
  refine wpAny_setItem_heap xHv xHV dd λ h' dd' hs=>xcX ?_
  obtain⟨q,es,ep,hq,h2,h3,h4,_,h5⟩:=dd';refine sC I (by show xdM True.intro) hs ⟨q,hq⟩ ⟨hl,hd,_,(rel.put k eb rv).keeps (Sc c ys ec),q,es,ep,hq,h2,h3,h4,h5⟩;show Re (aG ec e xho) ec
def Dy (i:LN):Prop:=∀ov iv,xE0 i ov iv=xKi [ov,iv] ov iv
def zR {T id:String}
  (hl:xMv xGk=pure (xA8 id)) (hs:Dy slice)
  (h:xl1 (xqa value) (λ o s₁=>xl1 (xqa slice) (λ i s₂=>s₂.TypeIs o T/\xvY (getItem o i) s₂) E s₁) E s):
  xeD (xqa (xvr value slice)):=by
 show xhB (Subscript_ (xcw h (λ o s₁ h₁=>xcw h₁ (Sc i s₂ h₂) x x) x x)) hT h₂ h₂;show xgY subscriptTail ?_;show xjw (getitemInPython_of_ne hT.not_modules) (wpAny_specialOf hT hl ?_);have fin:xl1 (xE0 slice o i) (λ r s₃=>xvY (letTemporaryGo value o r>>= λ _=>pure r) s₃) E s₂:=by
  show LE (hs o i) (wpAny_operating (xcw h₂ (λ r s₃ h₃=>Ev (wpAny_letTemporaryGo (EM h₃))) x x))
 first
  |exact xwA fin
  |exact Ev (xwA fin)
  |exact Ev fin
def o6 {σ:St}(I:Ps)(g:O2 H a y o):s.TypeIs Tm "dict":=by
 rcases g with⟨LY,k,e,_,_⟩|⟨LY,k,b,e,_,_,_⟩
 ·obtain⟨_,_,vs,_,dd⟩:=xHe e;exact dd.typeIs
 ·obtain⟨_,_,xs,_,dd⟩:=xHf e;exact dd.typeIs
def Dc (td ty:TE):TE:=λ σ H Q=>td σ H λ x H1=>ty σ H1 λ y H2=>∃a v,x=Tm/\O2 H2 a y xdV/\Q v H2
def Ej (ty td:TE):TE:=λ σ H Q=>ty σ H λ y H1=>td σ H1 λ x H2=>∃a o,x=Tm/\O2 H2 a y o/\xuX o.isSome H2
def yB (ty td:TE):TE:=λ σ H Q=>ty σ H λ y H1=>td σ H1 λ x H2=>∃a o,x=Tm/\O2 H2 a y o/\xuX (! o.isSome) H2
def Da (td ty tv:TE):TS:=λ D σ H=>tv σ H λ v H1=>td σ H1 λ x H2=>ty σ H2 λ y H3=>∃a H4,x=Tm/\Vb H3 a y v H4/\xA5 H4
def ym (hu:xsP 1<cLine)(ho:xal o td)(hi:xal i ty)(hs:Dy i):xal (xvr o i) (Dc td ty):=by
 intro LQ s σ H Q I h;refine zR PySem.F.slot_dict_getitem.lookup hs (thn (xmN s H _ I h) λ u s1 ⟨x,H1,I1,rx,q1⟩=>xgP (xxq s1 σ H1 _ I1 q1) iv s2);obtain⟨y,H2,I2,ry,a,v,ex,g,q2⟩:=z9;subst ex;obtain rfl:u=xcP:=rx;show xar (o6 I2 g) (uX hu I2 g ry λ w' s3 I3 Xi=>⟨v,H2,I3,Xi,q2⟩)
def BC (hu:xsP 1<cLine)(hi:xal i ty)(ho:xal o td):PC X .In i o (Ej ty td):=by
 intro LQ s σ H Q I h;refine thn (xxq s σ H _ I h) λ iv s1 ⟨y,H1,I1,ry,q1⟩=>xgP (xmN s1 H1 _ I1 q1) u s2
 obtain⟨x,H2,I2,rx,a,ov,ex,g,q2⟩:=z9;subst ex;obtain rfl:u=xcP:=rx;exact Em hu I2 g ry λ s3 I3=>xg0 ov.isSome H2 I3 q2
def vn (hu:xsP 1<cLine)(hi:xal i ty)(ho:xal o td):PC X .NotIn i o (yB ty td):=by
 intro LQ s σ H Q I h;refine thn (xxq s σ H _ I h) λ iv s1 ⟨y,H1,I1,ry,q1⟩=>xgP (xmN s1 H1 _ I1 q1) u s2
 obtain⟨x,H2,I2,rx,a,ov,ex,g,q2⟩:=z9;subst ex;obtain rfl:u=xcP:=rx;exact zA hu I2 g ry λ s3 I3=>xg0 (! ov.isSome) H2 I3 q2
def sO (hu:xsP 1<cLine)(ho:xal o td)(hi:xal i ty)(hv:xal value tv)(hs:xHI value (some (.Subscript o i pos'))=xCe):
  xyU [.Subscript o i pos'] value pos (Da td ty tv):=by
 intro LQ s σ H D I h;refine wpAny_Assign_Subscript (thn (hv LQ s σ H _ I h) λ r s1 ⟨v,H1,I1,rv,q1⟩=>thn (xmN s1 H1 _ I1 q1) λ u s2 ⟨x,H2,I2,rx,q2⟩=>xgP (xxq s2 σ H2 _ I2 q2) iv s3) hs;obtain⟨y,H3,I3,ry,a,H4,ex,g,q3⟩:=z9;subst ex;obtain rfl:u=xcP:=rx;exact uJ hu I3 g ry rv λ s4 I4=>⟨σ,H4,I4,q3⟩
def xj (h:LM)(hb:sysModules<h.objs.size):xzm H (h.push (xAL "dict" (.dict #[]))) h.objs.size xhE:=
 ⟨xac,Ja.mpr (IG (FA hb)),[],.nil,_,#[],0,xfz,xd9 rfl rfl,rfl,rfl,List.nodup_nil⟩
def Bt:TE:=λ _ H Q=>∀p,xid->Q xad (xdU p xhE)
def p7:xal (.Dict [] [] pos) Bt:=λ LQ s σ H Q I h=>
 wpAny_Dict_empty (xby xpE _ (I.laid (xEz xrN) Tl (xj s.heap I.big)) (xcX xlI))
def xb {K:Frag}{g:TG}{tb:TS}{D:Ends}(Pv:xaX xbR)(h0:xqC 0)(hl:∀i σ H,xlh->xpl->xgC)
  (hs:∀i x p σ H,xkW->xid->xpl->g xad σ (xcn H p [.int xd0,x]) λ σ2 H2=>xrx D xfN xfN H2) (hd:∀σ H,xqC xs.length->xpc):
  ∃W:xi3 xbR,(∃m,xwM σ H)/\∀i m σ H,xwL σ H->
   (xn8 xoT H/\xpc)\/(xoI xoT H/\∃N,(∀σ' H',N σ' H'->∃m',m'<m/\W (i+1) m' σ' H')/\∀x H',xok xoT H x H'->xwi H' λ σ2 H2=>xrx D N N H2):=by
 refine Ψ (λ i m σ H=>m=xfq i/\xlh/\xpl) ⟨xs.length,Z6,xac,h0⟩;rintro i m σ H ⟨rfl,hi,p⟩;have q:=xrz σ H hi p;by_cases LU:xeM i
 ·refine .inr ⟨⟨xs,xs[i],q,by simp [LU]⟩,xfN,λ σ' H' p'=>xc8 (xfq (i+1)) xmI LU p',Sc x H' y⟩;obtain⟨p1,x1,MJ,e1,e2,y⟩:=y;subst e1 e2;exact xrB x1 p1 σ _ (y xs q) MJ p
 ·have e:xnO i:=xuj;show xqT e ⟨xAc xs q,hd σ H p⟩
universe L2
namespace K33.C
open PySem L2 QQ C9 C10
seal PE PA PS PSs PT PW PG PI
def jv (R:Id):xiB=xvU (xC3 b xdj):=by show Τ GG
def IsL (H:Hp)(x:V)(L:Id):Prop:=∃a,x=Tm/\XL=xhb/\∀l∈L,xeB l
def OT (H:Hp)(x:V):Ο xBZ
 |none=>x=.non
 |some c=>∃t,x=xfr/\xcV t [vN xhX,vN xh6]
def CL (H:Hp)(xs:LT)(cs:List xBZ):Prop:=xCX cs.length/\∀(i:Nat) x c,xkW->Ν cs c->OT H x c
def OT.keep {H H':Hp}(h:OT H x c)(k:∀t ys,xcV t ys->xc3 (H' t) ys):OT H' x c:=by
 cases c with
 |none=>exact h
 |some c=>show xay t e z h ⟨t,e,xmo z⟩
theorem CL.keep (h:xrb H cs)(k:∀t ys,xcV t ys->xc3 (H' t) ys):xrb H' cs:=⟨xbS,λ i x c h1 h2=>(xex i x c h1 h2).keep k⟩
theorem CL.set {H:Hp}(h:xrb H cs)(hy:OT H y d):CL H (xs.set p y) (cs.set p d):=by
 refine⟨by rw [Hv,Hv];exact xbS,λ i x c h1 h2=>?_⟩;by_cases e:p=i
 ·subst e;have hp:xeM p:=by
   have:=xbX h1
   rwa [Hv] at this
  rw [Gs hp] at h1;show ρ (Gs (by show xaC xbS hp)) h2 h1;cases h2;exact hy
 ·rw [HY e] at h1 h2;exact xex i x c h1 h2
theorem CL.none (H:Hp)(n:Nat):CL H (List.replicate n .non) xzR:=by
 refine⟨by rw [Ff,Ff],λ i x c h1 h2=>?_⟩;rw [IW] at h1 h2
 split at h1
 ·cases h1;show ρ (EU (by assumption)) h2 h2;rfl
 ·cases h1
def ndL:(["length"]:xae).Nodup:=Z8
inductive Ws (vs:LT) (H:Hp) (Q:VK) (LX:XK):Prop
 |mk (a:LF) (L:Id) (h0:vs=xbK) (h1:XL=xhb) (h2:(∀l∈L,xeB l)) (h3:xfm 300) (h4:xbC (UV->xtg (xhM L))):Ws vs H Q LX
def A6:P3 Jaf Jaf xq:=On
abbrev yg:TE:=UE (rI Di (xhZ i j (i*2^j.toNat))) (tC xqn) (xDH (xhZ i j (i-j)) (tC (.int 12)) xtH)
abbrev vQ:TT:=o5 (xDH (λ i j=>xzU j i) xtH xHw)
def zf (F:Ζ "room_taken" xq Jaf)(T:xbn):xov Jaf Ws:=by
 show xeL tm hm T.mlen A6 (λ LS A outer s H vs Q E hr h=>?_)
 intro _;obtain⟨a,L,rfl,hL,hb,hl300,k⟩:=h;have hn:=xlX;show xcc (xei (xkE (xD hn) T.sum PyProof.Rows.boot_sum (xbe (jt (N:=["length"]) (g:=xhf) (tt:=vQ) (te:=yg) rfl rfl Z8 Z8 Z8 (bS Uf)
   (λ fp s H=>xrW 0 ndL) (λ fp s H=>xm7 c8 Uf) (λ fp s H=>xy8 di (xgi xDu Uf)))))) (xfR a (xhx hL) xe7) (o8 (K:=K) (a:=a) (l:=l) (xs:=xpD) (n:=1) (g:=xhf) (tt:=vQ) (te:=yg)
  (λ i ys H'=>ys=Κ (xiF (xvO (L.take i) b (0<b)) b (2^(12-b)))/\xap=xdf/\UV) (xq3 ad xgd) (λ i ys H' _ z9=>by show xB1 sm;exact xCu hL) ?_ ?_ ?_ ?_ ?_)
 ·rintro i x ys σ H' hx ⟨rfl,hl,sm⟩ hσ;show xdt b MN (cD hx);have hb12:=xh3 xHs;have Nf:xht i:=xbX MN;show xfP u0 u0 (σ=[u0]) (match σ,hσ with| [u0],_=>xck u0)
  have hlen:xbg (xvO (L.take i) b (0<b)) 300:=Ew (Kl _ _) (by show xni (xmd _ _ hl300));refine⟨_,rfl,_,_,rfl,rfl,_,rfl,?_⟩;rw [cB MN,Fd]
  try dsimp only
  by_cases h0:0<b
  ·show ST (EU (Ez (show xcU<xdj from KC.mpr h0))) ⟨_,rfl,_,_,rfl,rfl,_,_,rfl,rfl,xxv Z5 Z9,hl,bC (by rw [Es,Es];exact xdC hlen),rfl,?_,ad,xlx c⟩
   ·rw [E2 (by show xD3),EG,EG];have e1:xb4*xuD (Ty 12-xdj)=M2 (2^(12-b)):=by
     rw [show xoH (Ty 12) xdj=12-b by lia,LC];simp
    try dsimp only
    show Τ e1
   ·show xlr xqq
  ·show ST (EI (xnp z (EA z) Z5)) ⟨rfl,?_,?_,sm⟩
   ·show xbc (Fc (by show xD3))
   ·exact hl
 ·rintro ys H' ⟨rfl,hl,sm⟩;rw [Es,Fy,jv] at hl;refine xfQ l xze ?_;have e:(xrt (xiF (xsi b (0<b)) b (2^(12-b)))).sum=M2 (xhM L):=by
   unfold krf;generalize xiF (xsi b (0<b)) b (2^(12-b))=Y
   induction Y with
   |nil=>rfl
   |cons y Y ih=>simp only [FZ,Jv];show xbc ih
  show xdM (xdp sm)
 ·exact λ x σ H A B h z=>xih
 ·exact λ σ H A B h z9=>by obtain⟨v,e1,i,j,e2,e3,c,e4,z⟩:=z9;exact⟨v,e1,i,j,e2,e3,c,e4,xih⟩
 ·exact λ σ H A B h z9=>by obtain⟨v,e1,i,j,e2,e3,i2,j2,e4,e5,c,z⟩:=z9;exact⟨v,e1,i,j,e2,e3,i2,j2,e4,e5,c,xih⟩
inductive QC (vs:LT) (H:Hp) (Q:VK) (LX:XK):Prop
 |mk (x:V) (L:Id) (h0:vs=xbT) (h1:IsL H x L) (h2:xmm) (h3:xqZ):QC vs H Q LX
def vd:P3 Jaf Jaf fk:=On
structure Zk (K:Frag)(mg:π):Prop where
 X:xbn
 whole:xCa cb Jab
 arewhole:UF "are_whole" cz Jab
 things:UF "are_of_things" fU xsh
 room:UF "room_taken" xq Jaf
def rY {P:LI}{w:LJ}(F:Ζ "need_lengths" fk Jaf)(Y:Zk K mg):xqQ Jaf QC:=by
 obtain⟨T,⟨_,_,W⟩,⟨_,_,AW⟩,⟨_,_,Th⟩,⟨_,_,Ro⟩⟩:=Y;show xeL tm hm T.mlen vd (λ LS A outer s H vs Q E hr h=>?_)
 intro _;obtain⟨x,L,rfl,⟨a,rfl,hB,hb⟩,G,k⟩:=h;show xgk (xgL (xql (xaK (S.QR Th AW W T) Th (xc6 Uf xDu))) (af (xeA c8 (xaK (zf Ro T) Ro xbj) (xy8 di xDu) aO))) ⟨_,rfl,a,L,12,rfl,hB,hb,G.ne,G.le,G.some,_,rfl,bi Β⟩;show TD ⟨_,rfl,a,L,rfl,hB,hb,G.le,PP H' s1⟩ ⟨_,_,rfl,rfl,⟨Z9,Z9,Z9⟩,_,_,rfl,rfl,_,rfl,xDr (xdp s1)⟩;exfalso;have:=xbJ;have g:=G.room;have e:xb4*xuD (Ty 12)=4096:=Z9;rw [e] at this;lia
def Uv {α:Type}(x:α)(k):xjR k xbT=List.replicate k x:=by
 induction k with
 |zero=>rfl
 |succ k ih=>rw [FW,Gd,ih,FW];rfl
def x0 (hl:xfm 300)(hj:xeB j):xoO≤1228800:=by
 have h:=Aq L j;have h1:2^j≤2^12:=xxx hj;have h2:L.length*2^j≤300*4096:=Nat.mul_le_mul hl h1;lia
def yS (L)(j):xcy 0 (j+1)=2*xoO:=by show xbc t7
def ixN_nat (h:i<n):NE (ixN n xf7) i:=by
 show xaP ixN (EU Z5);show xtC
inductive QG (vs:LT) (H:Hp) (Q:VK) (LX:XK):Prop
 |mk (x:V) (L:Id) (h0:vs=xbT) (h1:IsL H x L) (h2:xmm) (h3:∀l xs H',Ξ->UV->xap=xdg->xrb H' xsU->xao):QG vs H Q LX
def Mx:P3 ["lengths","codes","code","size","place","length"] Jaf gH:=On
def P7 {P:LI}{w:LJ}{mg:π}{base:LM}{f fN:LF}{fd SA:LK}(F:Ζ "codes_of" gH Jaf)(N:xbs "need_lengths" fk Jaf fN SA)(Y:Zk K mg):Η 33 Jaf QG:=by
 have T:=Y.X;show xeL tm hm T.mlen Mx (λ LS A outer st H vs Q E hr h=>?_)
 intro _;obtain⟨x,L,rfl,⟨a,rfl,hB,hb⟩,G,k⟩:=h;show xgk (xmg (xaK (rY N Y) N xbj) (xaQ 1 Mx.nd (xAt il (xbe dO) xl7) (xa7 2 Mx.nd ak (xkH (iq Z7 T.range (xrk (xhU xDu))) 3 Mx.nd (xeX 2 Mx.nd (xgI di XV) (bw E5 rfl (je Z7 T.enum xbj) (xD4 (xob 4 Mx.nd (xob 5 Mx.nd gQ))) (af (xhN bG xcr xaz (xeN (mW (dH (xbP 2 3)) (lT SZ xan gX)) (xuo Mx.nd (xhU XV))) aA))))) SZ))) ⟨_,rfl,_,L,rfl,xfC a hB hb,G,xdD H1 s1⟩;have NM:=G.le;refine xcx (xeY (by show xdy 1) l0 n0)
 have s2:=xaR [.non] n0;show xa8 ⟨_,rfl,a,_,rfl,Φ (xbQ (xcb hB)),l0,_,_,rfl,rfl,ad,IN (2^63) _,by show xdl (xDW NM),(by rw [Es,E6];exact bF (by show 1*_≤_;lia)),xdD l nl⟩;have s3:=xje xCg;have ez:xDI (xlW xpD) [V.non]=xCg:=by rw [Es,E6,Uv]
 try dsimp only
 rw [ez];have OU:(xcB (xbi H1 l0 [.non]) xCg) l=Υ xCg:=ad;have nlH:Ξ:=xpY xdP;have Tf:=xy1 s3;show xas (xcB (xbi H1 l0 [.non]) xCg) H3 (ar (xdD R1 g1))
 clear g1;refine xcx ⟨_,_,rfl,rfl,1,13,rfl,⟨Z5,Z5,Z5,Z5⟩,?_⟩
 have en:xoH (Ty 13) 1=12:=Z9
 try dsimp only
 show ST en (xAj xd5 1 (n:=12) (λ j σ H2=>∃v3 v4 v5:xca,∃xs:LT,σ=[xbA,xhl,SL xoO,v3,v4,v5]/\xjn=xdg/\xrb H2 (xs8 j 0)/\xkS) ⟨none,none,none,_,rfl,OU,by show LE wD (CL.none _ _),Tf⟩ ?_ ?_)
 ·clear g1 OU Tf s3 nl;rintro j σ H2 hj ⟨v3,v4,v5,xs,rfl,Mu,hC,sm⟩;have eb:xb4+xw3=xg5 j:=Z5
  try dsimp only
  rw [eb];have hes:=x0 NM (show xeB j from HK hj);show xfx g2 ⟨_,rfl,_,_,rfl,rfl,xxv Z5 Z5,xcZ⟩ g2;have ec:M2 xoO*xuD xb4=M2 (xcy 0 (j+1)):=by
   rw [yS,xcd ((xb4).toNat) 1];lia
  try dsimp only
  show ST ec ⟨_,rfl,a,_,rfl,xCu hB,xb (D:=xd5) (K:=K) (a:=a) (xs:=xpD) (λ p σ H'=>∃v4 v5:xca,∃xs:LT,σ=[xbA,xhl,SL (xcy p (j+1)),SL (j+1),v4,v5]/\xap=xdg/\xrb H' xAA/\UV)
   ⟨v4,v5,xs,rfl,Mu,hC,sm⟩ (λ i σ H' _ z9=>by obtain⟨_,_,_,_,_,_,e⟩:=z9;exact K'.of (e _ _ hB)) ?_ ?_⟩
  ·rintro p y t σ H' hp ht ⟨v4,v5,xs,rfl,Mu,hC,sm⟩;show xdt b MN (cD hp);have Nu:xht p:=xbX MN;show xjM st (xhz [vN p,xd1] ht) ⟨t,_,rfl,MD.of ad,rfl,_,_,rfl,_,_,rfl,rfl,?_⟩ ⟨_,rfl,_,rfl,rfl,_,rfl,xk4⟩
   ·have e1:b=j+1:=ME.mp xiR;rw [e1] at MN st ⊢;refine xfT g3 (xfR _ (by show xgE) xxP)
    have sq:=xhz [vN (xcy p (j+1)),vN (j+1)] nq;have hlq:=sq _ _ (xey Mu);have hCq:xrb _ xAA:=hC.keep λ t ys e=>sq _ _ (xey e)
    show xlK ⟨_,rfl,_,rfl,l,xs,_,p,rfl,rfl,hlq,ixN_nat (by rw [hC.1,bd];exact Nu),g3 _ _ ?_⟩ g3;refine⟨_,rfl,_,_,rfl,rfl,?_⟩;have ec2:M2 (xcy p (j+1))+1=M2 (xcy (p+1) (j+1)):=by show xaF (pH MN)
    try dsimp only
    show ST ec2 ⟨xpa,SL (j+1),xs.set p xwB,rfl,ad,?_,xlx c⟩
    ·show ST (zj MN) ((hCq.set (y:=xwB) (d:=some (xcy p (j+1),j+1)) (xd9 q ad)).keep (xcW t2 ys))
     show Re (aG e hlq (by show Ε)) e
    ·show xgp nlH (sq _ _ (xey xqq))
   ·have e1:xq9 L[p]? (j+1):=by
     rw [MN];show Ε;exact h1 xnX
    refine⟨xpa,xmX,xs,?_,xey Mu,?_,sm.trans st⟩
    ·show Τ (ve e1)
    ·show LE (wG e1) (hC.keep λ t ys e=>xey e)
  ·rintro σ H' ⟨v4,v5,xs,rfl,Mu,hC,sm⟩;rw [Es] at hC ⊢;rw [oR];show WF xp hC ⟨_,_,_,xs,rfl,Mu,hC,sm⟩
 ·rintro σ H2 ⟨v3,v4,v5,xs,rfl,Mu,hC,sm⟩;exact xzY (xd8 xs H2 nlH sm Mu hC)
def u1 (r:xpe A):xmf 1<cLine:=by show xbu r.un
abbrev kk (a b:Nat):xnR:=[.inl (M2 a),.inl xdj]
def Pm:kk a b=kk c d<->a=c/\b=d:=by
 constructor
 ·intro h;injection h with h1 h2
  injection h2 with h2 _
  injection h1 with h1
  injection h2 with h2
  lia
 ·rintro⟨rfl,rfl⟩;rfl
def CF:¬(xFH="beginnings"):=Z8
noncomputable def fC (d e:LF):xev:=[("things",xqx),("beginnings",xf6)]
def gW (d e):xjQ "beginnings" e (xyN d [])=fC d e:=by
 show(xdh (xFH="beginnings") xFH d [xvp "beginnings" e])=_;show Τ (EI CF)
def B7 (d e):xcO (fC d e) "things"=xmP:=by
 rw [<-gW,ao,EI CF,ao,xag]
def DV (d e):xcO (fC d e) "beginnings"=SC e:=by
 rw [<-gW,ao,xag]
def fC_no (d e){m:Str}(h1:xdJ (m="beginnings"))(h2:xdJ (m="things")):xlP (fC d e) m:=by
 rw [<-gW,ao,xoq,ao,xmx];rfl
def oo (L:Id)(n:Nat)(LY:xmw xnR):Prop:=xbv LY.length/\∀a b,(∀q,q<n->xfB q b->xb6->xh9 b=a->xqp a b=SL q)/\((∀q,q<n->xfB q b->xb6->xh9 b≠a)->W1 (xqp a b))
def oy (L:Id)(n:Nat)(LY:xmw xnR):Prop:=LY.length≤12*n/\∀a b,xke (xqp a b)<->∃q s,q<n/\xpo/\b<s/\xh9 s/2^(s-b)=a
structure Nj (C:LF)(H:Hp)(p d e:LF)(L:Id):Prop where
 ob:∃dx,xbh=xoa d e
 th:∃LY,xfh d xiK/\oo L L.length LY
 bg:∃LY,xfh e xiK/\oy L L.length LY
structure CRc (K:Frag)(mg:π)(C:LF):Prop where
 cl:xgw
 nT:xcH "things"
 nB:xcH "beginnings"
inductive WB (C:LF) (vs:LT) (H:Hp) (Q:VK) (LX:XK):Prop
 |mk (p d e dx:LF) (c s:Nat) (LY:xmw xnR) (h0:vs=[xad,xh7,xbz]) (h1:xbh=xoa d e) (h2:xfh e xiK) (h3:LY.length≤5000) (h4:xeB s) (h5:∀H' OY,NE (H' e) (.dT OY)->OY.length≤xH2 s->(∀a b:Nat,xke (cm OY (kk a b))<->xke (xqp a b)\/(b<s/\c/2^(s-b)=a))->xc1 (∀x o,xhp=IO->x≠e->H' x=IO)):WB C vs H Q LX
def WO:P3 ["self","code","length","size"] (xnV "code" "length") wp:=On
def yC (F:Χ "keep_beginnings" "CodeReader.keep_beginnings" wp)(T:CRc K mg C)(X:xbn):xew (xnV "code" "length") (WB C):=by
 show xaE WO (λ LS A outer st H vs Q E hr h=>?_);obtain⟨p,d,e,dx,c,s,LY,rfl,hp,he,hl,hs,q⟩:=h;have npe:p≠e:=aG hp he (by show Ε);show xcR (af (xkH (xG2 Z7 xeW) 3 WO.nd (af (sO xC4 Α (dH (aa (aq io SZ (xgi XV xaz)) (xeH 3))) dm rfl)))) ⟨_,rfl,M2 s,rfl,Z4,Z4,?_⟩
 try dsimp only
 show ST E6 (xAj xd5 0 (n:=s) (λ i σ H2=>∃v OY,σ=[xd3,SL c,xjp,v]/\NE (H2 e) (.dT OY)/\OY.length≤xH2 i/\
   (∀a b,xke (cm OY (kk a b))<->xke (xqp a b)\/(b<i/\c/2^(s-b)=a))/\∀x o,xhp=IO->x≠e->H2 x=IO) ⟨none,LY,rfl,he,Z4,λ a b=>⟨.inl,No (z.elim id (xnp z xd2 Z4))⟩,λ x o e _=>e⟩ ?_ ?_)
 ·rintro i σ H2 hi ⟨v,OY,rfl,TC,Mu,hv,O3⟩;have ei:xcU+xf7=xf7:=Z4
  try dsimp only
  rw [ei];show xjM Ml (O3 _ _ hp npe) ⟨_,rfl,p,C,dx,_,_,rfl,Ml,T.cl,T.nB,DV _ _,?_⟩ ⟨_,rfl,_,rfl,_,rfl,_,_,rfl,rfl,_,_,rfl,rfl,(by show xcU≤M2 s-xf7;lia),_,rfl,(by show xgE),PP t nt⟩;have e1:M2 c/xuD (M2 s-xf7)=M2 (c/2^(s-i)):=by
   show xbc (show xoH (M2 s) xf7=s-i by lia)
  try dsimp only
  rw [e1];have net:e≠t:=ae TC nt;show TD (xfQ e (Vb.t (b:=t) (k:=kk (c/2^(s-i)) i) (by show Re net TC) ad (xkD (show _≤6000 from Z4))) ?_) ⟨_,_,rfl,ad,Ew (d6 _ _ _) Z4,PP a b,λ x o ex hx=>?_⟩
  ·rw [jI];by_cases c1:kk a b=kk (c/2^(s-i)) i
   ·rw [EU c1];show xmU (Pm.mp c1) ⟨λ _=>.inr (xck Z4),xf2⟩
   ·rw [EI c1,hv];constructor
    ·rintro(z|⟨z1,z2⟩)
     ·show xaT z
     ·exact xcz Z4 z2
    ·rintro(z|⟨z1,z2⟩)
     ·show xaT z
     ·refine xcz ?_ z2;show xa3 b i h h
      ·exact h
      ·show xeU (b=i) Z4;show xab (Pm.mpr (xck z2.symm)) c1
  ·have h1:=O3 x o ex hx;rw [ai hx,xlC h1 nt];exact h1
 ·rintro σ H2 ⟨v,OY,rfl,TC,Mu,hv,O3⟩;exact q _ _ TC Mu hv O3
def zl (L):oo L 0 []:=⟨Tl,λ a b=>⟨xem q hq hq Z4,xf2⟩⟩
def zu (L):oy L 0 []:=by
 refine⟨xac,λ a b=>⟨xdr h,λ z9=>by obtain⟨q,s,hq,_⟩:=z9;show xab hq Z4⟩⟩;cases h
def zQ (h:oo L n LY)(h0:∀s,xfB n s->¬xrO):oo L (n+1) LY:=by
 refine⟨Ew xbS xky,λ a b=>⟨λ q hq hb h1 hc=>?_,λ hn=>(xex a b).2 λ q hq=>hn q Z4⟩⟩;show xa3 q n z z
 ·exact(xex a b).1 q z hb h1 hc
 ·show xeU (q=n) Z4;show xab h1 (h0 b hb)
def zZ (h:oy L n LY)(h0:∀s,xfB n s->¬xrO):oy L (n+1) LY:=by
 refine⟨Ew xbS Z4,λ a b=>xnq h a b ⟨λ z9=>by obtain⟨q,s,hq,r⟩:=z9;show xav q s Z4 r,xdr z9⟩⟩;obtain⟨q,s,hq,h1,h2,h3⟩:=z9;show xa3 q n z z
 ·exact⟨q,s,z,h1,h2,h3⟩
 ·show xeU (q=n) Z4;show xab Z4 (h0 s h1)
def Cf (h:oo L n LY)(hs:xfB n s)(h1:xrO):oo L (n+1) (xn0 (kk (xcy n s) s) xdH):=by
 refine⟨Ew (d6 _ _ _) (by show xbu xbS),λ a b=>⟨λ q hq hb MN hc=>?_,xdr hn⟩⟩
 ·rw [jI];by_cases c:kk a b=kk (xcy n s) s
  ·show xbM rfl (Pm.mp c);rw [xag,w4 hb hs hc]
  ·rw [EI c];show xa3 q n z z
   ·exact(xex a b).1 q z hb MN hc
   ·have:q=n:=Z4;show xbx this hs hb hb;show xab (Pm.mpr (xck hc.symm)) c
 ·rw [jI,EI]
  ·exact(xex a b).2 λ q hq=>hn q Z4
  ·intro c;show xmU (Pm.mp c) (hn n Z4 hs h1 rfl)
def Cz (h:oy L n LY)(hs:xfB n s)(hs12:xeB s)(hl:OY.length≤xH2 s)
  (hv:∀a b:Nat,xke (cm OY (kk a b))<->xke (xqp a b)\/(b<s/\xcy n s/2^(s-b)=a)):oy L (n+1) OY:=by
 refine⟨by show xbu xbS,λ a b=>(hv a b).trans ?_⟩;rw [xex a b];constructor
 ·rintro(⟨q,r,hq,z⟩|⟨z1,z2⟩)
  ·show xav q r Z4 z
  ·exact⟨n,s,Z4,hs,z1,z2⟩
 ·rintro⟨q,r,hq,z1,z2,z3⟩;show xa3 q n z z
  ·show xaT ⟨q,r,z,z1,z2,z3⟩
  ·have:q=n:=Z4;show xbx this hs z1 z1;exact xcz z2 z3
inductive spCInit (C:LF) (vs:LT) (H:Hp) (Q:VK) (LX:XK):Prop
 |mk (p dx a:LF) (L:Id) (h0:vs=[xad,Tm]) (h1:xbh=xxH) (h2:XL=xhb) (h3:xmm) (h4:∀(d e:LF) (H':Hp),υ d->υ e->xo6 H' p d e L->xc1 (∀b o,xb7=IO->xgx->xde=IO)):xF7 vs H Q LX
def scCInit:P3 ["self","lengths","place","pair"] xJq sCInit:=On
structure Mks (K:Frag)(mg:π)(C:LF):Prop where
 X:xbn
 Y:Zk K mg
 need:UF "need_lengths" fk Jaf
 cof:UF "codes_of" gH Jaf
def bt (R:Id):xaH:=BP.dig xsJ Θ
def MG (R):xaJ xeh Θ:=BP.L8 _ _
theorem tu (n):∀m i,i<m->Ν (BP.dig n m) (xa2 (n/2^(m-1-i)%2) 1)
 |m+1,0,_=>by
  show xDg _ _;rfl
 |m+1,i+1,h=>by
  show(BP.dig n m)[i]?=_;rw [tu n m i Z4,show m+1-1-(i+1)=m-1-i by lia]
def AJ (h:t+s<Θ):∃b,xGU (s+1)=xur++[b]/\xsJ/2^(Θ-(t+s+1))%2^1=b.toNat:=by
 refine Ψ (xa2 (xsJ/2^(Θ-1-(t+s))%2) 1) ?_
 ·rw [F1,Ix];show xaP bt (tu _ _ _ h);rfl
 ·rw [show Θ-(t+s+1)=Θ-1-(t+s) by lia,Nat.pow_one];have h2:=HJ (xsJ/2^(Θ-1-(t+s))) (show 0<2 from Z9);by_cases c:xsJ/2^(Θ-1-(t+s))%2=1
  ·rw [Ez c,c];rfl
  ·rw [F7 c];show _=0;lia
def Ek:¬(xFH="held"):=Z8
def Nj.keep (h:xo6 H p d e L)(s:∀c o,χ=IO->(c=p\/c=d\/c=e)->xaL=IO):xo6 H' p d e L:=by
 obtain⟨⟨dx,h1⟩,⟨k1,h2,Rk⟩,⟨k2,h3,Xa⟩⟩:=h;exact⟨xdx (xci h1 xbF),⟨k1,xzl h2 xbF,Rk⟩,⟨k2,xzl h3 xsv,Xa⟩⟩
def Nj.same (h:xo6 H p d e L)(s:UV):xo6 H' p d e L:=h.keep λ c o e _=>xci e
def zD (h:oy L L.length LY)(u):xke (xqp xKx u.length)<->XH L u:=by
 rw [xex];constructor
 ·rintro⟨q,s,_,h1,h2,h3⟩;exact⟨q,s,h1,h2,h3⟩
 ·rintro⟨q,s,h1,h2,h3⟩;exact⟨q,s,xbX h1,h1,h2,h3⟩
def ze (h:oo L L.length LY)(u):(∀q,xrC u q->xqp xKx u.length=SL q)/\((∀q,¬xrC u q)->W1 (xqp xKx u.length)):=by
 refine⟨λ q ⟨h1,h2,h3⟩=>(xex _ _).1 q (xbX h1) h1 h2 h3,λ hn=>(xex _ _).2 λ q _ h1 h2 h3=>hn q ⟨h1,h2,h3⟩⟩
def NG:P3 ["self","reader","begin","code","size"] xJA qZ:=On
universe K33.C
namespace K33
open PySem L2 QQ W17 W16 BP
def th:xp2 Pc
 | .sg s=>s
 | .cp _ z=>253+z
noncomputable def cP (L:Id):Pc->xaS
 | .sg s=>[(xvb s xxb,xxb)]
 | .cp b z=>[(xvb (253+z) (xc4 (253+z)),xc4 (253+z)),(b,8)]
def hP (L:Id)(P:xen):xaS:=P.flatMap (cP L)
def cn (Q:Id):Id:=xv3 (λ q=>xyY)
def vF (L)(P Q:xen):xqg (P++Q)=xqg P++xqg Q:=by simp [hP]
def sZ (L)(x)(P):xqg (x::P)=cP L x++xqg P:=by simp [hP]
def BX (L)(x:Pc):xqg xbT=cP L x:=by simp [hP]
def dE (Q:Id):xaJ xgS 272:=by simp [cn]
theorem GR.all:∀{P} {B},GR B P->xgF P (∃B',gj B' x)
 |y::P,B,h,x,hx=>by
  show xel hx hx
  ·show xar B xbS
  ·exact GR.all xex x hx
def yh (h:gj B x):th x<272:=by
 cases x with
 |sg s=>have:xaq s:=h;show s<272;exact xkD (EZ this)
 |cp b z=>
  obtain⟨_,_,_,_,h5⟩:xb6/\xoQ b/\xf3 b/\3≤z/\z≤18:=h;show 253+z<272;lia
structure Zh (L:Id)(Pp:xen):Prop where
 good:xvZ
 len:xmn
 six:xaY L (b≤6)
 has:xgF Pp (ω (xmb x))
def Zh.at (h:Zh L Pp)(hx:x∈Pp)(g:gj B x):xfB (th x) (xmb x)/\ω (xmb x)/\xmb x≤6:=by
 have hl:xht (th x):=by show LE h.len (yh g)
 have e:xfB (th x) (xmb x):=by rw [E3,Ex hl];rfl
 exact⟨e,h.has x hx,h.six _ (FG e)⟩
def zw (h:Zh L Pp)(g:GR W Pp):Good xts:=λ q hq=>by
 obtain⟨x,hx,hq⟩:=Lk.mp hq;obtain⟨B',gx⟩:=g.all x hx;obtain⟨e1,e2,e3⟩:=h.at hx gx;have cl:=C10.Wf h.good e1 e2;cases x with
 |sg s=>
  show xiI (xku q [(xvb s xxb,xxb)] hq) cl
 |cp b z=>
  show xel (xku q [(xvb (253+z) (xc4 (253+z)),xc4 (253+z)),(b,8)] hq) hq
  ·exact cl
  ·rw [EW.mp hq];obtain⟨_,h2,_,_,_⟩:xb6/\xoQ b/\b≤B'.length/\3≤z/\z≤18:=gx;show b<2^8;exact Hl h2
def yL (six:xaY L (b≤6))(x):xC5 L x≤14:=by
 have six:∀n,xc4 n≤6:=λ n=>by
  rw [E3];cases e:L[n]? with
  |none=>exact xac
  |some y=>exact six y (FG e)
 cases x with
 |sg s=>have:=six s;show xxb+0≤14;exact xdC this
 |cp b z=>have:=six (253+z);show xc4 (253+z)+(8+0)≤14;exact Nat.add_le_of_le_sub Z9 this
theorem lX (six:xaY L (b≤6)):∀P:xen,xzb P≤14*P.length
 | []=>Tl
 |x::P=>by
  rw [sZ,aQ,EK];have:=lX six P;show xbu (yL six x)
theorem jl:∀{It:xsf} (a:Nat),(xGV It x)->xqi≤3*xBT a
 | [],_,_=>Tl
 |x::It,a,h=>by
  have hx:=h x Z6;have e:W13.puts (x::It)=x.puts++xjT:=by simp [W13.puts]
  rw [e,aQ];cases x with
  |one y=>
   have ih:=jl (It:=It) y λ z hz=>h z (by simp [hz])
   show(3+0)+xqi≤3*(xBT y+1);lia
  |rep r=>
   have ih:=jl (It:=It) a λ z hz=>h z (by simp [hz])
   have hr:3≤r/\r≤66:=hx;show(3+(6+0))+xqi≤3*xaN (xpJ r) (xsd a);rw [Et,Ff];lia
def um (hl:xmn){It:xsf}(h:xyL 0 0 It 272 b):xsd 0=L:=by
 have:=W13.Pw h;rw [IE,FJ,<-hl,Fy] at this;exact this.symm
theorem tT:∀{P P':xsf} {p a b b':Nat},xyL p a P L.length b->xyL p a P' L.length b'->P=P'
 | [],[],_,_,_,_,_,_=>rfl
 | [],x::P',p,a,b,b',h,h'=>by have:=xbS;show xbu h'.1
 |x::P,[],p,a,b,b',h,h'=>by have:=h'.1;show xbu xbS
 |x::P,x'::P',p,a,b,b',h,h'=>by
  obtain⟨_,e,h⟩:=h;obtain⟨_,e',h'⟩:=h';subst e;subst e';rw [tT h h']
theorem lR (a)(Q):∀n,(xlB n (λ q=>xzz (a::Q))).sum=(xlB n (λ q=>xyY)).sum+if a<n then 1 else 0
 |0=>rfl
 |n+1=>by
  rw [Lu,EG,Ij,EG,Ij,lR a Q n];simp only [FZ,KQ,Jv,List.sum_nil,JN];by_cases e:a=n
  ·subst e;rw [EI xmi,EU xtm];simp;lia
  ·have:τ (a==n):=by simp [e]
   rw [this];by_cases l:a<n
   ·have l2:a<n+1:=Ka l;rw [EU l,EU l2];simp;lia
   ·have l2:¬a<n+1:=No (e (Fa (Gi z) (K4.mp l)))
    rw [EI l,EI l2];simp
def Bv (Q){q:Nat}(h:q<272):xyY∈xgS:=by
 unfold cn;exact Hh.mpr (xee q (Ji.mpr h))
def vG (h:b∈xgS):∃q,b=xyY:=by
 unfold cn at h;obtain⟨q,_,e⟩:=Hh.mp h;show xar q e.symm
theorem yi:∀Q:Id,(xgS).sum≤Q.length
 | []=>by
  have:∀n,(xlB n (λ q=>xzz ([]:Id))).sum=0:=λ n=>by
   induction n with
   |zero=>rfl
   |succ n ih=>rw [Lu,EG,Ij,ih];rfl
  show(xv3 (λ q=>xzz ([]:Id))).sum≤0;show LE this Tl
 |a::Q=>by
  have ih:=yi Q;have e:=lR a Q 272;have ih':(xv3 (λ q=>xyY)).sum≤Q.length:=ih;show(xv3 (λ q=>xzz (a::Q))).sum≤Q.length+1;rw [e]
  split<;>omega
theorem pY:∀C:Id,xbg (C.filter (xed b (0<b))) C.sum
 | []=>Tl
 |a::C=>by
  have ih:=pY C;rw [Lg,Jv];by_cases h:0<a
  ·rw [EU (Ez h),EK];lia
  ·show xkF (by show xtC) (Ki ih)
def xG (C):C.filter (xed b (0<b))=(S.pos C).map (S.cw C):=by
 have e:C=xIl (S.cw C):=by
  apply G2;intro i;rw [Fq];by_cases h:i<C.length
  ·rw [JH h,Ex h];simp [S.cw,E3,h]
  ·rw [Fu (FS h),Fu (by simp;exact FS h)];rfl
 conv=>lhs;rw [e]
 show Τ KB
def wv (Q){q:Nat}(h:q<272):xHA q=xyY:=by
 simp [S.cw,cn,E3,h]
seal cn
def C4 {Q:Id}(hq:xds q Q q 272)(h1:ω Q.length)(MO:xhc Q.length):(xaY xgS (b≤1000000))/\ω (xgS).length/\xbg xgS 300/\(∃b∈xgS,0<b)/\ω 6/\xeB 6/\xbg (xvO xgS b (0<b)) (2^6)/\xbg xpX 300/\ω (xpX).length/\xbg xpX (2^6):=by
 have hf:=pY xgS;have hs:=yi Q;have hp:xaJ xpX (xvO xgS b (0<b)).length:=by rw [xG,Es]
 have h0:∃b∈xgS,0<b:=by
  show xbE a ha (Ks h1) (xaU (Bv Q (hq a ha)) (JQ.mpr ha))
 refine⟨xes,by show xpu dE,by show xpu dE,h0,Z9,Z9,Z4,Z4,?_,Z4⟩
 ·show xbM q (vG hb);have:=xMO q (l:=Q);omega
 ·rw [hp];show xay b hb UN h0 (List.length_pos_iff.mpr (List.ne_nil_of_mem (Hu.mpr ⟨hb,Ez UN⟩)))
def US (Q:Id)(L:Id):Prop:=∃ln:xct,S.U9 xgS 6 ln/\L=xDx/\PM.S5 xpX xHA 6 ln
theorem US.uniq {Q L L':Id}(h:US Q L)(h':US Q L'):L=L':=by
 obtain⟨ln,h1,rfl,_⟩:=h;obtain⟨ln',h2,rfl,_⟩:=h';rw [h1.uniq h2]
def Uy:q∈xpX<->q<272/\q∈Q:=by
 unfold S.pos;rw [Hu,Ji,dE];constructor
 ·rintro⟨h1,h2⟩;show WF (wv Q h1) h2 ⟨h1,JQ.mp (EA h2)⟩
 ·rintro⟨h1,h2⟩;show xg6 ⟨h1,Ez ?_⟩ (wv Q h1) (JQ.mpr h2)
def US.ok (hq:xds q Q q 272)(h1:ω Q.length)(h:US Q L):xvZ/\xmn/\(xaY L (b≤6))/\∀q∈Q,xxg:=by
 obtain⟨ln,_,rfl,b1,b2,b3⟩:=h;have get:∀q,q<272->(xDx).getD q 0=ln q:=λ q hq=>by simp [E3,hq]
 have le6:∀q,ln q≤6:=λ q=>by
  by_cases m:q∈xpX
  ·exact(b1 q m).2
  ·show xpu (b2 q m)
 have six:xaY xDx (b≤6):=xaw (by
  obtain⟨q,_,rfl⟩:=xHd;exact le6 q)
 have Nv:∀q∈Q,ω (ln q):=λ q m=>(b1 q (Uy.mpr ⟨hq q m,m⟩)).1
 have ek:C9.krf 6 xDx=(xiF xpX p (2^(6-ln p))).sum:=by
  unfold C9.krf S.pos;rw [KB,GG,dE];have:xx2 272 ((xed l (0<l))∘ln)=xx2 272 (xed p (0<xHA p)):=by
   refine List.filter_congr (PP q UG)
   have Ql:=Ji.mp UG;show xft 0 (ln q)=xft 0 (xHA q);rw [wv Q Ql];by_cases m:q∈Q
   ·rw [Ez (show 0<ln q from Nv q m),Ez (JQ.mpr m)]
   ·have z:=b2 q (No (m (Uy.mp z).2));rw [z,List.count_eq_zero.mpr m]
  show Τ this
 refine⟨⟨Z6,Z6,λ l hl=>xdC (six l hl),?_,?_⟩,Z6,six,λ q m=>by show LE (get q (hq q m)) (Nv q m)⟩
 ·show xbE a ha (Ks h1) ⟨ln a,Hh.mpr (xee a (Ji.mpr (hq a ha))),Nv a ha⟩
 ·rw [C9.WS (m:=6) Z9 _ six,ek];have:2^(12-6)*(xiF xpX p (2^(6-ln p))).sum≤2^(12-6)*2^6:=GJ _ b3;show xfM
def US.tok (g:GR W Pp)(h1:xFz)(h:US xBX L):Zh L Pp:=by
 have hq:xds q xBX q 272:=λ q hq=>by
  show xdt x hx (Hh.mp hq);obtain⟨_,gx⟩:=g.all x hx;exact yh gx
 obtain⟨a,b,c,d⟩:=h.ok hq (by show xdl h1);show xav a b c (λ x hx=>d _ (Hh.mpr (xee x hx)))
universe K33
namespace K33
open PySem L2 QQ W17 W16 BP
seal PE PA PS PSs PT PW PG PI
def xc {pos:Pos}(h:∃t,NE xiO (xbq c))(hg:xe8)(hd:xdw (x==xdQ)):xtu xsT xto:=by
 show xbE t h h (aC hg h (xck t) hd)
structure Shs (K:Frag)(mg:π):Prop where
 X:xbn
 whole:xCa cb Jab
 arewhole:UF "are_whole" cz Jab
 things:UF "are_of_things" fU xsh
 need:UF "need_shares" tW Jak
 weight:UF "weight_of" gM xvN
 pairs:UF "in_pairs" kn xyB
 light:UF "lightest_bundles" mZ xBi
 lengths:∃f fd,S.FnL K mg "lengths_of" jY Jak f fd
inductive Oz (vs:LT) (H:Hp) (Q:VK) (LX:XK):Prop
 |mk (t:LF) (x:Pc) (h0:vs=[xfr]) (h1:xcV t (itm x)) (h2:xmq (th x) H):Oz vs H Q LX
def uB:P3 xv0 xv0 ka:=On
def qH (F:Ζ "thing_of" ka xv0)(T:xbn):xew xv0 Oz:=by
 show xbo uB (λ LS A outer s H vs Q E hr h=>?_);show xdT t x ht k h;refine xgL (xhN bG xHE eM (xbU xHE) aA) (xbU (xgi (xb1 (xc T.first Z7) xHE) (xc T.least Z7)))
 cases x with
 |sg s=>
  refine⟨_,rfl,t,_,_,_,rfl,rfl,xp4,xib,rfl,_,rfl,xw9 xnX h⟩;exact⟨_,rfl,t,_,_,_,rfl,rfl,xp4,xic,k⟩
 |cp b z=>
  show TD ⟨_,rfl,t,_,_,_,rfl,rfl,xp4,xib,rfl,_,rfl,xAH xbJ wk xb8⟩ ⟨_,rfl,t,_,_,_,rfl,rfl,xp4,xxW 2,_,_,rfl,rfl,_,_,rfl,rfl,?_⟩;have e:Ty 256+M2 z-3=M2 (253+z):=Z5
  try dsimp only
  show xdM k
inductive RH (vs:LT) (H:Hp) (Q:VK) (LX:XK):Prop
 |mk (a:LF) (Qs:Id) (h0:vs=xbK) (h1:XL=Υ (Qs.map vN)) (h2:(xds q Qs q 272)) (h3:ω Qs.length) (h4:xhc Qs.length) (h5:∀(l:LF) (L:Id) (H':Hp),Ξ->UV->xap=xhb->US Qs L->xao):RH vs H Q LX
def N2:P3 ["things","counts","thing"] xGf iA:=On
def Bn {Qs:Id}(h:Ν Qs q)(hq:q<272):(Κ (xBI i)).set q (vN (xr2 i q+1))=Κ (xBI (i+1)):=by
 have e1:∀A,Κ (cn A)=xv3 (λ p=>vN (A.count p)):=λ A=>by show xaP cn GG;rfl
 rw [e1,e1];refine S.set_range (f:=λ p=>xr2 i p) (f':=λ p=>xr2 (i+1) p) (xdr p)
 show xr2 (i+1) p=xr2 i p+ xs5 [q];rw [oC h,IL]
def BS:xjR 272 [xh4]=Κ (cn []):=by
 have e1:Κ (cn [])=xv3 (λ _=>xh4):=by show xaP cn GG;rfl
 rw [e1,Lr,Ie];generalize 272=n
 induction n with
 |zero=>rfl
 |succ n ih=>rw [FW,Gd,ih,FW];rfl
def o4 (F:Ζ "shares_of" iA xGf)(Y:Shs K mg):Η 34 xGf RH:=by
 obtain⟨T,⟨_,_,Wh⟩,⟨_,_,AW⟩,⟨_,_,Th⟩,⟨_,_,Ne⟩,⟨_,_,We⟩,⟨_,_,Pa⟩,⟨_,_,Li⟩,⟨_,_,Le⟩⟩:=Y;show xeL t6 B6 Le.d N2 (λ LS A outer st H vs Q E hr h=>?_)
 intro _;obtain⟨a,Qs,rfl,ha,hq,h1,MO,k⟩:=h;show xcR (xa7 1 N2.nd (xAt il xfs (xc T.many Z7)) (xuz Uf 2 N2.nd (mW (xhU (xsS SZ XV)) (lT SZ XV gX))) (bq (S.S9 Le Ne Th AW Wh Li Pa We T) hr Z7 Le.m Le.kp B6 (.cons (a:=V.int 6) xa4 .nil) a7 xdb)) (xcx (xeY (by show xdy 1) l4 n4))
 have s4:=xaR [xkq] n4;have SU:(xjb l4 [xkq]) l4=Υ [xh4]:=ad;show xas (xjb l4 [xkq]) H4 ⟨l4,_,_,rfl,rfl,SU,Z9,Z9,(by show xdy (1*272)),xdD l5 n5⟩;clear g1;have s5:=xaR (xjR 272 [xh4]) n5;have Yi:(xoP (xDI xC7 [xh4])) l5=xaf (xBI 0):=by
  show LE ad (xvK z (some (HO.lst z)) BS)
 have n05:υ l5:=xCE s4;show xcF W2 (xco (xoP (xDI xC7 [xh4]))) (s4.trans s5) (xoP (xDI xC7 [xh4])) H5;clear s5 s4 SU;have Rg:a≠l5:=ae ha n05;refine xcx (xfR a (xhx (W2 _ _ ha)) (xoD xd5 K a (Qs.map vN) (λ i σ H7=>∃v,σ=[xbA,SC l5,v]/\H7 l5=xaf (xBI i)/\∀c o,xcp l5->H5 c=IO->H7 c=IO) (xfC none Yi (xGW e)) (λ i σ H7 _ z9=>by show xpL kp z9 (K'.of (xat Rg (W2 _ _ ha)))) ?_ ?_))
 ·clear g1;rintro i y σ H7 hi ⟨v,rfl,h7,kp⟩;show xdt q hqi (cD hi);have hqn:=hq q (FG hqi);have hg:(Κ (xBI i))[q]?=SL (xr2 i q):=by
   unfold cn;rw [Fq,Fq,JH hqn];rfl
  have e2:M2 (xr2 i q)+1=xg5 (xr2 i q):=Kk _;refine⟨_,rfl,_,rfl,l5,_,_,_,rfl,rfl,K'.of h7,aF hg,_,_,rfl,rfl,?_⟩
  try dsimp only
  show ST e2 ⟨_,rfl,_,rfl,l5,_,_,q,rfl,rfl,h7,S.ixN_nat (by rw [Es,dE];exact hqn),SL q,rfl,?_,λ c o n e=>?_⟩
  ·rw [ad,Bn hqi hqn]
  ·show Re n (xat n e)
 ·rintro σ H7 ⟨v,rfl,h7,kp⟩;rw [Es,Fy] at h7;show xa8 Β;have s07:xco H7:=λ c o e=>xat (xsK n05) (W2 _ _ e)
  obtain⟨q1,q2,q3,q4,q5,q6,q7,q8,q9,q10⟩:=C4 hq h1 MO;show TD ⟨_,rfl,l5,cn Qs,6,rfl,h7,q1,q2,q3,q4,q5,q6,q7,q8,q9,q10,λ l ln H8 nl s8 hl hb VA=>?_⟩ (xd8 xDx H8 (xpY s07) (s07.trans s8) ?_ (xef ln VA hb));rw [hl,dE,GG];rfl
structure Cds (K:Frag)(mg:π)(D C:LF):Prop where
 M:xKy mg C
def uH:P3 Jam Jam jG:=On
def vE:P3 xDS xDS kG:=On
structure Yn (K:Frag)(mg:π)(B D C:LF):Prop where
 Y:Wys K mg
 Zb:Yr K mg B
 Sh:Shs K mg
 Cd:Cds K mg D C
 thingof:UF "thing_of" ka xv0
 sharesof:UF "shares_of" iA xGf
 needtab:UF "need_table" eW Jaf
 again:UF "again_from" lV xCy
 puttab:UF "put_table" iy ["bits","lengths"]
inductive RJ (B:LF) (vs:LT) (H:Hp) (Q:VK) (LX:XK):Prop
 |mk (o p d a:LF) (x:V) (T W:Id) (Pp:xen) (N T0:Nat) (h0:vs=[xga,xad,Tm,x]) (h1:xly B N T0) (h2:xb0 T0) (h3:XL=xce) (h4:xa6 T) (h5:xBY) (h6:xt5) (h7:xil) (h8:xa6 W) (h9:xkB) (h10:xuC (W++T) Pp W T) (Qe:∀(L:Id) (It:xsf) (b:Nat) (H':Hp),US xBX L->xyL 0 0 It 272 b->xkI B H' (xjT++xts) N (T0+tots (xjT++xts))->xc1 (∀c o,χ=IO->xaj->xfG->xaL=IO)):RJ B vs H Q LX
def M8:P3 ["self","bits","text","before","pieces","lengths","codes","piece","pair"] Jac mC:=On
def Ei:(xv0:xae).Nodup:=Z8
def CY:TE:=oQ Oz [] E0 (jT xtH iW)
def mV (h:xiZ S Pp q)(Vw:p<q):xFz:=by
 cases Pp with
 |nil=>have:p=q:=h;lia
 |cons x Pp=>simp
def vq (F:Χ "tell" "ShareWay.tell" mC)(A0:Yn K mg B D C):Η 35 Jac (RJ B):=by
 obtain⟨⟨Vi,⟨_,_,Po⟩,⟨_,_,Na⟩,⟨_,_,Ns⟩⟩,Z,Sh,Cd,⟨_,_,To⟩,⟨_,_,So⟩,⟨_,_,Nt⟩,⟨_,_,Ag⟩,⟨_,_,Pt⟩⟩:=A0;show Ι Nr Vi.needrow Nw Vi.needwin;have X:=Vi.R.X;have GTh:=qH (P:=P) (w:=w) (base:=base) To X;show Ι Nl Cd.M.need Co Cd.M.cof;have GC:=K33.C.P7 (P:=P) (w:=w) (base:=base) Co Nl Cd.M.Y;show Ι Wh Z.R.whole Sz Z.needsize;show Ι O Z.ones Pu Z.put;show xiE M Z.move TB Z.T;have GP:=xDR (P:=P) (w:=w) base Pu.F Sz Wh O M TB X;show xaE M8 (λ LS A outer st H vs Q E hr h=>?_);obtain⟨o,p,d,a,x,T,W,Pp,N,T0,rfl,hB,VF,ha,OE,h1,MO,hx,VD,Ye,hwk,k⟩:=h;have Md:xba:=SB;have NL:xrL:=SB;have Vv:xah 7:=SB;have XS:xah 32:=SB;have SX:xah 33:=SB;show xgk (xmg (aD (dv Ns Na Nw Nr Vi.R) Vv Ns (xbP 2 3)) (xaQ 4 M8.nd (xhd (iO Po Vi) XS Po.m Po.kp Po.b a7 (xbP 2 3)) (xaQ 5 M8.nd (xaK (o4 So Sh) So (xbe (yY (N:=xv0) (g:=xhf) (te:=CY) rfl rfl Z8 Z8 Z8 (bS xan) (λ fp s H=>xrW 0 Ei) (λ fp s H=>xcs GTh To xbj)))) (xc5 6 M8.nd (aD GC SX Co (xeH 5)) (aB (aD (Tb.Sr Pt Nt Ag Z) XS Pt (xbP 1 5))) (af (xkH (bS xan) 7 M8.nd (xc5 8 M8.nd (xsS xkw (xcs GTh To (xeH 7))) (xon Pu GP NL (xc6 (xpT (pv 8)) (xpT (pv 8)))) (af (xeA bG (xpT (pv 7)) eM (xon Pu GP NL (xhT (xpT (pv 7))))))))))))) ⟨_,rfl,_,rfl,a,x,T,W,rfl,ha,OE,h1,MO,hx,VD,Ye,λ l0 H0 s0 n0 TJ=>Β⟩;show xfl ⟨_,rfl,_,rfl,a,x,W,T,rfl,xhW ha,xLa,VD,OE,xdC Ye,xdC MO,λ l P' H1 s01 X6 ⟨ts,hl,P9⟩ XO=>Β⟩;have eP:P'=Pp:=et XO hwk;subst eP;have s1:=xJ5;have nl:Ξ:=xka X6;obtain⟨gr,V0,UQ⟩:=dC VD OE hwk;have Yg:ω P'.length:=mV hwk (by show LE Et (GQ h1));clear s0 s01 TJ X6 XO;show TD (xcx (xfR l (xhx hl) (PP l2 nl2))) (z8 (g:=xhf) (te:=CY) (K:=K) (a:=l) (l:=l2) (xs:=xcM) (n:=1) (λ i ys H2=>ys=Κ ((xgM).map th)/\H2 l2=xdf/\C' H1 H2)
  (xq3 ad (am nl2)) (λ i ys H2 _ z9=>by show xB1 sm;exact xCu hl) ?_ ?_ ?_ ?_)
 ·clear g1;rintro i y ys σ H2 hi ⟨rfl,Rj,sm⟩ hσ;show xdt t ht (i8 hi);show xfP u0 u0 (σ=[u0]) (match σ,hσ with| [u0],_=>xck u0)
  have Nf:i<P'.length:=by show xaC xtY (xbX ht)
  have W9:Ν P' P'[i]:=xtO;refine⟨_,rfl,t,P'[i],rfl,xep (P9.2 i t _ ht W9),Rj,bC (by rw [Es,Es,EH];exact xmd _ _ (Ew UQ (xdC MO))),rfl,?_,ad,xlx c⟩
  ·rw [oC W9,EG,EG];rfl
  ·show xgp nl2 xqq
 rotate_left
 ·exact λ x σ H A B h z=>xih
 ·rintro σ H A B h ⟨v,e1,t,x,e2,e3,z⟩;exact⟨v,e1,t,x,e2,e3,xih⟩
 rintro ys H2 ⟨rfl,Rj,NK⟩;rw [Es,xtY,Fy] at Rj;have hq:xds q (P'.map th) q 272:=λ q hq=>by
  show xdt x hx (Hh.mp hq);obtain⟨_,gx⟩:=gr.all x hx;exact yh gx
 show xa8 ⟨l2,P'.map th,rfl,Rj,hq,by show xdl Yg,by show xdl (Ew UQ MO),λ l3 L H3 nl3 s23 h33 hsh=>Β⟩;have tok:=hsh.tok gr Yg;have YH:=NK.trans s23;have nl31:xgW l3:=none_of NK nl3;show xfl ⟨_,rfl,_,L,rfl,xfC l3 h33 (xaw (xdC (tok.six b hb))),tok.good,λ l4 xs H4 nl4 s34 SU hcl=>Β⟩;have SI:=YH.trans s34;have Vm:=hB.keep λ c o e _=>SI _ _ xbr
 have h43:=s34 _ _ h33;obtain⟨dxp,rp,kp',Vx⟩:=Vm.ob;obtain⟨dxd,Bd,rd,kd,_,hdd,_⟩:=id Vm;have nl3p:xau l3:=aG h43 Vx (by show Ε);have nl3d:l3≠d:=xnJ ((xzh).imp λ _ e=>xbr) nl31;have nl4p:xau l4:=aG SU Vx (by show Ε);have nl4d:l4≠d:=xnJ ((xzh).imp λ _ e=>YH _ _ xbr) nl4;have NQ:xau l:=xnJ xHg nl;have Pe:xnb:=xnJ xzh nl;show xfl ⟨_,rfl,_,rfl,p,d,l3,N,T0,L,rfl,Vm,VF,h43,tok.len,tok.six,nl3d,λ It b H5 hit hB5 Qj=>Β⟩;have V4:=um tok.len hit;have Xr:=jl 0 (W13.O8 tok.six hit);rw [V4,tok.len] at Xr;have h5l:=xlm (SI _ _ hl) NQ Pe;have h54:=xlm SU nl4p nl4d;have XQ:∀t ys,xc3 (H4 t) ys->xc3 (H5 t) ys:=λ t ys e=>xlm e (aG e Vx (by show Ε)) (aG e hdd (by show Ε))
 have hcl5:=hcl.keep XQ;have hts5:=(P9.keep λ a xs e=>SI _ _ e).keep XQ;obtain⟨dxp5,rp5,kp5',hpp5⟩:=hB5.ob;obtain⟨dxd5,Bd5,rd5,kd5,_,hdd5,_⟩:=id hB5;refine xfR l (xhx h5l) (xoD xd5 K l xcM (λ i σ H6=>∃v7 v8,σ=[SC o,xd3,xbA,xwW,xhl,SC l3,SC l4,v7,v8]/\xkI B H6 (xqg xgM) (cL xjT N) (T0+xqi+xzb xgM)/\∀c o,H5 c=IO->xaj->xfG->H6 c=IO) (xc8 none none hB5 (λ c o e _ _=>e)) (λ i σ H6 _ z9=>by show xBt kp z9 (K'.of (xat h5l NQ Pe))) ?_ ?_)
 ·rintro i y σ H6 hi ⟨v7,v8,rfl,hB6,kp⟩;show xdt t ht (i8 hi);have Nf:i<P'.length:=by show xaC xtY (xbX ht)
  have W9:Ν P' P'[i]:=xtO;have SN:=hts5.2 i t _ ht W9;have hga:=gr.at W9;have ZA:P'[i]∈P':=Gj Nf;have Xj:xau t:=aG SN hpp5 (by show Ε);have Xk:t≠d:=aG SN hdd5 (by show Ε);have htt6:=xat SN Xj Xk;have h64':=xat h54 nl4p nl4d;obtain⟨e1,e2,e3⟩:=tok.at ZA hga;have OD:=C10.Ol tok.good e1 e2;have hlx:xeM (th P'[i]):=by show LE hcl5.1 (xbX OD)
  have hxi:xbw xs (th P'[i]) xs[th P'[i]]:=Ex hlx;obtain⟨tc,etc,htc⟩:K33.C.OT H5 xs[th P'[i]] (some (xvb (th P'[i]) (xmb P'[i]),xmb P'[i])):=hcl5.2 _ _ _ hxi OD;rw [etc] at hxi;have ntcp:xau tc:=aG htc hpp5 (by show Ε);have ntcd:tc≠d:=aG htc hdd5 (by show Ε);have htc6:=xat htc ntcp ntcd;show xaD hto2 (lX tok.six xgM) EH hto2;have hcl2:=C10.Wf tok.good e1 e2;obtain⟨dx,r,kk,YT⟩:=hB6.ob;rw [oC W9,vF,bU,aQ,BX];show xfx g2 ⟨_,rfl,_,rfl,t,P'[i],rfl,htt6,l4,_,_,_,rfl,rfl,K'.of h64',aF hxi,xcZ⟩ g2;show xfx g2 ⟨_,rfl,p,dx,_,rfl,YT,xik,_,rfl,tc,_,_,_,rfl,rfl,MD.of htc6,xib,_,rfl,tc,_,_,_,rfl,rfl,MD.of htc6,xic,p,d,_,_,_,_,rfl,hB6,Z5,Z5,hcl2,λ H7 hB7 X8=>xcZ⟩ g2;have Zu:=X8 _ _ htt6 Xj Xk;obtain⟨dx7,r7,kk7,hp7⟩:=hB7.ob;generalize P'[i]=xx at*;cases xx with
  |sg s=>
   show TD ⟨_,rfl,t,_,_,_,rfl,rfl,MD.of Zu,xib,rfl,_,rfl,xAH xbJ (No (wk z.symm)) xb8⟩ (xfQ _ ?_ (λ c o e n1 n2=>X8 _ _ xuh n1 n2));have e5:T0+xqi+(xzb xgM+xC5 L xkp)=T0+xqi+xzb xgM+xmb xkp:=by
    have:xC5 L xkp=xmb xkp:=rfl;lia
   show LE e5 hB7
  |cp bk z=>
   obtain⟨g1,g2,g3,g4,g5⟩:ω bk/\xoQ bk/\bk≤_/\3≤z/\z≤18:=hga;show xcc ⟨_,rfl,t,_,_,_,rfl,rfl,MD.of Zu,xib,rfl,_,rfl,xw9 xnX h⟩ ⟨_,rfl,p,dx7,_,rfl,hp7,xik,_,rfl,t,_,_,_,rfl,rfl,MD.of Zu,xic,p,d,_,_,bk,8,rfl,hB7,Z5,Z9,(by show bk<2^8;exact Hl g2),Sc H8 hB8 kp8⟩ (xfQ _ ?_ (λ c o e n1 n2=>kp8 _ _ (X8 _ _ xuh n1 n2) n1 n2));have e5:T0+xqi+(xzb xgM+xC5 L (.cp bk z))=T0+xqi+xzb xgM+xmb (.cp bk z)+8:=by
    have:xC5 L (.cp bk z)=xmb (.cp bk z)+8:=rfl;lia
   show LE e5 hB8
 ·rintro σ H6 ⟨v7,v8,rfl,hB6,kp⟩;rw [Es,xtY,Fy] at hB6;refine k L It b H6 hsh hit ?_ λ c o e n1 n2=>xat (xlm (SI _ _ xbr) n1 n2) n1 n2
  rw [bU,aQ,<-FD];exact hB6
def zL:Sp:=λ vs H Q _=>∃o,vs=[xga]/\xjI 3
def yQ:xdc iJ:=On
def wT (F:xHC "ShareWay.number" iJ):xhm zL:=by
 show xaE yQ (λ LS A outer st H vs Q E hr h=>?_);show xay o rfl k h (xaU (xbU ak) k)
def MU:P3 ["self","reader","count","before","signs","begin","end","codes","thing","back"] Jad lW:=On
def pN (T)(s):xEm (T++[s])=xoN++[(s,8)]:=by simp [pf]
inductive RK (vs:LT) (H:Hp) (Q:VK) (LX:XK):Prop
 |mk (a:LF) (T:Id) (h0:vs=xbK) (h1:XL=xce) (h2:xt5) (h3:∀l ts H',UV->Ξ->xap=xt4->xoJ H' xkr->xao):RK vs H Q LX
def Ny:P3 ["signs","runs","begin","place"] xyZ gY:=On
def ut (F:Ζ "runs_of" gY xyZ)(T:xbn):xew xyZ RK:=by
 show xbo Ny (λ LS A outer st H vs Q E hr h=>?_);obtain⟨a,S,rfl,ha,MO,k⟩:=h;show xgk (xgc 1 Ny.nd xgT (xa7 2 Ny.nd ak (xkH (iq Z7 T.range (xrk (xhU xl7))) 3 Ny.nd (af (aH (PW.pt (xAr (xeK bG xaz xl7) (xeK qc (xk6 xaz) (xk6 XV))))
    (xeN (xi4 FK FV bx SZ (dH (xc6 (xk6 XV) (xgi xaz XV)))) (xuo Ny.nd xaz)) aA))) SZ)) (xj1 (xdD l nl));have s0:=xje [];show xlq;refine xbt
 have en:xtf (xoH (xgQ xlF+1) 1):=by show xcY
 refine⟨_,rfl,a,_,rfl,Φ (xhW ha),_,_,rfl,rfl,1,_,rfl,⟨Z5,Z5,by show xcY,by show xcY⟩,?_⟩;show ST en (xAj xd5 1 (n:=S.length) (λ i σ H2=>∃b rs ts v3,σ=[xbA,xhl,xmX,v3]/\xkS/\xjn=xt4/\xoJ H2 rs/\rs++rl (S.drop b)=rl S/\b≤i/\rs.length≤i/\(xtf i->xtf b)/\∀j,b≤j->j≤i->xdX j->S[j]?=S[b]?) ⟨0,[],[],none,rfl,s0,ad,.nil,rfl,Tl,Tl,No z,λ j h1 h2 _=>by rw [Nat.le_zero.mp h2]⟩ ?_ ?_)
 ·clear g1;rintro i σ H2 hi ⟨b,rs,ts,v3,rfl,sm,Mu,QW,QS,hbi,hri,X0,Rg⟩;have hbS:xdX b:=Fh hbi hi;have Q2:=xep ha;have ep:xb4+xf7=xhg:=Z5;have Vu:=QW.len;have Sb:xbw S b S[b]:=Ex hbS;have J:(xq9 S[i+1]? S[b])->∀t,W1 (H2 t)->∃b' rs ts' v3,[xBJ a,xBJ l,SL (i+1),SL (i+1)]=[xBJ a,xBJ l,SL b',v3]/\xco (xcB (xjh t [vN S[b],vN (i+1-b)]) (xsz (ts++[t])))/\(xcB (xjh t [vN S[b],vN (i+1-b)]) (xsz (ts++[t]))) l=Υ (ts'.map V.ref)/\Qo (xcB (xjh t [vN S[b],vN (i+1-b)]) (xsz (ts++[t]))) ts' rs/\rs++rl (S.drop b')=rl S/\b'≤i+1/\rs.length≤i+1/\(xtf (i+1)->xtf b')/\∀j,b'≤j->j≤i+1->xdX j->S[j]?=S[b']?:=by
   intro My t nt;have st:=xhz [vN S[b],vN (i+1-b)] nt;have nlt:t≠l:=xeb Mu nt;refine⟨i+1,rs++[(S[b],i+1-b)],ts++[t],SL (i+1),rfl,xlx c,ad,?_,?_,Tl,by rw [Et];show rs.length+1≤i+1;exact FY hri 1,No z,λ j h1 h2 _=>by rw [xaA j (i+1) (Ik (Fa h1 h2))]⟩
   ·show xlr (xey xqq)
   ·refine((QW.mono st).keep (xcW c xs)).app (xlU ?_)
    ·show Re (No (by show xbb (xey Mu) e e)) e
    ·rw [ai nlt,ad]
   ·rw [Eu,<-QS,yt (b:=b) (e:=i+1) (a:=S[b]) (Hl hbi) xej (λ j h1 h2=>by rw [Rg j h1 (Gi h2) (Ey h2 hi),Sb]) My];rfl
  show ST ep ⟨_,rfl,_,rfl,a,_,rfl,Φ Q2,rfl,_,rfl,xeg h h⟩
  ·have he:xtf (i+1):=by
    have:=xbJ;injection this with this
    show WF Es this (Lc.mp this)
   refine cU ⟨_,rfl,xfa Mu,_,rfl,_,rfl,a,_,_,_,rfl,rfl,xCN,xma hbS,_,rfl,_,rfl,_,_,rfl,rfl,(by show xgE),PP t nt⟩;have e2:xhg-xdj=M2 (i+1-b):=xpW (F3 hbi)
   try dsimp only at nt
   try dsimp only
   show ST e2 ⟨l,_,_,rfl,rfl,am nt _ _ Mu,bC (by show xcY),_,rfl,?_⟩;have z:=J (by rw [he,Fu Tl];exact xho) t nt;show WF EG z z
  ·have he:xdX (i+1):=by
    have h':¬(Pi (xCJ xhg (xgQ xlF))):=h;show xa3 (i+1) S.length q q
    ·exact q
    ·show xiW (by rw [Es,xaA (i+1) S.length (Fa hi q)]) h'
   refine⟨_,rfl,_,rfl,a,_,_,_,rfl,rfl,xCN,xma he,_,rfl,_,rfl,a,_,_,_,rfl,rfl,xCN,xma hbS,rfl,_,rfl,?_⟩;by_cases My:S[i+1]=S[b]
   ·rw [My,xnX];refine bi ⟨b,rs,ts,_,rfl,sm,Mu,QW,QS,F3 hbi,Z5,No Z5,λ j h1 h2 h3=>?_⟩;show xa3 i j q q
    ·rw [show j=i+1 by lia,Ex he,Sb,My]
    ·exact Rg j h1 q h3
   ·show ST (F7 (No (My (ME.mp z)))) (cU ⟨_,rfl,xfa Mu,_,rfl,_,rfl,a,_,_,_,rfl,rfl,xCN,xma hbS,_,rfl,_,rfl,_,_,rfl,rfl,(by show xgE),PP t nt⟩);have e2:xhg-xdj=M2 (i+1-b):=xpW (F3 hbi)
    try dsimp only at nt
    try dsimp only
    show ST e2 ⟨l,_,_,rfl,rfl,am nt _ _ Mu,bC (by show xcY),_,rfl,?_⟩;have z:=J (by show LE (Ex he) (No (My (Fb z)))) t nt;show WF EG z z
 ·rintro σ H2 ⟨b,rs,ts,v3,rfl,sm,Mu,QW,QS,_,_,X0,_⟩;rw [X0 rfl,Lj,AY,Fw] at QS;show WF QS QW (xzY (xd8 ts H2 sm nl Mu QW))
def D2 (u:Bool):Int:=if u then 1 else 0
def p9 (u:Bool):Sp:=λ vs H Q _=>∃o:LF,vs=[xga]/\xjI (D2 u)
def pE:xdc gh:=On
def oZ:xdc gp:=On
def oh (F:xHC "RawWay.number" gh):xhm (p9 false):=by
 show xaE pE (λ LS A outer st H vs Q E hr h=>?_);show xay o rfl k h (xaU (xbU ak) k)
def oi (F:xHC "RunWay.number" gp):xhm (p9 true):=by
 show xaE oZ (λ LS A outer st H vs Q E hr h=>?_);show xay o rfl k h (xaU (xbU ak) k)
inductive S7 (u:Bool) (B:LF) (vs:LT) (H:Hp) (Q:VK) (LX:XK):Prop
 |mk (o p d a:LF) (x:V) (T W:Id) (N T0:Nat) (h0:vs=[xga,xad,Tm,x]) (h1:xly B N T0) (h2:xb0 T0) (h3:XL=xce) (h4:xa6 T) (h5:xBY) (h6:xt5) (h7:xil) (h8:xa6 W) (h9:xkB) (h10:xbC (xkI B H' (pf u T) N (T0+tots (pf u T))->xc1 (∀c o,χ=IO->xaj->xfG->xaL=IO))):S7 u B vs H Q LX
def QM:P3 ["self","bits","text","before","sign"] Jac jD:=On
def rM (F:Χ "tell" "RawWay.tell" jD)(Y:Wys K mg)(Z:Yr K mg B):Η 8 Jac (S7 false B):=by
 have R:=Y.V.R;show Ι Nr Y.V.needrow Nw Y.V.needwin;show Ι Na Y.needahead Ns Y.needsigns;have X:=R.X;show Ι W Z.R.whole S Z.needsize;show Ι O Z.ones Pu Z.put;show xiE M Z.move TB Z.T;have GP:=xDR (P:=P) (w:=w) base Pu.F S W O M TB X;show xaE QM (λ LS A outer st H vs Q E hr h=>?_);obtain⟨o,p,d,a,x,T,W,N,T0,rfl,hB,VF,ha,OE,h1,MO,hx,VD,Ye,k⟩:=h;have NL:xrL:=SB;show xcR (af (xuz (xaK (dv Ns Na Nw Nr R) Ns (xbP 2 3)) 4 QM.nd (xon Pu GP NL (xcl 4 xfs)))) ⟨_,rfl,_,rfl,a,x,T,W,rfl,ha,OE,h1,MO,hx,VD,Ye,λ l H1 s1 nl hl=>?_⟩;have XC:=hB.keep λ c o e _=>xbr
 have NQ:xau l:=xnJ xHg nl;have Pe:xnb:=xnJ xzh nl;refine xfC l (xhx hl) (xoD xd5 K l xnm (λ i σ H2=>∃v4,σ=[SC o,xd3,xbA,xwW,v4]/\xkI B H2 (xEm xKz) N (T0+tots (xEm xKz))/\∀c o,H1 c=IO->xaj->xfG->xle=IO) (xfC none XC (λ c o e _ _=>e)) (λ i σ H2 _ z9=>by show xpL kp z9 (K'.of (xat hl NQ Pe))) ?_ ?_)
 ·rintro i y σ H2 hi ⟨v4,rfl,NY,kp⟩;show xdt b hb (cD hi);have Nf:i<T.length:=xbX hb;obtain⟨dx,r,kk,Ml⟩:=NY.ob;show xaD SN (dS xKz) EH SN;show TD ⟨_,rfl,p,dx,_,rfl,Ml,xik,_,rfl,p,d,_,_,b,8,rfl,NY,Z5,Z9,OE b (FG hb),Sc H3 Qm Mq⟩ (xfj rfl ?_ (λ c o e n1 n2=>xaW xuh n1 n2));rw [cB hb,pN,bU,aQ,<-FD];exact Qm
 ·rintro σ H2 ⟨v4,rfl,NY,kp⟩;rw [Es,Fy] at NY;exact k H2 NY λ c o e n1 n2=>xat xbr n1 n2
def OA:P3 ["self","bits","text","before","sign","size"] Jac jM:=On
def qx {fR:LF}(F:Χ "tell" "RunWay.tell" jM)(Ro:xbs "runs_of" gY xyZ fR fdR)(Y:Wys K mg)(Z:Yr K mg B):Η 8 Jac (S7 true B):=by
 have R:=Y.V.R;show Ι Nr Y.V.needrow Nw Y.V.needwin;show Ι Na Y.needahead Ns Y.needsigns;have X:=R.X;show Ι W Z.R.whole S Z.needsize;show Ι O Z.ones Pu Z.put;show xiE M Z.move TB Z.T;have GP:=xDR (P:=P) (w:=w) base Pu.F S W O M TB X;show xaE OA (λ LS A outer st H vs Q E hr h=>?_);obtain⟨o,p,d,a,x,T,W,N,T0,rfl,hB,VF,ha,OE,h1,MO,hx,VD,Ye,k⟩:=h;have NL:xrL:=SB;have Md:xba:=SB;show xcc (xwD (bw E5 rfl (bS (xcs (ut Ro X) Ro (xbe (xaK (dv Ns Na Nw Nr R) Ns (xbP 2 3))))) (xD4 (xob 4 OA.nd (xob 5 OA.nd gQ))) (xeN (xon Pu GP NL (xhT (xrf xcr))) (xon Pu GP NL (xcl 4 xfs))))) ⟨_,rfl,_,rfl,a,x,T,W,rfl,ha,OE,h1,MO,hx,VD,Ye,λ l0 H0 s0 n0 TJ=>?_⟩ ⟨l0,T,rfl,TJ,MO,λ l ts H1 s01 X6 hl QW=>?_⟩;have s1:=xJ5;have nl:Ξ:=xka X6;have XC:=hB.keep λ c o e _=>xbr
 have NQ:xau l:=xnJ xHg nl;have Pe:xnb:=xnJ xzh nl;have Vu:=QW.len;have hok:=wP MO OE;have hlen:xbg xkr 64:=by
  show xnD (gk (rs:=xkr) λ q hq=>(rj hq).1) mq (Ew this MO)
 obtain⟨dxp,rp,kp',Vx⟩:=XC.ob;obtain⟨dxd,Bd,rd,kd,_,hdd,_⟩:=id XC;refine xfC l (xhx hl) (xoD xd5 K l xcM (λ i σ H2=>∃v4 v5:xca,σ=[SC o,xd3,xbA,xwW,v4,v5]/\xkI B H2 (pR xDP) N (T0+xl0 xDP)/\∀c o,H1 c=IO->xaj->xfG->xle=IO) (xc8 none none XC (λ c o e _ _=>e)) (λ i σ H2 _ z9=>by show xBt kp z9 (K'.of (xat hl NQ Pe))) ?_ ?_)
 ·rintro i y σ H2 hi ⟨v4,v5,rfl,NY,kp⟩;show xdt t ht (i8 hi);obtain⟨q,hq,SN⟩:=QW.at ht;have Nf:xxK i xkr:=xbX hq;obtain⟨q1,q2,q3⟩:=hok q (FG hq);have Xj:xau t:=aG SN Vx (by show Ε);have Xk:t≠d:=aG SN hdd (by show Ε);have UZ:=xat SN Xj Xk;obtain⟨dx,r,kk,Ml⟩:=NY.ob;show xaD Xr (jf xDP) EH Xr;refine⟨t,_,rfl,MD.of UZ,rfl,_,_,rfl,_,_,rfl,rfl,?_⟩;have e1:M2 xbl-1=M2 (xbl-1):=xpW q1;refine xfT g2 ⟨_,rfl,p,dx,_,rfl,Ml,xik,_,rfl,_,_,rfl,rfl,?_⟩
  try dsimp only
  rw [e1];show xgs ⟨p,d,_,_,xbl-1,6,rfl,NY,Z5,Z9,(by show xbl-1<2^6;lia),λ H3 Qm Mq=>xcZ⟩;obtain⟨OF,r3,kk3,MR⟩:=Qm.ob;show TD ⟨_,rfl,p,OF,_,rfl,MR,xik,_,rfl,p,d,_,_,xa5,8,rfl,Qm,Z5,Z9,(by show xa5<2^8;assumption),Sc H4 Vm OR⟩ (xfQ _ ?_ (λ c o e n1 n2=>xjy (xaW xuh n1 n2) n1 n2));rw [oC hq,vk,bU,aQ];have e5:T0+(xl0 xDP+xl0 [q])=T0+xl0 xDP+6+8:=by
   have:xl0 [q]=14:=by show Τ jf
   lia
  show LE e5 Vm
 ·rintro σ H2 ⟨v4,v5,rfl,NY,kp⟩;rw [Es,Vu,Fy] at NY;exact k H2 NY λ c o e n1 n2=>xat xbr n1 n2
def yU:Sp:=λ vs H Q _=>∃o,vs=[xga]/\xjI 2
def yZ:xdc fz:=On
def xX (F:xHC "CopyWay.number" fz):xhm yU:=by
 show xaE yZ (λ LS A outer st H vs Q E hr h=>?_);show xay o rfl k h (xaU (xbU ak) k)
inductive Sf (B:LF) (vs:LT) (H:Hp) (Q:VK) (LX:XK):Prop
 |mk (o p d a:LF) (x:V) (T W:Id) (Pp:xen) (N T0:Nat) (h0:vs=[xga,xad,Tm,x]) (h1:xly B N T0) (h2:xb0 T0) (h3:XL=xce) (h4:xa6 T) (h5:xBY) (h6:xt5) (h7:xil) (h8:xa6 W) (h9:xkB) (h10:xuC (W++T) Pp W T) (Qe:xbC (xkI B H' (pP Pp) N (T0+xxI)->xc1 (∀c o,χ=IO->xaj->xfG->xaL=IO))):Sf B vs H Q LX
def Sm:P3 ["self","bits","text","before","piece"] Jac iz:=On
def uR (F:Χ "tell" "CopyWay.tell" iz)(Y:Wys K mg)(Z:Yr K mg B):Η 33 Jac (Sf B):=by
 obtain⟨Vi,⟨_,_,Po⟩,⟨_,_,Na⟩,⟨_,_,Ns⟩⟩:=Y;show Ι Nr Vi.needrow Nw Vi.needwin;have X:=Vi.R.X;show Ι W Z.R.whole S Z.needsize;show Ι O Z.ones Pu Z.put;show xiE M Z.move TB Z.T;have GP:=xDR (P:=P) (w:=w) base Pu.F S W O M TB X;show xnh tl hle X.least (F.ok Sm λ LS A outer st H vs Q E hr h=>?_) _;obtain⟨o,p,d,a,x,T,W,Pp,N,T0,rfl,hB,VF,ha,OE,h1,MO,hx,VD,Ye,hwk,k⟩:=h;have NL:xrL:=SB;have Vv:xah 7:=SB;show xgk (xmg (aD (dv Ns Na Nw Nr Vi.R) Vv Ns (xbP 2 3)) (af (xuz (xhd (iO Po Vi) hr Po.m Po.kp Po.b a7 (xbP 2 3)) 4 Sm.nd (xhN bG xwn eM (xeN (xon Pu GP NL xHK) (xon Pu GP NL (xhT xwn))) (xxQ (xon Pu GP NL xHK) (xon Pu GP NL (xhT xwn)) (xon Pu GP NL (xhT (xgi xwn (xaO 3 hle tl))))))))) ⟨_,rfl,_,rfl,a,x,T,W,rfl,ha,OE,h1,MO,hx,VD,Ye,λ l0 H0 s0 n0 TJ=>Β⟩;show xfo ⟨_,rfl,_,rfl,a,x,W,T,rfl,xhW ha,xLa,VD,OE,Z5,Z5,λ l P' H1 s01 X6 z9 XO=>?_⟩ ts hl P9 z9;have eP:P'=Pp:=et XO hwk;subst eP;have s1:=xJ5;have nl:Ξ:=xka X6;have XC:=hB.keep λ c o e _=>xbr
 have NQ:xau l:=xnJ xHg nl;have Pe:xnb:=xnJ xzh nl;obtain⟨gr,V0,UQ⟩:=dC VD OE hwk;obtain⟨dxp,rp,kp',Vx⟩:=XC.ob;obtain⟨dxd,Bd,rd,kd,_,hdd,_⟩:=id XC;refine xfC l (xhx hl) (xoD xd5 K l xcM (λ i σ H2=>∃v4,σ=[SC o,xd3,xbA,xwW,v4]/\xkI B H2 (pP xgM) N (T0+xvc xgM)/\∀c o,H1 c=IO->xaj->xfG->xle=IO) (xfC none XC (λ c o e _ _=>e)) (λ i σ H2 _ z9=>by show xpL kp z9 (K'.of (xat hl NQ Pe))) ?_ ?_)
 ·rintro i y σ H2 hi ⟨v4,rfl,NY,kp⟩;show xdt t ht (i8 hi);have Nf:i<P'.length:=by show xaC xtY (xbX ht)
  have W9:Ν P' P'[i]:=xtO;have SN:=P9.2 i t _ ht W9;have hga:=gr.at W9;have Xj:xau t:=aG SN Vx (by show Ε);have Xk:t≠d:=aG SN hdd (by show Ε);have UZ:=xat SN Xj Xk;obtain⟨dx,r,kk,Ml⟩:=NY.ob;show xaD Xr (mJ xgM) EH Xr;rw [oC W9,uy,bU,aQ,Cc];generalize P'[i]=xx at*;cases xx with
  |sg s=>
   have hs:xaq s:=hga;refine⟨_,rfl,t,_,_,_,rfl,rfl,MD.of UZ,xib,rfl,_,rfl,xw9 xnX h⟩;show xfx g2 ⟨_,rfl,p,dx,_,rfl,Ml,xik,p,d,_,_,0,1,rfl,NY,xdC (IF VF (Ew Xr (GJ _ (xmd _ _ (Ew UQ MO))))),Z9,Z9,λ H3 Qm Mq=>xcZ⟩ g2;have XR:=xaW UZ Xj Xk;obtain⟨OF,r3,kk3,MR⟩:=Qm.ob;show TD ⟨_,rfl,p,OF,_,rfl,MR,xik,_,rfl,t,_,_,_,rfl,rfl,MD.of XR,xic,p,d,_,_,s,8,rfl,Qm,xdC (HV (IF VF (Ew Xr (GJ _ (xmd _ _ (Ew UQ MO)))))),Z9,hs,Sc H4 Vm OR⟩ (xfj rfl ?_ (λ c o e n1 n2=>xjy (xaW xuh n1 n2) n1 n2));have e5:T0+(xvc xgM+xnI xkp)=T0+xvc xgM+1+8:=by
    have:xnI xkp=9:=rfl;lia
   show LE e5 Vm
  |cp b z=>
   obtain⟨g1,g2,g3,g4,g5⟩:xb6/\xoQ b/\b≤_/\3≤z/\z≤18:=hga;refine⟨_,rfl,t,_,_,_,rfl,rfl,MD.of UZ,xib,rfl,_,rfl,xAH xbJ wk xb8⟩;show xfx q2 ⟨_,rfl,p,dx,_,rfl,Ml,xik,p,d,_,_,1,1,rfl,NY,xdC (IF VF (Ew Xr (GJ _ (xmd _ _ (Ew UQ MO))))),Z9,Z9,λ H3 Qm Mq=>q2 _ _ ?_⟩ q2;have XR:=xaW UZ Xj Xk;obtain⟨OF,r3,kk3,MR⟩:=Qm.ob;show xfx q2 ⟨_,rfl,p,OF,_,rfl,MR,xik,_,rfl,t,_,_,_,rfl,rfl,MD.of XR,xic,p,d,_,_,b,8,rfl,Qm,xdC (HV (IF VF (Ew Xr (GJ _ (xmd _ _ (Ew UQ MO)))))),Z9,(by show b<2^8;exact Hl g2),λ H4 Vm OR=>q2 _ _ ?_⟩ q2;have htt4:=xjy XR Xj Xk;obtain⟨dx4,r4,kk4,Q9⟩:=Vm.ob;have e1:M2 z-3=M2 (z-3):=xpW g4;refine⟨_,rfl,p,dx4,_,rfl,Q9,xik,_,rfl,t,_,_,_,rfl,rfl,MD.of htt4,xxW 2,_,_,rfl,rfl,?_⟩
   try dsimp only
   show xmG e1 ⟨p,d,_,_,z-3,4,rfl,Vm,Z5,Z9,(by show z-3<2^4;lia),Sc H5 hB5 Qj⟩ (xfj rfl ?_ (λ c o e n1 n2=>xlm (xjy (xaW xuh n1 n2) n1 n2) n1 n2));have e5:T0+(xvc xgM+xnI (xxs z))=T0+xvc xgM+1+8+4:=by
    have:xnI (xxs z)=13:=rfl;lia
   show LE e5 hB5
 ·rintro σ H2 ⟨v4,rfl,NY,kp⟩;rw [Es,xtY,Fy] at NY;exact k H2 NY λ c o e n1 n2=>xat xbr n1 n2
universe K33
namespace L2
open PySem PySem.Spec PySem.Calls PyProof.Rows QQ PySem.W
def Inv.grown {σ:St}{P c':LF}(I:Ps)(hP:xfh P xpZ)(k:xu1 P h')(hc:xu8 c')
  (O4:xea c' oc) (hP':xea P (tabObj (ps++more))):xlt (upd (xdU P (.tbl (ps++more))) c' (xhs oc c')) s t':=by
 have hn:υ c':=I.hok.fresh hc;have nPc:P≠c':=ae hP hn;have at_:∀{b} {u},xfL u->xfc P->xjJ ((upd (xdU P (.tbl (ps++more))) c' (xhs oc c')) b):=λ {b u} e n=>by
  rw [xiq hn,ai n];exact e
 refine I.step (ch:=[]) (xpU z z) (λ b o _ _ _ e n=>xfO o (xeb hP n) e) (λ b o _ _ _ e n=>xCj (xfO o (xeb hP n) e)) (λ b o _ e n=>?_)
  (λ b o _ e=>?_) (λ b xs e=>at_ e (aG e hP (by show Ε))) (λ b o u e=>at_ e (aG e hP (by show Ε))) (xcW b qs) (PP m hm) (xcW b u) I.bare
 ·rw [ai (xsB xcS hc),ai (xeb hP n)];exact n
 ·by_cases z:b=P
  ·subst z;exact xa1 hP'
  ·show xar o (xfO o z e)
 ·by_cases z:b=P
  ·show xbx z hP e e;show xar more (by rw [ai nPc,ad])
  ·show xar #[] (by show xbc (at_ e z))
 ·show xuF es ep ho r hm;exact⟨o,es,ep,xdp o (xeb hP I.free) ho,r⟩
 ·by_cases z:b=c'
  ·show xbx z ad e e;exact⟨O4,oc,O4⟩
  ·rw [ai z] at e;by_cases y:b=P
   ·show xbx y ad e e;exact hP'
   ·rw [ai y] at e;refine xvz b u e (λ c v hcb q=>k c v ?_ q) (λ c q=>at_ q (aG q hP (by show Ε))) (λ c xs q=>at_ q (aG q hP (by show Ε)))
    rcases hcb with hcb|hcb
    ·show LE hcb y
    ·exact aG hcb hP (by show Ε)
def kX (P:LF)(H H':Hp):Prop:=∀c o,xcp P->χ=IO->xaL=IO
def O0 (P:LF)(pos:Pos)(qual:Str)(H:Hp):Prop:=∃ps,xfh P xpZ/\(ps=#[]\/∃c' oc vs t,ps=#[rawInt pos.line,rawInt pos.col,xsC]/\xfh c' (xhs oc c')/\oc.data=xnG/\xbw vs 1 (.str qual t))
def O0.same (h:O0 P pos qual H)(s:UV):O0 P pos qual H':=by
 show xa0 ps e h h (Ψ ps (xci e));rcases h with h|⟨c',oc,vs,t,a,b,r⟩
 ·show xaT h
 ·show xbB ⟨c',oc,vs,t,a,xci b,r⟩
def kL (pos)(v):xlv (codeAmong pos [rawInt pos.line,rawInt pos.col,v]):=by
 have:=codeAmong_snoc (c:=v) (pos:=pos) [] trivial rfl;show xnL
def x9 {LQ:Wp}{σ:St}(I:Ps)(T:O0 P pos xlO H)
  (TN:X.env.code=xwl) (C:CodeHd X.base c P) (Y2:∃bm o,xMA=SC bm/\bm≠builtinsNs/\xKW bm/\X.base.get? bm=IO/\o.cls=xJy/\xKX o.dict/\xin .plain)
  (ZE:defaultsOf params X.env=([],[])) (hcl:xJa X.env=pure clos)
  (h:∀(f c':LF) (pm Vq:LG) (H':Hp) (s':LH),xi8->xxJ f->xpH f (xEB xlO params body scope clos pm c' Vq)->s'.heap.CodeRec xsC xlO->
   (∃oc vs t,NE (H' c') (xhs oc c')/\oc.data=xnG/\xbw vs 1 (.str xlO t))->O0 P pos xlO H'->kX P H H'->Q xbN s'):
  xjU (xiv (.Lambda params body scope pos)) Q E s:=by
 show xfo (kla_eval ZE ?_) ps hP T T;have hPo:xfg P (tabObj ps):=xf9 P hP;have M:=I.ok.mod;have hg:s.heap.Ns mainGlobals X.mg:=M.glob.keeps I.bk;have hgP:mainGlobals≠P:=No (by
  obtain⟨o,es,ep,e,hd,_⟩:=hg;show xbb hPo e e;cases hd)
 have hb:s.heap.BuiltinsAt X.mg P:=by
  obtain⟨bm,o,b1,b2,b3,b4,b5,b6,b7⟩:=Y2;refine⟨bm,o,b1,b2,b3,xg8,I.bk _ _ b4,b5,b6,b7⟩;have:=I.bk _ _ b4;show xq6 hPo;cases b5
 rcases T with rfl|⟨c',oc,vs,t,rfl,Yd,d1,d2⟩
 ·refine kla_makeFunction hcl I.ok.glob hg TN (C.keeps I.bk) hPo trivial rfl hgP hb λ c' Vq h' tk hx Ng LU Zx htb=>?_
  obtain⟨c2,oc,vs,t,e2,O4,d1,d2⟩:=Zx;cases e2;have I1:=I.grown (t':=tk) hP hx Ng O4 htb;have hn:υ c':=I.hok.fresh Ng;have nPc:P≠c':=ae hP hn;have I2:=xBE tk (h':=h'.push (xEB xlO params body scope clos ((xIV).getD .none) c' Vq)) (λ b u e=>xdZ)
  have hoc2:xfn (h'.push (xEB xlO params body scope clos ((xIV).getD .none) c' Vq)) c' oc:=xhC O4;refine h h'.objs.size c' _ Vq _ _ I2 (xLk xx8) xfz ⟨c',oc,vs,t,rfl,hoc2,d1,d2⟩ ⟨oc,vs,t,ad,d1,d2⟩
   (xaU (by rw [ai nPc,ad]) (.inr ⟨c',oc,vs,t,Z6,ad,d1,d2⟩)) λ b o n e=>?_
  rw [xiq hn,ai n];exact e
 ·have O4:xfg c' oc:=(xf9 _ Yd).1;refine kla_makeFunctionHit hcl I.ok.glob hg TN (C.keeps I.bk) hPo (by simp [TriplesOk,rawInt]) (kL pos _) hb λ Vq h' tk hk hsz=>?_
  have I2:=I.kept (t':=tk) (h':=h'.push (xAL "function" (.func (xI3 xlO params body scope clos ((xIV).getD .none) xsC Vq)))) λ b u e=>xhC (hk b u e)
  refine h h'.objs.size c' _ Vq _ _ I2 (xEF hsz hsz) xfz ⟨c',oc,vs,t,rfl,xhC (hk _ _ O4),d1,d2⟩ ⟨oc,vs,t,Yd,d1,d2⟩
   (xaU hP (.inr ⟨c',oc,vs,t,rfl,Yd,d1,d2⟩)) λ b o n e=>e
noncomputable def qg (X:Cx) (N:xae) (qual:Str) (scope:Scope) (cl:xt6) (f:LF) (cd:LG) (A:LL) (s:LH) (H:Hp):Cx where
 prog:=X.prog
 w:=X.w
 K:=X.K
 mg:=X.mg
 base:=X.base
 A:=A.deeper (xEE qual scope f cd cl)
 N:=N
 s₀:=s
 H₀:=H
 env:=xEE qual scope f cd cl
 outer:=X.stack
 stack:=xEE qual scope f cd cl::X.stack
 ex:=[]
 calm:=true
 fn:=λ _=>false
 pn:=[]
 xe:=xnk
structure Wg (X:Cx)(y:Str)(Nc:xae)(scope:Scope)(cl:xt6)(js:Id):Prop where
 kind:xBS
 co:τ scope.isCoroutine
 gen:τ scope.isGenerator
 nocell:xlw (xgv≠ .cell)
 par:xwb y
 clos:xJa X.env=pure cl
 sub:∀x c,xyx x c->xcJ
 has:∀x,(xrS x .cell\/xrS x .free)->∃c,xyx x c
 len:js.length=Nc.length
 slot:∀(i:Nat) (x:Str) (j:Nat),xgb Nc->Ν js j->xfd X.N x/\xIb x .cell/\xrS x .free/\∀c,xcJ->xyx x c
noncomputable def zo (js:Id) (σ:St) (v:V):St:=xdV::js.map λ j=>xyX (σ[j]?)
def y8 {σ:St}(I:Ps)(C:Wg X y Nc scope cl js)(r:xdn)
  (hn:xMf (No (([(y,u)]:xuR LG).reverse.lookup z))) (hk:∀b o,xaG=IO->xiG=IO):
  xms (qg X (y::Nc) qual scope cl f cd X.A.in1 s H) (zo js σ v) H (xFF h' t'):=by
 have e0:=I.env0.in1;have Xl:∀b,xgD (qg X (y::Nc) qual scope cl f cd X.A.in1 s H).ex:=xem b z (xku b ([]:Ω) z) Z6
 have sub:∀{x} {c},NE ((qg X (y::Nc) qual scope cl f cd X.A.in1 s H).env.cells.lookup x) c->xcJ:=λ {x c} e=>C.sub x c e
 refine⟨⟨I.ok.mod,C.kind,rfl,rfl,Tl,λ x z c e1 e2=>I.ok.inj x z c (sub e1) (sub e2),λ x hx=>C.has x hx,λ x c e _=>(by cases e),e0.qt,xLK,xv7,
  xem b z z xAp,I.bs,e0.bsz,λ b _ _=>xAp,xem b z z xAp,e0.funs,e0.frf⟩,
  rfl,I.bare,xK8,xaU hn (λ i x v' h1 h2 h3=>?_),xcW x c,xlI,λ x c e=>xDK xC1,xem p hp (xku p ([]:Wp) hp) Z6,I.hok.kept hk,?_⟩
 ·cases i with
  |zero=>
   have N6:xDg y x:=h1;cases N6;have Rk:xDg xdV xLh:=h2;cases Rk;refine⟨u,r,.inl (xbW C.par)⟩;show xjJ (([(y,u)]:xuR LG).reverse.lookup y);simp [List.lookup]
  |succ i=>
   have N6:xgb Nc:=h1;have Rk:Ν (js.map λ j=>xyX (σ[j]?)) xLh:=h2;rw [Fq] at Rk;cases ej:js[i]? with
   |none=>show ρ ej Rk Rk
   |some j=>
    rw [ej] at Rk;have Xa:NE (xyX (σ[j]?)) v':=Fb Rk;obtain⟨hj1,W7,Rc,hc⟩:=C.slot i x j N6 ej;have Qa:xfd σ xLh:=by
     cases e:σ[j]? with
     |none=>show xeG Xa Xa
     |some w'=>show WF e Xa (xpM Xa)
    obtain⟨mo,hno,hl⟩:=I.loc;show xa0 u' r' l (hl j x v' hj1 Qa (xvG W7)) (Ψ u' r');rcases l with⟨q,_⟩|⟨_,c,ec,o,ho,hd⟩
    ·have q':xnQ x:=q;show ρ W7 q' q'
    ·show xbB ⟨.inr Rc,c,hc c ec,o,hk c o ho,hd⟩
 ·obtain⟨v',o,ho,hd⟩:=xpf xC1;show xav v' o (hk c o ho) hd
 ·show xaJ (xdV::js.map λ j=>xyX (σ[j]?)) (y::Nc).length;rw [EK,Es,C.len,EK]
def x6 {X:Cx}{LQ:Wp}{σ:St}{H:Hp}{s:LH}{y:Str}{Nc:xae}{qual:Str}{params:Arguments}{body:LN}{scope:Scope}{cl:xt6}{js:Id}{f c':LF}{pm Vq:LG}{te:TE}{k:Nat}{v:V}{u:LG}{Q:VK}{E:Ρ}
  (I:Ps) (C:Wg X y Nc scope cl js) (hr:xvl (k+2)) (hf:xfg f (xEB qual params body scope cl pm c' Vq)) (OW:s.heap.CodeRec xsC qual)
  (Rx:∀u,bindArgs (xI3 qual params body scope cl pm xsC Vq) (xgU [u])=pure [(y,u)]) (r:xdn)
  (he:PE (qg X (y::Nc) qual scope cl f xsC X.A.in1 s H) body te) (hq:te (zo js σ v) H Q):
  xLl (xqh [u]) xpg E s:=by
 have hd:xKU X.A.in1.depth:=(show J' (k+1) X.A.in1 from hr.in1).depth;refine Kc (kla_callFunE hd hf rfl C.co C.gen rfl OW ?_);show ST Rx (EM (wpAny_newFunctionEnv C.nocell (PP z hz) (λ h₁ hns hsb=>xbW ((I.ok.mod.nolimit.keeps I.bk).fresh _ hsb)) C.kind))
 ·show xiI hz C.par
 show codeAny _ _ (.expr body (xEE qual scope f xsC cl)) _ _;have hk₁:∀b o,xaG=IO->h₁.get? b=IO:=λ b o e=>hsb.extBut b o xC9 xdZ
 refine kla_codeExpr (xcw (he [] _ (zo js σ v) H Q (y8 I C r hns hk₁) hq) (Sc w' s' hs) z xse);obtain⟨v',H',J,r',q⟩:=hs;exact I.after ⟨v',H',J.os,J.bare,J.base,J.hok,r',q⟩
def MB.at (f:xpi b)(n:xi7):xxJ b:=⟨n,f.2⟩
def vJ {X:Cx}{LQ:Wp}{σ:St}{H:Hp}{l f I S:LF}{xs:LT}{of:LO}{Q:VK}{E:Ρ}(kf:xaX Int)(hh:xpK)(hq:xeV X.K l xs)(hf:∀v,of.data≠ xws)
  (step:∀(MC:Wp) (s':LH) (H':Hp) (i:Nat) (v:V) (u:LG),xqE X σ H' s'->xpH f of->UV->xri v->xdn->
   xLl (xqh [u]) (EP X MC σ λ r Xe=>r=xx1 i/\C' H' Xe) xnk s')
  (fin:∀(i:Nat) (v:V) (H':Hp),xri v->(∀j,xeM j->xoV≤kf j/\(j<i->xoV<kf j))->UV->xbf v) (Y5:S≠I):
  ∀(r j i:Nat) (s':LH) (H':Hp) (vb:V) (ub:LG) (tb:Tok) (c:Nat),xfq (j+1)=r->xuS (j+1)->xi8->UV->xxJ I->xxJ S->xxJ f->f≠I->f≠S->
   xpH f of->xpH S (xpy #[ub,xx1 i tb] c)->s'.heap.IsListIter I l (j+1)->xri vb->RelV vb ub->i≤j->(∀j',j'≤j->xoV≤kf j'/\(j'<i->xoV<kf j'))->
   xGi X.A (.builtin "min.loop" (xgU [.ref I,xbN,.ref S])) (λ r Oq=>match r with| .ok (.ret v)=>xpg v Oq| .ok _=>False| .error e=>E e Oq) s':=by
 have Rw:(toString "min"++toString ".loop":String)="min.loop":=Z9;intro r
 induction r with
 |zero=>
  intro j i s' H' vb ub tb c hr hj J sm fI fS ff YM YL Yc hSo hit hvb rb YY Qq;have hin:xnO (j+1):=Fa hj (xxX hr);show xuQ rv pl hz (J.list (sm.seq hq));show xwy Nf;have hlI:xeF I:=No (by
   show xuF e hc n hd pl.isList;obtain⟨o2,e2,ec,ed⟩:=hit;rw [z,e2] at e;have e':=Fb e;rw [<-e',ed] at hd;cases hd)
  have W:=xJe X.prog (w:=X.w) (A:=X.A.in1) hh I l hlI its.toArray;have hsz:xIQ:=EO ..;refine JZ J9 ?_;rw [Ky Hi _];show xkf (xyT (.ref S) _) _;show xaa (JC hSo rfl ?_);show xkf (xy0 (xKc I)>>= _) _;show xaa (JD (W.done _ _ _ ⟨by rw [hsz,<-Nf,<-hin];exact hit,pl.isList⟩ (Sc h' tk' Tt)));have J1:xlt H' s' tk':=J.turned (it:=I) (λ b o n e=>Tt b o (by simpa using n) e) fI.1 (Δ fI) (xny fI) (xoM fI) (xtk fI);have Y6:=Tt S _ (by simpa using Y5) hSo;show xkf (updateSeq S (λ _=>#[])>>= _) _;show xaa ?_;refine xI8 Y6 (Ev (KG xeR));exact⟨vb,H',J1.turn fS,rb,fin i vb H' hvb (λ j' hj'=>Qq j' Z5) sm⟩
 |succ r ih=>
  intro j i s' H' vb ub tb c hr hj J sm fI fS ff YM YL Yc hSo hit hvb rb YY Qq;have LU:xeM (j+1):=Kn hr;show xuQ rv pl hz (J.list (sm.seq hq));show xwy Nf;have hlI:xeF I:=No (by
   show xuF e hc n hd pl.isList;obtain⟨o2,e2,ec,ed⟩:=hit;rw [z,e2] at e;have e':=Fb e;rw [<-e',ed] at hd;cases hd)
  have W:=xJe X.prog (w:=X.w) (A:=X.A.in1) hh I l hlI its.toArray;have hsz:xIQ:=EO ..;refine JZ J9 ?_;rw [Ky Hi _];show xkf (xyT (.ref S) _) _;show xaa (JC hSo rfl ?_);show xkf (xy0 (xKc I)>>= _) _;show xaa (JD (W.item (j+1) _ _ _ (by show LE hsz (EJ LU Nf)) ⟨hit,pl.isList⟩ λ u h' tk' hP Qg Tt=>?_));have hu:xbw its (j+1) u:=by simpa using hP
  show xn7 oI' V3 O4 hod Qg.1;obtain⟨v,hv,rvu⟩:∃v,xbw xs (j+1) v/\xdn:=by
   obtain⟨u',e3,r3⟩:=xGQ (j+1) (x:=xs[j+1]) (Ex LU);show ρ hu e3 e3;exact xaU (Ex LU) r3
  have J1:xlt H' s' tk':=J.turned (it:=I) (λ b o n e=>Tt b o (by simpa using n) e) fI.1 (Δ fI) (xny fI) (xoM fI) (xtk fI);have Y6:=Tt S _ (by simpa using Y5) hSo;have YZ:=Tt f _ (by simpa using YM) Yc;have Jp:=J1.pinned (fp:=[I,S,f]) (xaw (by
   show xjC
   ·exact fI
   ·show xjC
    ·exact fS
    ·show xiI hb ff)) (xaw (by
   show xjC
   ·exact xaU V3 (λ v z=>by show ρ hod z z)
   ·show xjC
    ·exact xaU Y6 eO
    ·show xiI hb (xaU YZ hf)))
  show xkf (xy0 (xDi u (xqh [u]))>>= _) _;show xaa (JD (Gf (xcw (step _ _ H' (j+1) v u Jp YZ sm hv rvu) (Sc x Oq he) hF hF.elim)));obtain⟨rv',H2,J2p,rr,re,sm2⟩:=he;subst re;show xfP t2 t (x=xbq (kf (j+1))) rr;have pin:∀{b:LF} {o:LO},b∈ [I,S,f]->xiG=IO->Oq.heap.get? b=IO/\W1 (H2 b):=λ {b o} hb e=>by
   have:=J2p.pin (b,o) (xoe hb e);show xar xDm (Δ this)
  obtain⟨gI,nI⟩:=xz9 V3;obtain⟨gS,nS⟩:=xz9 Y6;show xqz gf nf (xz9 YZ) J2 J2p.unpinned;have sm02:=sm.trans sm2;have V4:Oq.heap.IsListIter I l (j+1+1):=⟨oI',gI,O4,hod⟩;show xkf (xy0 (holding [u,xrh (j+1)] (richCompare .Lt (xrh (j+1)) (xx1 i tb)>>= _))>>= _) _;show xdu (JD (Gf (Ev (CmpOf.ints_lt (prog:=X.prog) (w:=X.w) (A:=X.A.in1) (P:=λ i v=>∃t,v=xbq xoV) kf (λ i v h=>h) (j+1) i _ _ _ _ _ (xck t2) (xck tb) ?_)))) (Gf (Ig ?_));show xaa (KG xeR);by_cases MX:kf (j+1)<xoV
  ·obtain⟨c2,Xz⟩:∃c2,xfn (Oq.heap.update S (xIg #[u,xrh (j+1)])) S (xpy #[u,xrh (j+1)] c2):=xa1 (JW gS λ _=>#[u,xrh (j+1)]);simp only [MX,decide_true,if_true];show xaa ?_;refine xI8 gS (Ev xHt);rw [Rw];have fS2:=fS.at nS;refine EM ⟨xES _,ih (j+1) (j+1) _ H2 v u t2 c2 (congrArg Nat.pred hr) LU (J2.turn fS2) sm02 xKA fS2 xKB YM YL ?_ Xz ⟨oI',?_,O4,hod⟩ hv rvu Tl (PP j' hj')⟩
   ·show xA1 S _ f=_;show LE (Hk _ _ _ _ YL) gf
   ·show xA1 S _ I=_;show LE (Hk _ _ _ _ Y5.symm) gI
   ·by_cases e:j'=j+1
    ·subst e;show xar (Int.le_refl _) (xmv h xmi)
    ·have:=Qq j' Z5;show xar (Int.le_trans (Lx MX) xDm) (λ _=>Int.lt_of_lt_of_le MX xDm)
  ·simp only [MX,decide_false,Hg,JO];show xaa xHt;show ST Rw (EM ⟨xES _,ih (j+1) i _ H2 vb ub tb c (congrArg Nat.pred hr) LU J2 sm02 xKA (fS.at nS) xKB YM YL gf gS V4 hvb rb (F3 YY) (PP j' hj')⟩);by_cases e:j'=j+1
   ·subst e;show xar (Int.not_lt.mp MX) (λ _=>Z5)
   ·exact Qq j' Z4
def yR {X:Cx}{LQ:Wp}{σ:St}{H:Hp}{s:LH}{l f:LF}{xs:LT}{of:LO}{Q:VK}{E:Ρ}(I:Ps)(kf:xaX Int)(hh:xpK)(hq:xeV X.K l xs)(My:xeM 0)(hf:∀v,of.data≠ xws)(ff:xpi f)(Yc:xfg f of)
  (step:∀(MC:Wp) (s':LH) (H':Hp) (i:Nat) (v:V) (u:LG),xqE X σ H' s'->xpH f of->UV->xri v->xdn->
   xLl (xqh [u]) (EP X MC σ λ r Xe=>r=xx1 i/\C' H' Xe) xnk s')
  (fin:∀(i:Nat) (v:V) (H':Hp),xri v->(∀j,xeM j->xoV≤kf j/\(j<i->xoV<kf j))->UV->xbf v):
  xjU (xr6 "min" [xax] [(xns,xbN)]) xpg E s:=by
 have Rw:(toString "min"++toString ".loop":String)="min.loop":=Z9;show xiu rv pl hq;show xwy Nf;have Vh:xvd l:=by obtain⟨o,e,_⟩:=pl.isList;exact xcS
 refine kmk_tree PySem.F.kind_min PySem.F.plain_min PySem.F.entry_min (kmk_min_key _ _) ?_;show xkf (xLI ["key","default"] 0 ⟨[],[(xns,xbN)]⟩>>= _) s;show xdu (xKg (xcd (xLI ["key","default"] 0 ⟨[],[(xns,xbN)]⟩) (pure [xdB,none]))) xeR;show xdu (wpAny_pyIter_list pl.isList ?_) (xEG xac);rw [Rw];have hS:xzQ #[xax,xjr]=xcq:=size_push' ..;have hlI:xu7 l:=FA Vh;have Y5:xu7 (xzQ #[xax,xjr]):=by show LE hS (Iy xtm)
 refine EM (xbW (xES _));have OV:∀b o,xaG=IO->xtl (xzP #[xax,xjr] xkx)=IO:=λ b o e=>xhC xdZ
 have gI:xfn (xzP #[xax,xjr] xkx) s.heap.objs.size (xIe #[xax,xjr]):=
  xhC xfz
 have gS:xfn (xzP #[xax,xjr] xkx) (xzQ #[xax,xjr]) xkx:=xfz;have fI:xpi s.heap.objs.size:=I.fpOk Tl xlI;have fS:xpi (xzQ #[xax,xjr]):=xEF (by show LE hS xAh) (by show LE hS xAh);have YM:xu7 f:=FA (E1 Yc);have YL:f≠xzQ #[xax,xjr]:=by show LE hS (FA (Ka (E1 Yc)))
 have J0:xDV (xzP #[xax,xjr] xkx):=xGK OV;have hl0:(xzP #[xax,xjr] xkx).IsList l its.toArray:=by
  show xay o e r pl.isList (xer (OV _ _ e) r)
 have hf0:=OV _ _ Yc;show xrY (xzQ #[xax,xjr]) S (xzP #[xax,xjr] xkx) h0;generalize s.heap.objs.size=Ia at*;have W:=xJe X.prog (w:=X.w) (A:=X.A.in1) hh Ia l hlI its.toArray;have hsz:xIQ:=EO ..;refine JZ J9 ?_;rw [Ky Hi _];show xkf (xyT (.ref _) _) _;show xaa (JC gS rfl ?_);show xkf (xy0 (xKc Ia)>>= _) _;show xaa (JD (W.item 0 _ _ _ (by show LE hsz (EJ My Nf)) ⟨xmy _ gI,hl0⟩ λ u h' tk' hP Qg Tt=>?_));have hu:xbw its 0 u:=by simpa using hP
 show xn7 oI' V3 O4 hod Qg.1;obtain⟨v,hv,rvu⟩:∃v,xbw xs 0 v/\xdn:=by
  obtain⟨u',e3,r3⟩:=xGQ 0 (x:=xs[0]) (Ex My);show ρ hu e3 e3;exact xaU (Ex My) r3
 have J1:xlt H s tk':=Inv.turned (s:=xlE h0) (it:=Ia) J0 (λ b o n e=>Tt b o (by simpa using n) e) fI.1 (Δ fI) (xny fI) (xoM fI) (xtk fI);have Y6:=Tt S _ (by simpa using Y5) gS;have YZ:=Tt f _ (by simpa using YM) hf0;have Jp:=J1.pinned (fp:=[Ia,S,f]) (xaw (by
  show xjC
  ·exact fI
  ·show xjC
   ·exact fS
   ·show xiI hb ff)) (xaw (by
  show xjC
  ·exact xaU V3 (λ v z=>by show ρ hod z z)
  ·show xjC
   ·exact xaU Y6 eO
   ·show xiI hb (xaU YZ hf)))
 show xkf (xy0 (xDi u (xqh [u]))>>= _) _;show xaa (JD (Gf (xcw (step _ _ H 0 v u Jp YZ xJ6 hv rvu) (Sc x Oq he) hF hF.elim)));obtain⟨rv',H2,J2p,rr,re,sm2⟩:=he;subst re;show xfP t2 t (x=xbq (kf 0)) rr;have pin:∀{b:LF} {o:LO},b∈ [Ia,S,f]->xiG=IO->Oq.heap.get? b=IO/\W1 (H2 b):=λ {b o} hb e=>by
  have:=J2p.pin (b,o) (xoe hb e);show xar xDm (Δ this)
 obtain⟨gI2,nI⟩:=xz9 V3;obtain⟨gS2,nS⟩:=xz9 Y6;show xqz gf2 nf (xz9 YZ) J2 J2p.unpinned;obtain⟨c2,Xz⟩:∃c2,xfn (Oq.heap.update S (xIg #[u,xrh 0])) S (xpy #[u,xrh 0] c2):=xa1 (JW gS2 λ _=>#[u,xrh 0]);show xkf (updateSeq S (λ _=>#[u,xrh 0])>>= _) _;show xaa ?_;refine xI8 gS2 ?_;rw [Rw];have fS2:=fS.at nS;refine EM ⟨xES _,vJ kf hh hq hf step fin Y5 _ 0 0 _ H2 v u t2 c2 rfl My (J2.turn fS2) sm2 xKA fS2 xKB YM YL ?_ Xz ⟨oI',?_,O4,hod⟩ hv rvu Tl (PP j' hj')⟩
 ·show xA1 S _ f=_;show LE (Hk _ _ _ _ YL) gf2
 ·show xA1 S _ Ia=_;show LE (Hk _ _ _ _ Y5.symm) gI2
 ·have e:j'=0:=Z5;subst e;show xar (Int.le_refl _) (xmv h xmi)
inductive TY (K:Frag) (P:LF) (pos:Pos) (qual:Str) (js:Id) (te:TE) (σ:St) (Q:VK) (zs:LT) (H1:Hp):Prop
 |mk (p:LF) (xs:LT) (kf:xaX Int) (h0:zs=xaV) (h1:K' K H1 p xs) (h2:xeM 0) (h3:O0 P pos qual H1) (h4:(∀c xs,K' K H1 c xs->xcp P)) (h5:∀H2,kX P H1 H2->O0 P pos qual H2->(∀(i:Nat) (v:V) (H':Hp),xri v->xt1 H'->te (zo js σ v) H' λ r Xe=>r=xx1 i/\C' H' Xe)/\∀(i:Nat) (v:V) (H':Hp),xri v->(∀j,xeM j->xoV≤kf j/\(j<i->xoV<kf j))->xt1 H'->xbf v):TY K P pos qual js te σ Q zs H1
def Dr (K:Frag)(P:LF)(pos:Pos)(qual:Str)(js:Id)(te:TE)(t:TA):TE:=λ σ H Q=>xdo λ zs H1=>TY K P pos qual js te σ Q zs H1
def zx {X:Cx}{k:Nat}{e:LN}{body:LN}{te:TE}{p:Pos}{kp:Pos}{pos:Pos}{VZ:Pos}{y:Str}{Nc:xae}{scope:Scope}{params:Arguments}{cl:xt6}{js:Id}{P:LF}{c:LF}{t:TA}(hn:xpK)(hr:xvl (k+2))(hg:xvF "min")(hm:xnA "min")(C:Wg X y Nc scope cl js)(TN:X.env.code=xwl)(hC:CodeHd X.base c P)
  (Y2:∃bm o,xMA=SC bm/\bm≠builtinsNs/\xKW bm/\X.base.get? bm=IO/\o.cls=xJy/\xKX o.dict/\xin .plain)
  (ZE:defaultsOf params X.env=([],[])) (Rx:∀(pm cd ct u:LG),bindArgs (xI3 xlO params body scope cl pm cd ct) (xgU [u])=pure [(y,u)])
  (he:∀f c' s H,PE (qg X (y::Nc) xlO scope cl f xsC X.A.in1 s H) body te) (ha:xiX [e] t)
  (hee:Μ (xvW (e:: [])=xfH::xvW [])) (Pn:xLx)
  (Mf:Μ ((backToKw pos (keywordEach [⟨some "key",.Lambda params body scope VZ,kp⟩] X.env)).all (·.1.isSome)=true))
  (hkw:Μ ((backToKw pos (keywordEach [⟨some "key",.Lambda params body scope VZ,kp⟩] X.env)).any (·.1.isNone)=false))
  (hfm:Μ ((backToKw pos (keywordEach [⟨some "key",.Lambda params body scope VZ,kp⟩] X.env)).filterMap (·.1)=[("key":Str)])):
  xlb "min" p [e] [⟨some "key",.Lambda params body scope VZ,kp⟩] (Dr X.K P VZ xlO js te t):=by
 intro LQ s σ H Q I h;show TD (GD (xuB (show xyc "min" (.builtin "min") from Z8) ?_)) (xMa e (rest:=[]) (xdd xng us) hee Pn Mf hkw);show xn4 vs;obtain⟨l,xs,kf,rfl,hq,My,hT,hnP,q⟩:=q1;show xpG u ru (gJ r1);obtain rfl:u=Value.ref l:=ru;refine kws_cons (x9 I1 hT TN hC Y2 ZE C.clos λ f c' pm Vq H2 s2 I2 ff Yc OW Zx UO sT=>kws_nil ?_);rw [hfm];obtain⟨qs,qf⟩:=q H2 sT UO;show xki (xr6 "min" [xax] [(xns,xbN)]) s2;have Ql:K' X.K H2 l xs:=by
  rcases hq with hq|hq
  ·rcases hq with z|⟨o,z⟩
   ·show xDJ (xpq (hnP l xs (.inl (.inl z))) z)
   ·show xaT (xcz o (xpq (hnP l xs (.inl (xcz o z))) z))
  ·show xbB hq
 refine yR I2 kf hn Ql My (λ v z=>by cases z) ff Yc (λ MC s' H' i v u J hfo' sm hv ru=>?_) qf;obtain⟨oc,vs',t,hc,d1,d2⟩:=Zx;have O4:xpH c' oc:=(J.hok _ _ (xep hc)).1;exact x6 J C hr hfo' ⟨c',oc,vs',t,rfl,O4,d1,d2⟩ (λ u=>Rx _ _ _ u) ru (he f c' s' H') (qs i v H' hv sm)
def y'.weak {K:Frag}(F:xfe P w K CX k f fd ps sp)(h:∀vs H Q E,sp' vs H Q E->xd7):xfe P w K CX k f fd ps sp':=
 ⟨λ vs H Q E z=>F.len vs H Q E (xkv _ _ z),λ A outer s H args us vs Q E hr e0 hb r z=>F.run A outer s H args us vs Q E hr e0 hb r (xkv _ _ z)⟩
inductive Rz (P:LI) (w:LJ) (K:Frag) (mg:π) (base:LM) (k:Nat) (m:Str) (t:TA) (σ:St) (Q:VK) (x:V) (H1:Hp):Prop
 |mk (a C dx:LF) (fs:xev) (f:LF) (fd:LK) (ps:xae) (sp:Sp) (h0:x=Tm) (h1:H1 a=xqS) (h2:xJQ m) (h3:xgw) (h4:xol K m f) (h5:Η k ps sp) (h6:xoA) (h7:t σ H1 λ vs H2=>sp (x::(vs++[])) H2 Q E0):Rz P w K mg base k m t σ Q x H1
def wE (P:LI)(w:LJ)(K:Frag)(mg:π)(base:LM)(k:Nat)(m:Str)(ta:TE)(t:TA):TE:=λ σ H Q=>xgy λ x H1=>Rz P w K mg base k m t σ Q x H1
def pC {X:Cx}{o:LN}{e:LN}{es:xl8}{m:Str}{apos:Pos}{pos:Pos}{k:Nat}{ta:TE}{t:TA}{P:LI}{w:LJ}{K:Frag}{mg:π}{base:LM}{pl:xwe}(hP:X.prog=P)(hw:X.w=w)(hK:X.K=K)(hmg:X.mg=mg)(UN:X.base=base)(he:xl4 o)(hr:xju)(ha:xm5)
    (Nd:Μ (xkY=xfH::xkV)) (Nu:xnl)
    (ht:Μ (xxS o m xcu=(do
      let ov<-xoK
      xu5
      let xwN f<-xva [ov] ov m pl
      xxm f xcu xxn))):
    xxR o m xcu (wE P w K mg base k m ta t):=by
  subst hP hw hK hmg UN
  intro LQ s σ H Q I h
  refine IB (pl:=pl) (xq8 _ I h u) ht
  obtain⟨x,H1,I1,rx,a,C,dx,fs,f,fd,ps,sp,ex,ea,l,c,hm,F,hb,q⟩:=z9
  subst ex
  obtain rfl:u=xcP:=rx
  show TD (dG I1 ea c hm l ?_) (IA (first:=xbK) (h₀:=X.base) I.ok.mod.kin hm.kp (thn (xFe s1 H1 _ I1 q) (xJg us s2 I2.kIn)) Nd Nu)
  exact iN (us:=Tm::us) (vs:=Tm::vs) F hr hb .nil a7 I2 (xGI r) q2
abbrev N8 (mg:π)(h:LM):Prop:=∃bm o,mg "__builtins__"=SC bm/\bm≠builtinsNs/\xKW bm/\h.get? bm=IO/\o.cls=xJy/\xKX o.dict/\xin .plain
def uC {K:Frag}
  (KX:K.In s₁.heap) (hns:s₁.heap.Ns mainGlobals mg) (hb:s₁.heap.Ns builtinsNs mb) (hbb:∀x:Str,xAw->mb x=bootBuiltins x) (hlim:s₁.heap.NoLimit) (hg:s₁.gens=#[])
  (ha:xJf a xDc) (hi:xvT vs) (hl:xc2 ns.length) (hr:xpe callerA)
  (hT:xJf Tb (tabObj #[])) (hC:CodeHd s₁.heap c Tb) (hKT:xoy) (Y2:N8 mg s₁.heap)
  (F:∀base:LM,K.In base->xA4 mg->xm8->xmD->xfe P w K LZ k fa fd xbT sp) (Rx:∀(s:LH) (u:LG),xw6 s [u] [(x,u)])
  (Pf:∀H:Hp,xeV K a xeI->xfh Tb xyI->xis a->sp xbK H (λ v _=>v=xsy) xEO):
  xsb (model P w) callerA xLg xHF (λ r s'=>r=.ok xLp/\xJx s'.heap/\s'.os=s₁.os/\xye) s₁:=by
 have rv:=uA hi;have lenV:=hi.length;have naT:xis a:=No (by show xbb hT ha ha)
 have core:∀H,(∀b,xfc Tb->xcg\/∃ob xs,xfL (.frz ob xv2))->xfh Tb xyI->xeV K a xeI->xsY H s₁.heap->(∀b,xb7≠none->b=a\/b=Tb)->(XL≠none->W1 (K.lookup a))->
   xsb (model P w) callerA xLg xHF (λ r s'=>r=.ok xLp/\xJx s'.heap/\s'.os=s₁.os/\xye) s₁:=by
  intro H hO hHT hS hok hA hK;have base_of:∀{b} {o},xET=IO->xcg->xtl xwI=IO:=λ e n=>xa e n
  have noH:∀{b} {o},xET=IO->(b=a->False)->(b=Tb->False)->xcg:=λ {b o} e n1 n2=>by
   cases q:xb7 with
   |none=>rfl
   |some u=>
    show xcv (hA b (by show xbc q))
    ·show xjB (n1 z)
    ·show xjB (n2 z)
  have Xl:∀{b} {o} {es:Array DictEntry} {ep:Nat},xET=IO->xin (.dict es ep)->xcg:=λ {b o es ep} e d=>noH e (No (by
   show xbx z ha e e;have d':xIO _=Data.dict es ep:=d;cases d')) (No (by
   show xbx z hT e e;have d':Data.fields #[]=Data.dict es ep:=d;cases d'))
  have nsK:∀{b} {m},s₁.heap.Ns b m->(xwI).Ns b m:=λ {b m} ⟨o,es,ep,e,d,r⟩=>⟨o,es,ep,base_of e (Xl e d),d,r⟩
  have hKb:K.In xwI:=λ b o e=>base_of (KX b o e) (by
   cases q:xb7 with
   |none=>rfl
   |some u=>
    show xcv (hA b (by show xbc q))
    ·show xbx z (hK (by show xbc q)) e e
    ·show xbx z hKT e e)
  have hM:Mod K mg xwI:=⟨hKb,nsK hns,⟨mb,nsK hb,hbb⟩,let⟨mc,h1,h2⟩:=hlim;⟨mc,nsK h1,h2⟩⟩;have hCb:CodeHd xwI c Tb:=by
   obtain⟨o,vs',file,tf,flags,tg,inF,text,tt,e1,r1,r2,r3,r4,r5,r6,r7,r8,My⟩:=hC;exact⟨o,vs',file,tf,flags,tg,inF,text,tt,base_of e1 (noH e1 (No (by
    show xbx z ha e1 e1;have r2':xIO _=Data.fields vs':=r2;cases r2')) My),r1,r2,r3,r4,r5,r6,r7,r8,My⟩
  have hBb:N8 mg xwI:=by
   obtain⟨bm,o,b1,b2,b3,b4,b5,b6,b7⟩:=Y2;exact⟨bm,o,b1,b2,b3,base_of b4 (noH b4 (No (by
    show xbx z ha b4 b4;have b7':xIO _=Data.plain:=b7;cases b7')) (No (by
    show xbx z hT b4 b4;have b7':Data.fields #[]=Data.plain:=b7;cases b7'))),b5,b6,b7⟩
  have e0:Qi P w K mg xwI callerA [] s₁ H:=⟨rfl,hM,λ b o e=>Aa e,EL (uv _ _),trivial,xem b hb (xku b ([]:Ω) hb) Z6,hok,.of_eq hg,xbF⟩;refine Kh ((F _ hKb (nsK hns) hCb hBb).run callerA [] s₁ H xHF xbK xbK _ _ hr e0 (Rx s₁ Tm) (xlU rfl) (Pf H hS hHT naT)) (Sc r s' h)
  cases r with
  |error e=>show xjX h
  |ok fl=>
   cases fl with
   |next=>show xjX h
   |brk=>show xjX h
   |cont=>show xjX h
   |ret u=>
    obtain⟨v,H',os,bare,un,hok',r',q⟩:=h;have q':v=xsy:=q;subst q';obtain rfl:u=Value.bool true:=r';have keep:∀b o,xfc Tb->xET=IO->s'.heap.get? b=IO:=λ b o n e=>by
     cases q:xb7 with
     |none=>exact un.keep b o e q (by intro z;show xab (xku b ([]:Ω) z) Z6) Z6
     |some u=>
      rcases hO b n with z|⟨ob,xs,z⟩
      ·show ρ q z z
      ·have z2:=un.frzs b ob _ z;obtain⟨e1,_⟩:=hok b _ z;obtain⟨e2,_⟩:=hok' b _ z2;show xeG e1 e1;exact e2
    obtain⟨more,hm⟩:=un.tbls Tb #[] hHT;have hTo:xpH Tb (tabObj (#[]++more)):=hok' Tb _ hm;refine⟨rfl,⟨xlx b,xlx b⟩,os,bare⟩
    ·by_cases z:b=Tb
     ·show xbx z hT e e;exact xvG ⟨(hC.tab hT).isCodeTable,rfl,#[],more,rfl,hTo⟩
     ·show xaT (xz0 o z e)
    ·by_cases z:b=Tb
     ·subst z;exact xa1 hTo
     ·show xar o (xz0 o z e)
 cases hk:xLo with
 |some o=>
  have e:=KX a o hk;show xjt ha;refine core (λ b=>xxd (b=Tb) xyI) (λ b n=>.inl (EI n)) xag (.inr ⟨_,vs.toArray,_,hk,rfl,rfl,rfl,by rw [EO,lenV];exact hl,by simpa using rv⟩) (Sc b u z) (PP b z) (xnp z (EI naT) z)
  ·by_cases hb:b=Tb
   ·have z':=xBF (EU hb);cases z';subst hb;exact hT
   ·have z':=xBF xC6;cases z'
  ·by_cases hb:b=Tb
   ·show xbB hb
   ·show xab xC6 z
 |none=>
  refine core (λ b=>xyi (b=Tb) xyI (xxd (b=a) (.frz xDc (.lst xeI)))) (PP b n) xag (.inl (xcz xDc (by show(xgo (a=Tb))=_;rw [EI naT,xag]))) (Sc b u z) (PP b z) λ _=>hk
  ·by_cases hb:b=a
   ·show xbB (xaU _ (xB8 n (EU hb)))
   ·show xaT (xB8 n xC6)
  ·by_cases Y4:b=Tb
   ·have z':=xBF (EU Y4);cases z';subst Y4;exact hT
   ·by_cases hb:b=a
    ·have z':=xBF (xB8 Y4 (EU hb));cases z';subst hb;exact⟨ha,by show xdl hl,vs,_,rv,ha⟩
    ·have z':=xBF (xB8 Y4 xC6);cases z'
  ·by_cases Y4:b=Tb
   ·show xbB Y4
   ·by_cases hb:b=a
    ·show xaT hb
    ·show xab (xB8 Y4 xC6) z
def WU {l:PySem.W.OpenLaw}{K:Params->Frag}{sp:LJ->Sp}
  (hn:xH4 n) (Qc:xc2 n) (hdf:xJr []) (hr:xpe callerA)
  (hY:∀(w:LJ) (h:LM),YP w h->xAe h/\xdO Tb (tabObj #[])) (hC:∀w:LJ,Pi (codeHdIn xnt c Tb)) (hKT:∀w:LJ,xlP xnt Tb)
  (F:∀(w:LJ) (mg:π) (fa:LF) (h:LM),xAe h->xt8->mg d.name=SC fa->
   ∃fd:LK,(∀(s:LH) (u:LG),xw6 s [u] [(x,u)])/\
    ∀base:LM,xAe base->xA4 mg->xm8->xmD->xfe l.prog w xnt LZ k fa fd xbT (sp w))
  (Pf:∀(w:LJ) (H:Hp) (a:LF) (ns:xkk),xCm n->xeV xnt a xeI->xfh Tb xyI->xis a->sp w xbK H (λ v _=>v=xsy) xEO):
  PySem.W.WalkO q loose XP YP l.row.toRowW d [] (λ f vs=>xJ0 vs):=by
 show xhB (Att.Su hn hdf λ w s₀ s₁ mg mb fa o pm cd doc a vs ns G Y ho hd OW hmg Zy hints hlen hg=>?_) KX hT (hY w _ Y);obtain⟨fd,hb,hF⟩:=F w mg fa _ KX G.T.g hmg;have Y2:N8 mg s₁.heap:=by
  obtain⟨bm,ob,b1,b2,b3,b4,b5,b6⟩:=G.T.bmain;refine⟨bm,ob,b1,b2,xg8,b3,b4,b5,b6⟩;obtain⟨o,es,ep,e,hd,_⟩:=G.T.g;show xbb e b3 b3;show ρ hd b6 b6
 exact uC KX G.T.g G.T.b G.T.builtins G.T.nolimit hg Zy hints (Ew hlen Qc) hr hT (codeHd_of_K KX (hC w)) (hKT w) Y2 hF hb λ H hS hHT na=>Pf w H a ns hlen hS hHT na
universe L2
namespace L2
open PySem
def rH {a b x:Str}{i j k:Nat}(h1: xgb [a,b])(h2: Ν [none,some k] (some j)):x=b/\j=k:=by
 rcases i with _|_|i
 ·cases h2
 ·cases h1;cases h2;exact xj0
 ·cases h1
def slotsL {b c x:Str}{i j k l:Nat}(h1: xgb [b,c])(h2: Ν [k,l] j):(x=b/\j=k)\/(x=c/\j=l):=by
 rcases i with _|_|i
 ·cases h1;cases h2;show xaT xj0
 ·cases h1;cases h2;show xbB xj0
 ·cases h1
universe L2
namespace K33
open PySem L2 QQ W17 W16 BP
seal PE PA PS PSs PT PW PG PI
def Np (u:Nat)(W T:Id)(ps:xaS):Prop:=
 match u with
 |0=>ps=xoN
 |1=>ps=pf true T
 |2=>∃Pp,xuC (W++T) Pp W T/\ps=pP Pp
 |3=>∃(Pp:xen) (L:Id) (It:xsf) (b:Nat),xuC (W++T) Pp W T/\US xBX L/\xyL 0 0 It 272 b/\ps=xjT++xts
 |_=>False
structure TW (T W:Id):Prop where
 tb:xdv T
 one:xBY
 le:xt5
 wb:xdv W
 wl:xkB
def US.len (h:US Q L):xmn:=by
 obtain⟨ln,_,rfl,_⟩:=h;simp
theorem Np.uniq {u:Nat}(h:xpp)(h':Np u W T ps'):ps=ps':=by
 show xB4 u
 ·exact LD h (Ik h')
 ·exact LD h (Ik h')
 ·obtain⟨P,w,e⟩:=h;obtain⟨P',w',e'⟩:=h';rw [e,e',et w w']
 ·obtain⟨P,L,It,b,w,sl,wi,e⟩:=h;obtain⟨P',L',It',b',w',sl',wi',e'⟩:=h';have eP:=et w w';subst eP;have eL:=sl.uniq sl';subst eL;have hl:=sl.len;rw [<-hl] at wi wi';rw [e,e',tT wi wi']
 ·show xjX h
def o7 (t:xll){It:xsf}(w:xuC (W++T) Pp W T)(sl:US xBX L)(wi:xyL 0 0 It 272 b):
  GR W Pp/\runP W Pp=W++T/\xwd Pp.length/\xFz/\Zh L Pp/\(xGV It x)/\xsd 0=L:=by
 obtain⟨gr,V0,UQ⟩:=dC t.wb t.tb w;have h1:=t.one;have Yg:=mV w (by show LE Et (GQ h1));have tok:=sl.tok gr Yg;exact⟨gr,V0,UQ,Yg,tok,W13.O8 tok.six wi,um tok.len wi⟩
def Np.good {u:Nat}(h:xpp)(t:xll):Good ps/\xcA≤1712:=by
 have hl:=t.le;show xB4 u
 ·have h:ps=xoN:=h;have:=tG false T;show LE h ⟨sE false hl t.tb,Z5⟩
 ·have h:ps=pf true T:=h;have:=tG true T;show LE h ⟨sE true hl t.tb,Z5⟩
 ·obtain⟨P,w,e⟩:=h;obtain⟨gr,V0,UQ⟩:=dC t.wb t.tb w;have:=mJ P;show xdM ⟨sk gr,Z5⟩
 ·obtain⟨P,L,It,b,w,sl,wi,e⟩:=h;obtain⟨gr,V0,UQ,Yg,tok,hIt,hdec⟩:=o7 t w sl wi;have h1:=lX tok.six P;have h2:=jl 0 hIt;rw [hdec,tok.len] at h2;show ST e ⟨PP q hq,by show xaF aQ⟩;show xbO hq z z
  ·exact W13.Vc hIt q z
  ·exact zw tok gr q z
 ·show xjX h
def Af (S):∀n p,xs0 p=n->xf5 p->∃Pp,xiZ S Pp S.length:=by
 intro n
 induction n using Nat.strongRecOn with
 |ind n ih=>
  intro p hn hp;by_cases e:xtf p
  ·show xar [] e
  ·have LU:xdX p:=FM hp e;have hz:=im LU;show xbE Pp w (ih (xs0 (p+xCR)) Z5 (p+xCR) rfl hz.2) (xef (xqj::Pp) LU w)
def gB (W T):∃Pp,xuC (W++T) Pp W T:=Af _ _ _ rfl (by show xaF Et)
inductive spT (u:Nat) (B:LF) (vs:LT) (H:Hp) (Q:VK) (LX:XK):Prop
 |mk (o p d a:LF) (x:V) (T W:Id) (N T0:Nat) (h0:vs=[xga,xad,Tm,x]) (h1:xly B N T0) (h2:xb0 T0) (h3:XL=xce) (h4:xil) (h5:xll) (h6:∀(ps:xaS) (H':Hp),xpp->xkI B H' ps N (T0+xcA)->xc1 (∀c o,χ=IO->xaj->xfG->xaL=IO)):xuH u vs H Q LX
inductive spC (u:Nat) (C:LF) (vs:LT) (H:Hp) (Q:VK) (LX:XK):Prop
 |mk (o dx a:LF) (x:V) (T W:Id) (h0:vs=[xga,Tm,x]) (h1:H o=xxH) (h2:XL=xce) (h3:xil) (h4:xll) (h5:∀(ps:xaS) (H':Hp),xpp->UV->xtg xcA):spC u C vs H Q LX
def spN (u:Nat):Sp:=λ vs H Q _=>∃o,vs=[xga]/\xmq u H
structure Ry (P:LI)(w:LJ)(K:Frag)(mg:π)(base:LM)(B D C:LF)(u:Nat):Prop where
 cl:xgw
 num:∃f fd,xol K "number" f/\xAk/\xhm (spN u)
 tell:∃f fd,xol K "tell" f/\xmM Jac/\Η 35 Jac (xuH u)
 cost:∃f fd,xol K "cost" f/\xmM xCo/\Η 36 xCo (spC u C)
def WQ:P3 ["self","text","before","bits"] xCo ww:=On
def i9 (F:Χ "cost" "Way.cost" ww)(Z:Yr K mg B)(clW:xgw)(Te:xol K "tell" fT)(bT:Binds K fdT Jac [])(GT:xjd 35 fT fdT Jac (xuH u)):
  Η 36 xCo (spC u C):=by
 have X:=Z.R.X;show xj4 bI MI Z.init;show xiE Ma Z.many TB Z.T;show xaE WQ (λ LS A outer st H vs Q E hr h=>?_);obtain⟨o,dx,a,x,T,W,rfl,ho,ha,hx,tw,k⟩:=h;have OS:xah 2:=SB;have Md:xba:=SB;show xcR (xa7 3 WQ.nd (xry (oK FI TB) OS Z.m bI a7) (aB (eE Uf clW Te GT hr bT .nil a7 (xcl 3 (xbP 1 2)))) (xfJ xaz TB.cl Ma (yp Ma.F TB X))) xbt
 intro p dp np Sv W4;have Vg:(xjO (xp6 dp p) p B dp) p=xjP B dp []:=ad;have s0:xco (xjO (xp6 dp p) p B dp):=λ c o e=>by
  rw [xiq np,xiq Sv];exact e
 show xa8 (xc8 p dp Vg (λ d H1 nd hB kp=>xcC Β));have nd0:υ d:=xka nd;have s1:xou:=λ c o e=>xat xqB xn3
 clear s0 Vg kp;show xfl ⟨_,rfl,o,dx,_,rfl,xcb ho,rfl,_,rfl,_,rfl,_,rfl,o,p,d,a,x,T,W,0,0,rfl,hB,Z9,xkG,xKu,tw,λ ps H2 Vf NY Qk=>Β⟩;have s2:xkS:=λ c o e=>xpr xbr xn3 (xsK nd0)
 obtain⟨SD,r2,k2,Ml⟩:=NY.ob;show xg6 ⟨_,rfl,p,SD,_,rfl,Ml,xik,p,d,_,_,rfl,NY,?_⟩ F6 (k ps _ Vf s2)
structure WC (K:Frag)(mg:π)(C CW:LF):Prop where
 cl:xgw
 mkb:MkB K C
 cost:∃f fd,xuq "cost" "Way.cost" ww xCo f fd
structure Raw (K:Frag)(mg:π)(C CW:LF):Prop where
 W:WC K mg C CW
 m:mg "RawWay"=xgr
 num:∃f fd,xHU "RawWay.number" gh
 tell:∃f fd,xGT "RawWay.tell" jD Jac f fd
structure Run (K:Frag)(mg:π)(C CW:LF):Prop where
 W:WC K mg C CW
 m:mg "RunWay"=xgr
 num:∃f fd,xHU "RunWay.number" gp
 tell:∃f fd,xGT "RunWay.tell" jM Jac f fd
structure Cpy (K:Frag)(mg:π)(C CW:LF):Prop where
 W:WC K mg C CW
 m:mg "CopyWay"=xgr
 num:∃f fd,xHU "CopyWay.number" fz
 tell:∃f fd,xGT "CopyWay.tell" iz Jac f fd
structure Shr (K:Frag)(mg:π)(C CW:LF):Prop where
 W:WC K mg C CW
 m:mg "ShareWay"=xgr
 num:∃f fd,xHU "ShareWay.number" iJ
 tell:∃f fd,xGT "ShareWay.tell" mC Jac f fd
def tN (F:Η k ps sp)
  (h:∀(o p d a:LF) (x:V) (T W:Id) (N T0:Nat) (H:Hp) (Q:VK) (E:XK),xly B N T0->xb0 T0->XL=xce->xil->xll->
   (∀(ps:xaS) (H':Hp),xpp->xkI B H' ps N (T0+xcA)->xc1 (∀c o,χ=IO->xaj->xfG->xaL=IO))->sp [xga,xad,Tm,x] H Q E):Η k ps (xuH u):=by
 refine F.weak λ vs H Q E z=>?_
 obtain⟨o,p,d,a,x,T,W,N,T0,rfl,hB,h0,ha,hx,t,k⟩:=z;exact h o p d a x T W N T0 H Q E hB h0 ha hx t k
def AL (R0:Raw K mg C CW)(S0:Yn K mg B D G):Ry P w K mg base B D C 0:=by
 show Ι N R0.num T R0.tell;show xGu;have GT:xjd 35 _ _ Jac (xuH 0):=tN ((rM (P:=P) (w:=w) (base:=base) T.F S0.Y S0.Zb).mono (k:=35) Z9) λ o p d a x T W N T0 H Q E hB h0 ha hx t k=>
  ⟨o,p,d,a,x,T,W,N,T0,rfl,hB,h0,ha,t.tb,t.one,t.le,hx,t.wb,t.wl,λ H'=>xdp H' rfl⟩
 show xav R0.W.cl (xdE _ N.m N.b (oh N.F)) (xdE _ T.m T.b GT) (xdE _ Co.m Co.b (i9 Co.F S0.Zb R0.W.cl T.m T.b GT))
def A8 (R0:Run K mg C CW)(S0:Yn K mg B D G){fR:LF}{fdR:LK}(Ro:xbs "runs_of" gY xyZ fR fdR):Ry P w K mg base B D C 1:=by
 show Ι N R0.num T R0.tell;show xGu;have GT:xjd 35 _ _ Jac (xuH 1):=tN ((qx (P:=P) (w:=w) (base:=base) T.F Ro S0.Y S0.Zb).mono (k:=35) Z9) λ o p d a x T W N T0 H Q E hB h0 ha hx t k=>
  ⟨o,p,d,a,x,T,W,N,T0,rfl,hB,h0,ha,t.tb,t.one,t.le,hx,t.wb,t.wl,λ H'=>xdp H' rfl⟩
 show xav R0.W.cl (xdE _ N.m N.b (oi N.F)) (xdE _ T.m T.b GT) (xdE _ Co.m Co.b (i9 Co.F S0.Zb R0.W.cl T.m T.b GT))
def A7 (R0:Cpy K mg C CW)(S0:Yn K mg B D G):Ry P w K mg base B D C 2:=by
 show Ι N R0.num T R0.tell;show xGu;have GT:xjd 35 _ _ Jac (xuH 2):=tN ((uR (P:=P) (w:=w) (base:=base) T.F S0.Y S0.Zb).mono (k:=35) Z9) λ o p d a x T W N T0 H Q E hB h0 ha hx t k=>by
  show xbE Pp hw (gB W T) ⟨o,p,d,a,x,T,W,Pp,N,T0,rfl,hB,h0,ha,t.tb,t.one,t.le,hx,t.wb,t.wl,hw,λ H'=>xdp H' (xee Pp hw)⟩
 show xav R0.W.cl (xdE _ N.m N.b (xX N.F)) (xdE _ T.m T.b GT) (xdE _ Co.m Co.b (i9 Co.F S0.Zb R0.W.cl T.m T.b GT))
def Cg (R0:Shr K mg C CW)(S0:Yn K mg B D G):Ry P w K mg base B D C 3:=by
 show Ι N R0.num T R0.tell;show xGu;have GT:xjd 35 _ _ Jac (xuH 3):=tN (vq (P:=P) (w:=w) (base:=base) T.F S0) λ o p d a x T W N T0 H Q E hB h0 ha hx t k=>by
  show xbE Pp hw (gB W T) ⟨o,p,d,a,x,T,W,Pp,N,T0,rfl,hB,h0,ha,t.tb,t.one,t.le,hx,t.wb,t.wl,hw,λ L It b H' sl wi=>xdp H' ⟨Pp,L,It,b,hw,sl,wi,rfl⟩⟩
 show xav R0.W.cl (xdE _ N.m N.b (wT N.F)) (xdE _ T.m T.b GT) (xdE _ Co.m Co.b (i9 Co.F S0.Zb R0.W.cl T.m T.b GT))
noncomputable def cst (u:Nat) (W T:Id):Nat:=open Classical in if h:∃ps,xpp then tots h.choose else 0
def jQ (h:xpp):xlz u=xcA:=by
 have e:∃ps,xpp:=⟨ps,h⟩;unfold cst;rw [dif_pos e,Np.uniq e.choose_spec h]
def gx4 {os:xaX LF}(hi:i<4):([xiH 0,xiH 1,xiH 2,xiH 3]:LT)[i]?=SC xw4:=by
 rcases i with _|_|_|_|i
 all_goals first|rfl|lia
def ix4 {os:xaX LF}(e:Ν ([xiH 0,xiH 1,xiH 2,xiH 3]:LT) v):i<4/\v=xiH i:=by
 have hi:i<4:=xbX e;show WF (gx4 hi) e ⟨hi,xzi e⟩
noncomputable def cs (C0 C1 C2 C3:LF):xaX LF
 |0=>C0
 |1=>C1
 |2=>C2
 |_=>C3
structure VJ (K:Frag)(mg:π)(B D C CW C0 C1 C2 C3:LF):Prop where
 S0:Yn K mg B D C
 runsof:UF "runs_of" gY xyZ
 raw:Raw K mg C0 CW
 run:Run K mg C1 CW
 cpy:Cpy K mg C2 CW
 shr:Shr K mg C3 CW
 ways:UF "ways" yb []
def VJ.ok (Z:VJ K mg B D G CW C0 C1 C2 C3)(hi:i<4):Ry P w K mg base B D (cs C0 C1 C2 C3 i) i:=by
 obtain⟨_,_,Ro⟩:=Z.runsof
 match i,hi with
 |0,_=>exact AL Z.raw Z.S0
 |1,_=>exact A8 Z.run Z.S0 Ro
 |2,_=>exact A7 Z.cpy Z.S0
 |3,_=>exact Cg Z.shr Z.S0
def bp (np:xid)(nd:υ d):xco (xjO (xp6 d p) p C d):=λ c o e=>by
 rw [xiq np,xiq nd];exact e
inductive Wo (C:xaX LF) (vs:LT) (H:Hp) (Q:VK) (LX:XK):Prop
 |mk (h0:vs=[]) (h1:∀(l:LF) (os ds:xaX LF) (H':Hp),Ξ->(∀i,i<4->υ xw4)->xap=Υ [xiH 0,xiH 1,xiH 2,xiH 3]->(∀i,i<4->H' xw4=xjP (C i) (ds i) [])->UV->xao):Wo C vs H Q LX
def Bm:P3 [] [] yb:=On
def tF (F:Χ "ways" "ways" yb)(Z:VJ K mg B D G CW C0 C1 C2 C3):xew [] (Wo (cs C0 C1 C2 C3)):=by
 show xaE Bm (λ LS A outer st H vs Q E hr h=>?_);show xbD rfl k h (xei (aY (aa (gF Z.raw.W.mkb Z7 Z.raw.m) (aa (gF Z.run.W.mkb Z7 Z.run.m) (xc6 (gF Z.cpy.W.mkb Z7 Z.cpy.m) (gF Z.shr.W.mkb Z7 Z.shr.m))))));intro p0 d0 n0 m0 e0 p1 d1 n1 m1 e1 p2 d2 n2 m2 e2 p3 d3 n3 m3 e3;have s0:=xkd C0 n0 m0;show xcF g0 ((xjO (xp6 d0 p0) p0 C0 d0) p0=_) ad (xjO (xp6 d0 p0) p0 C0 d0) H1;have s1:=xkd C1 n1 m1;show xcF g1 ((xjO (xsR H1 d1 p1) p1 C1 d1) p1=_) ad (xjO (xsR H1 d1 p1) p1 C1 d1) H2;have s2:=xkd C2 n2 m2;show xcF g2 ((xjO (xsR H2 d2 p2) p2 C2 d2) p2=_) ad (xjO (xsR H2 d2 p2) p2 C2 d2) H3;have s3:=xkd C3 n3 m3;show xcF g3 ((xjO (xsR H3 d3 p3) p3 C3 d3) p3=_) ad (xjO (xsR H3 d3 p3) p3 C3 d3) H4;have X5:xkS:=λ c o e=>xcb xqB
 have Tf:xco H3:=λ c o e=>xbQ (X5 _ _ e)
 have s04:xco H4:=λ c o e=>xcf (Tf _ _ e)
 have SI:C' H1 H4:=λ c o e=>xzH xbr
 have s24:xt1 H4:=λ c o e=>xzH e
 refine xeY (by show xdy (xjm 4)) l nl;have s5:C' H4 (xcB H4 [.ref p0,.ref p1,.ref p2,.ref p3]):=λ c o e=>(xiq nl).trans e
 refine xd8 (cs p0 p1 p2 p3) (cs d0 d1 d2 d3) _ (xpY s04) (PP i hi) ad (PP i hi) (λ c o e=>xam (s04 _ _ e))
 ·match i,hi with
  |0,_=>exact n0
  |1,_=>exact xka n1
  |2,_=>exact none_of X5 n2
  |3,_=>exact none_of Tf n3
 ·match i,hi with
  |0,_=>exact xam (SI _ _ g0)
  |1,_=>exact xam (s24 _ _ g1)
  |2,_=>exact xam (xcf g2)
  |3,_=>exact xam g3
def ra {x y z:Str}{a b c:LF}(h:xyo x [(y,a),(z,b)] c):(x=y/\c=a)\/(x=z/\c=b):=by
 show xqm List.lookup h h
 ·rename_i e
  cases h;show xaT (xck (by show xAC))
 ·show xqm List.lookup h h
  ·rename_i e
   cases h;show xbB (xck (by show xAC))
  ·cases h
structure Rt (K:Frag)(x qual:Str)(st:LP)(dV:LG)(c f:LF)(fd:LK):Prop where
 ex:∃(oc:LG) (od:xhy) (kV doc pm:LG) (an:xhy) (ct:LG) (osl:xnU),
  fd=xyD x qual dV doc pm an xwl ct/\xkZ f oc od fd osl/\xj8 K xwl qual
 kp:xii
def Rt.ok (F:Rt K x qual st dV c f fd)(S:P3 N ps st)
  (hb:∀(A:LL) (outer:xeO) (s:LH) (H:Hp) (vs:LT) (Q:VK) (E:XK),xvv k (PyProof.Rows.envOfC qual xjZ s.heap.objs.size f xwl)->xd7->
   let X:=(xw5 LZ P w K N xjZ f xwl A outer s H E).nox;∃t,xgh xuU t/\xtb H' xpA Q xiS H) (len:xyA (∀vs H Q E,xd7->xnx)):Η (k+1) ps sp:=by
 obtain⟨oc,od,kV,doc,pm,an,ct,osl,rfl,lk,OW⟩:=F.ex;refine oq lk OW S len λ A outer s H vs Q E hr Pf=>?_
 show xay t h q (hb A outer s H vs Q E hr Pf) ⟨t,h.nox,q⟩
abbrev AT:Pos:=⟨501,27,501,61⟩
abbrev Qf (Tb:LF)(H:Hp):Prop:=O0 Tb AT ("best_way.<locals>."++"<lambda>") H
def _root_.L2.O0.ne (h:O0 Tb p q H)(e:XL=IO)(hn:∀ps,o≠ xpZ):xis a:=by
 rintro rfl;obtain⟨ps,e',_⟩:=h;show WF e e' (hn ps (Fb e'))
def _root_.L2.O0.sq (h:O0 Tb p q H)(hK:xoy)(e:xgC):xis a:=by
 rcases e with(e|⟨o,e⟩)|⟨o,its,n,e,_⟩
 ·exact h.ne e (by intro ps z;cases z)
 ·exact h.ne e (by intro ps z;cases z)
 ·rintro rfl;show xjt hK
def Nn.sameT (h:xil)(t:xhK H)(s:kX Tb H H'):Nn H' x W:=by
 rcases h with h|⟨a,e,h⟩
 ·show xaT h
 ·show xbB ⟨a,e,xci (t.ne h (by intro ps z;cases z)) h⟩
inductive WJ (Tb:LF) (C:xaX LF) (vs:LT) (H:Hp) (Q:VK) (LX:XK):Prop
 |mk (a:LF) (x:V) (T W:Id) (h0:vs=[Tm,x]) (h1:XL=xce) (h2:xil) (h3:xll) (h4:xhK H) (h5:∀(i:Nat) (o dx:LF) (H':Hp),i<4->υ o->H' o=xeJ (C i) []->(∀j,j<4->xlz i≤xlz j/\(j<i->xlz i<xlz j))->kX Tb H H'->xua->xbf xga):WJ Tb C vs H Q LX
def AC:P3 Jae Jae jy:=On
def zK (F:Rt K "best_way" "best_way" jy dV c f fd)(Z:VJ K mg B D G CW C0 C1 C2 C3)(hm:xgZ "min")(hC:xm8)(hB:xmD)(hK:xoy):
  Η 39 Jae (WJ Tb (cs C0 C1 C2 C3)):=by
 show xoY Wy Z.ways (F.ok AC λ A outer st H vs Q E hr h=>?_) _;obtain⟨a,x,T,W,rfl,ha,hx,tw,hT,k⟩:=h;have Md:xba:=SB;have hn:=xlX;refine xei (zx (k:=36) (y:="way") (Nc:=["text","before"]) (js:=[0,1]) (cl:=[("text",xBf 1),("before",xBf 1+1)]) (P:=Tb) (c:=c) hn hr Z7 hm
  ⟨rfl,rfl,rfl,Z8,rfl,Z7,λ x c h=>?c0,λ x hx=>?c1,rfl,λ i x j h1 h2=>?c2⟩ rfl hC hB Z7 (λ pm cd ct u=>Z7)
  (λ f' c' s H=>pC (P:=P) (w:=w) (K:=K) (mg:=mg) (base:=base) (k:=36) rfl rfl rfl rfl rfl Uf (hr.in1.deeper _) (xbP 1 2))
  (xbe (ou (tF Wy.F Z) Md Z7 Wy.m Wy.F.kp Wy.b .nil a7)))
 case c0=>
  rcases ra h with⟨rfl,rfl⟩|⟨rfl,rfl⟩<;>rfl
 case c1=>
  rcases hx with hx|hx
  ·have m':(x,NameKind.cell)∈([xlR "way",("before",.free),("text",.free)]:xsq):=xt2;simp at m'
  ·have m':(x,NameKind.free)∈([xlR "way",("before",.free),("text",.free)]:xsq):=xt2;have e:x="before"\/x="text":=by simpa using m'
   rcases e with rfl|rfl<;>exact xa4
 case c2=>rcases slotsL h1 h2 with⟨rfl,rfl⟩|⟨rfl,rfl⟩<;>exact xuA rfl (λ c h=>h)
 refine xcC (λ l os ds H1 nl no hl ho s1=>⟨l,_,λ i=>M2 (xlz i),rfl,.inl xGl,Nat.zero_lt_succ _,xB9,λ c xs h=>(xB9).sq hK h,Sc H2 sT UO⟩);have NX:=xB9;have ho2:∀i,i<4->H2 xw4=xjP (cs C0 C1 C2 C3 i) (ds i) []:=λ i hi=>xpq (NX.ne (ho i hi) (by intro ps z;cases z)) (ho i hi)
 refine⟨λ i v H' hv sm=>?_,λ i v H' hv XX sm=>?_⟩
 ·show xbM hi (ix4 hv);have WK:=Z.ok (P:=P) (w:=w) (base:=base) hi;obtain⟨fc,fdc,mc,bc,Gc⟩:=WK.cost;refine⟨_,rfl,xw4,_,ds i,[],fc,fdc,_,_,rfl,xep (ho2 i hi),rfl,WK.cl,mc,Gc,bc,_,rfl,_,rfl,xw4,ds i,a,x,T,W,rfl,xep (ho2 i hi),xep (xpq (NX.ne xkG (by intro ps z;cases z)) xkG),((xKu).sameT NX sT).same sm,tw,λ ps Xe Vf sm2=>⟨?_,sm2⟩⟩;show vN xcA=vN (xlz i);rw [jQ Vf]
 ·show xbM hi (ix4 hv);refine k i xw4 (ds i) H' hi (no i hi) (xep (ho2 i hi)) xuK (λ c o n e=>xep (xpq n xbr)) (UO.same sm);show xdm z1 z2 (XX j hj) (KU.mp z1) (λ hji=>Iv.mp (z2 hji))
universe K33
namespace CK
noncomputable def T (w p s:Nat):Nat:=((s*2)%2^w)^^^xcI (s.testBit (w-1)) p 0
def ye (a b:Nat):(a^^^b)*2=(a*2)^^^(b*2):=by
 have h:= @Nat.shiftLeft_xor_distrib 1 a b;rw [Lh,Lh,Lh] at h;show xtC
def CN (w p a b:Nat):T w p (a^^^b)=T w p a^^^T w p b:=by
 unfold T;rw [ye,Nat.xor_mod_two_pow,Nat.testBit_xor];cases ha:a.testBit (w-1)<;>cases hb:b.testBit (w-1)
 ·simp
 ·simp [JP]
 ·simp;rw [JP,KR (b*2%2^w),<-JP]
 ·simp;rw [JP (a*2%2^w),KR p,JP (b*2%2^w),Lp,Nat.xor_zero]
def DQ {w p s:Nat}(hp:p<2^w):T w p s<2^w:=by
 unfold T;refine Gp (xwC xks) ?_
 split
 ·exact hp
 ·exact xks
def Do {w p s:Nat}(hw:0<w)(hp:p%2=1)(hs:s<2^w)(h:T w p s=0):s=0:=by
 unfold T at h;cases hb:s.testBit (w-1) with
 |true=>
  rw [hb] at h;show xbd;have h2:Pi ((s*2%2^w^^^p).testBit 0):=by
   rw [Nat.testBit_xor,Nat.testBit_mod_two_pow];have e1:τ ((s*2).testBit 0):=by show xbc Nat.testBit_zero
   have e2:Pi (p.testBit 0):=by rw [Nat.testBit_zero];simp [hp]
   rw [e1,e2];simp
  rw [h] at h2;simp at h2
 |false=>
  rw [hb] at h;show xbd;show xfP w' w' (w=w'+1) ⟨w-1,Z4⟩;have h3:s<2^w':=by
   have MX:τ (s.testBit w'):=hb;refine Je (xdr hle)
   have e:Pi (s.testBit w'):=by
    rw [J4];have:s/2^w'=1:=by
     have h4:s/2^w'<2:=IJ (by show WF Gm hs hs);have h5:ω (s/2^w'):=(xLU).mpr Z4;omega
    show xpu this
   show xjt MX
  have h6:s*2<2^(w'+1):=by rw [Gm];omega
  rw [HF h6] at h;omega
noncomputable def Tn (w p:Nat):xaX xct
 |0,s=>s
 |n+1,s=>T w p (Tn w p n s)
def ZR (w p n a b:Nat):Tn w p n (a^^^b)=Tn w p n a^^^Tn w p n b:=by
 induction n with
 |zero=>rfl
 |succ n ih=>show T w p (Tn w p n (a^^^b))=_;rw [ih,CN];rfl
def Qr {w p n s:Nat}(hp:p<2^w)(hs:s<2^w):Tn w p n s<2^w:=by
 cases n with
 |zero=>exact hs
 |succ n=>exact DQ hp
def ZS {w p n s:Nat}(hw:0<w)(hp:p%2=1)(Ml:p<2^w)(hs:s<2^w)(h:Tn w p n s=0):s=0:=by
 induction n with
 |zero=>exact h
 |succ n ih=>exact ih (Do hw hp (Qr Ml hs) h)
def B (w p s b:Nat):Nat:=Tn w p 8 (s^^^(b*2^(w-8)))
def G (w p:Nat):xi3 xct
 |0,s,_=>s
 |n+1,s,V=>B w p (G w p n s (V/256)) (V%256)
def G_lt {w p n s V:Nat}(hp:p<2^w)(hs:s<2^w):G w p n s V<2^w:=by
 cases n with
 |zero=>exact hs
 |succ n=>exact DQ hp
universe CK
namespace K33.Ck
open PySem L2 QQ BP
seal PE PA PS PSs PT PW PG PI
abbrev tM:LP:=top 34
abbrev sCInit:LP:=xaM 35 0
abbrev BG:LP:=xaM 35 1
abbrev qC:LP:=xaM 35 2
abbrev jJ:LP:=top 36
structure Txt (K:Frag)(mg:π):Prop where
 R:xlj
 tabA:∃d,mg "ALL_ONES"=xmP/\S2 K d 255 65535
 tabL:∃d,mg "LOWER_BITS"=xmP/\S2 K d 29 45
def om (a):∀b,a+b=(a^^^b)+2*(a&&& b):=by
 induction a using Nat.strongRecOn with
 |_ a ih=>
  intro b;by_cases h0:a=0
  ·subst h0;simp
  ·have h:=ih (a/2) (Nat.bitwise_rec_lemma h0) (b/2);have e1:(a^^^b)/2=a/2^^^b/2:=Nat.xor_div_two_pow (n:=1);have e2:(a&&& b)/2=a/2&&& b/2:=Nat.and_div_two_pow (n:=1);have m1:(a^^^b)%2=a%2^^^b%2:=Nat.xor_mod_two_pow (n:=1);have m2:(a&&& b)%2=a%2&&& b%2:=Nat.and_mod_two_pow (n:=1);have d1:=JM (a^^^b) 2;have d2:=JM (a&&& b) 2;rw [e1,m1] at d1;rw [e2,m2] at d2;clear e1 e2 m1 m2 ih h0;have k:a%2+b%2=(a%2^^^b%2)+2*(a%2&&& b%2):=by
    rcases KN a with e|e<;>rcases KN b with f|f<;>rw [e,f]<;>rfl
   have:=JM a 2;have:=JM b 2;generalize a/2^^^b/2=u,a/2&&& b/2=v,a%2^^^b%2=x,a%2&&& b%2=y,a^^^b=m,a&&& b=n,a/2=q,b/2=r,a%2=t,b%2=z at*;lia
def jo (a b:Nat):Builtin.bitXor (Ty a) xqO=M2 (a^^^b):=by
 have e:Builtin.bitXor (Ty a) xqO=Ty a+xqO-2*xI0 a xqO:=by
  show xaP Builtin.bitXor PyProof.Rows.bitOr_and;lia
 rw [e,J5 Z5 xe4,E6,E6];show xbu (om a b)
def WP (w p:Nat):Prop:=(w=8/\p=29)\/(w=16/\p=45)
def WP.facts (h:WP w p):8≤w/\w≤16/\p%2=1/\p<2^w:=by
 rcases h with⟨rfl,rfl⟩|⟨rfl,rfl⟩<;>decide
def Ea (hw:0<w)(hs:s<2^w):CK.T w p s=xir (s/2^(w-1)) 1 (s*2%2^w^^^p) (s*2%2^w):=by
 show xaP CK.T J4;have h2:s/2^(w-1)<2:=IJ (by
  have:2^(w-1)*2=2^w:=by rw [<-Gm];congr 1;exact KW hw
  exact EJ hs this.symm)
 show xa3 (s/2^(w-1)) 1 h h
 ·have e:s/2^(w-1)=0:=Nat.lt_one_iff.mp h;show xbc e
 ·have e:s/2^(w-1)=1:=Fa (Nat.lt_succ_iff.mp h2) h;show xbc e
def crc (w p s:Nat)(R:Id):Nat:=R.foldl (xD5 p) s
def pU (w p s)(R)(b):crc w p s (R++[b])=xD5 p (crc w p s R) b:=by
 show xaP crc HH;rfl
def DC:∀n R,R.length=n->xa6 R->crc w p s R=CK.G w p n s xsJ:=by
 intro n
 induction n with
 |zero=>
  intro R h _;have e:R=[]:=Gq.mp h;subst e;rfl
 |succ n ih=>
  intro R h hb;obtain⟨A,b,rfl⟩:∃A b,R=A++[b]:=by
   rcases List.eq_nil_or_concat R with e|⟨A,b,e⟩
   ·subst e;show xbd
   ·exact⟨A,b,by show xAC⟩
  have hbb:xaq b:=xh3 Z6;rw [Et,Ir] at h;rw [pU,ih A (Nat.add_right_cancel h) λ x hx=>xoU (xld hx),BP.Oe];show _=xD5 p (CK.G w p n s ((xCM*256+b)/256)) ((xCM*256+b)%256);have e1:(xCM*256+b)/256=xCM:=Z5;have e2:(xCM*256+b)%256=b:=Z5;rw [e1,e2]
def xf {R:Id}(hp:p<2^w)(hs:s<2^w)(hb:xm2):crc w p s R<2^w:=by
 show LE (DC R.length R rfl hb) (CK.G_lt hp hs)
inductive S6 (vs:LT) (H:Hp) (Q:VK) (LX:XK):Prop
 |mk (n p s b:Nat) (h0:vs=[xbz,xd1,xdH]) (h1:WP n p) (h2:s<2^n) (h3:xaq b) (h4:xmq (CK.B n p s b) H):S6 vs H Q LX
def Oy:P3 ["state","byte","wide","step","goes_out"] ["state","byte","wide"] tM:=On
def zU (F:Ζ "with_byte" tM ["state","byte","wide"])(X:xbn):xew ["state","byte","wide"] S6:=by
 obtain⟨dA,mA,tA⟩:=X.tabA;show xa0 dL mL tL X.tabL (F.F.ok Oy λ LS A outer st H vs Q E hr h=>?_)
 intro _;obtain⟨n,p,s,b,rfl,hw,hs,hb,q⟩:=h;obtain⟨h8,h16,hodd,hp⟩:=hw.facts;refine xbV (xa7 0 Oy.nd (aq rW Uf (aq di SZ (xrf XV))) (xkH (cY rfl X.R.X.range xfs) 3 Oy.nd (xaQ 4 Oy.nd (aq io Uf (xrf XV)) (xeX 0 Oy.nd (aq ii (xgI di Uf) (aR nD (xxa dA Z7 mA) XV xnj)) (xeA bG xan ak (xxT 0 Oy.nd (aq rW Uf (aR nD (xxa dL Z7 mL) XV xnj))))))) Uf)
 have e8:xai-8=M2 (n-8):=Z5;have e1':xai-1=M2 (n-1):=Z5;refine⟨_,rfl,_,rfl,_,rfl,_,_,rfl,rfl,?_⟩
 try dsimp only
 show ST e8 ⟨_,_,rfl,rfl,xxv xe4 Z5,_,_,rfl,rfl,?_⟩
 try dsimp only
 rw [m7,jo];have hs0:s^^^b*2^(n-8)<2^n:=by
  refine xxA ?_;have:b*2^(n-8)<2^8*2^(n-8):=xL6 xks hb;rw [<-HI,show 8+(n-8)=n by lia] at this;show xfM
 refine⟨8,rfl,Z9,Z9,xAj xd5 0 (n:=8) (λ i σ H2=>∃v3 v4,σ=[SL (xwR n i (s^^^b*2^(n-8))),xmX,xo9,v3,v4]/\H2=H) (xmy none none) ?_ ?_⟩
 ·rintro i σ H2 hi ⟨v3,v4,rfl,rfl⟩;have LU:=CK.Qr (n:=i) hp hs0;have eT:xwR n (i+1) (s^^^b*2^(n-8))=CK.T n p (xwR n i (s^^^b*2^(n-8))):=rfl;rw [eT];generalize xwR n i (s^^^b*2^(n-8))=z at*;have hz16:z<2^16:=Ey LU (xxx h16);have go:=Ea (p:=p) (Nat.zero_lt_of_lt h8) LU;refine⟨_,rfl,_,rfl,_,_,rfl,rfl,?_⟩
  try dsimp only
  show ST e1' (xgB _ _ rfl Z5 ?_)
  try dsimp only
  rw [mx];have em:Ty z*xuD xb4=M2 (z*2):=m7 z 1;refine⟨_,rfl,_,_,rfl,rfl,⟨Z9,Z9,Z5⟩,_,rfl,dA,_,_,_,rfl,rfl,.inl tA,?_⟩;rcases hw with⟨rfl,rfl⟩|⟨rfl,rfl⟩
  ·refine .inl (xgB rfl _ _ rfl ?_)
   try dsimp only
   rw [em,xaA (Builtin.bitAnd (M2 (z*2)) 255) (M2 (z*2%2^8)) (eu (z*2) 8)];refine xkh _ _ xk4
   ·have N6:z/2^(8-1)=1:=by have:=V.int.inj xiR;exact Ik ((λ {m n}=>Lc.mp) this.symm)
    rw [EU N6] at go;refine⟨_,rfl,_,rfl,dL,_,_,_,rfl,rfl,.inl tL,.inl (xgB rfl _ _ rfl ?_)⟩
    try dsimp only
    rw [xaA (xI1 (z*2%2^8) 29) (M2 (z*2%2^8^^^29)) (jo _ 29),go];exact xmy _ _
   ·have N6:¬z/2^(8-1)=1:=λ e=>h1 (Ez (xE7 Z5))
    show xqL (EI N6) go go (xmy _ _)
  ·refine .inr (xgB rfl _ _ rfl ?_)
   try dsimp only
   rw [em,xaA (Builtin.bitAnd (M2 (z*2)) 65535) (M2 (z*2%2^16)) (eu (z*2) 16)];refine xkh _ _ xk4
   ·have N6:z/2^(16-1)=1:=by have:=V.int.inj xiR;exact Ik ((λ {m n}=>Lc.mp) this.symm)
    rw [EU N6] at go;refine⟨_,rfl,_,rfl,dL,_,_,_,rfl,rfl,.inl tL,.inr (xgB rfl _ _ rfl ?_)⟩
    try dsimp only
    rw [xaA (xI1 (z*2%2^16) 45) (M2 (z*2%2^16^^^45)) (jo _ 45),go];exact xmy _ _
   ·have N6:¬z/2^(16-1)=1:=λ e=>h1 (Ez (xE7 Z5))
    show xqL (EI N6) go go (xmy _ _)
 ·rintro σ H2 ⟨v3,v4,rfl,rfl⟩;exact xa9 q
def o9:¬(xCA="state"):=Z8
noncomputable def fC (n s:Nat):xev:=[("wide",xdH),("state",xbz)]
def gW (n s):xec "state" s (xH5 n [])=fC n s:=by
 show(xda (xCA="state") (xCA,xdH) [("state",xbz)])=_;show Τ xxw
def xz (n s s'):xec "state" s' (fC n s)=fC n s':=by
 show(xda (xCA="state") (xCA,xdH) (xcI (xcm "state"="state") [(xcm "state",vN s')] _))=_;rw [xxw,xag];rfl
def oH (n s):xcO (fC n s) "wide"=xo9:=by
 rw [<-gW,ao,xxw,ao,xag]
def ku (n s):xcO (fC n s) "state"=xjp:=by
 rw [<-gW,ao,xag]
def fC_no (n s){m:Str}(h1:xdJ (m="state"))(h2:xdJ (m="wide")):xlP (fC n s) m:=by
 rw [<-gW,ao,xoq,ao,xmx];rfl
def xW (n s):(fC n s).length<1000:=by show xcE 2
structure CC (K:Frag)(mg:π)(C:LF):Prop where
 cl:xgw
 nW:xcH "wide"
 nS:xcH "state"
 m:mg "Check"=xgr
inductive spCInit (C:LF) (vs:LT) (H:Hp) (Q:VK) (LX:XK):Prop
 |mk (p dx:LF) (n q:Nat) (h0:vs=[xad,xdH]) (h1:WP n q) (h2:xbh=xxH) (h3:∀H':Hp,H' p=xoa n (2^n-1)->xc1 (∀b o,xb7=IO->xgx->xde=IO)):xF7 vs H Q LX
def scCInit:P3 xBM xBM sCInit:=On
def ok_cinit {f fW:LF}(F:xJR sCInit dV f fd)(W:xqY fW Qn)(T:CC K mg C)(X:xbn):Η 2 xBM xF7:=by
 have GW:xpk fW Qn Jab ND:=fj W X.R.X;show xa0 dA mA tA X.tabA (F.ok scCInit λ LS A outer st H vs Q E hr h=>?_)
 intro _;obtain⟨p,dx,n,q,rfl,hw,hp,k⟩:=h;show TD (xgL (xvX (xAr (xnz (xaK GW W (xcl 1 xHK))) (ax mw SZ (xxa dA Z7 mA) Z7))) (xeN (xc9 SZ) (xc9 (aR nD (xxa dA Z7 mA) SZ xnj)))) ⟨_,rfl,_,_,_,rfl,_,rfl,?_⟩;have e1:Pi (xhG xlg xai&&xhG xai 16):=by
  obtain⟨h8,h16,_⟩:=hw.facts;rw [Ez (Int.toNat_le.mp h8),xoi];rfl
 show ST e1 xhY;have hn:xai=8\/xai=16:=by rcases hw with⟨rfl,_⟩|⟨rfl,_⟩<;>simp
 show xcc ⟨_,rfl,dA,_,_,_,rfl,rfl,tA,hn,_,rfl,xhY⟩ ⟨_,rfl,_,rfl,p,C,dx,_,rfl,hp,T.cl,T.nW,(by show xcE 0),?_⟩ ⟨_,rfl,dA,_,_,_,rfl,rfl,.inl tA,?_⟩;have fin:∀z,z=M2 (2^n-1)->xkA (xch (xch H (xH5 n [])) (putF "state" (.int z) (xH5 n []))):=λ z ez=>by
  rw [ez,xaA (putF "state" (V.int (M2 (2^n-1))) (xH5 n [])) (fC n (2^n-1)) (gW n _)];refine xdp ad λ b o e hb=>?_
  rw [xg9,xg9];exact e
 rcases hw with⟨rfl,rfl⟩|⟨rfl,rfl⟩
 ·show xaT ⟨rfl,_,rfl,p,C,dx,_,rfl,ad,T.cl,T.nS,(by show xcE 1),fin _ rfl⟩
 ·show xbB ⟨rfl,_,rfl,p,C,dx,_,rfl,ad,T.cl,T.nS,(by show xcE 1),fin _ rfl⟩
inductive YB (C:LF) (vs:LT) (H:Hp) (Q:VK) (LX:XK):Prop
 |mk (p dx a:LF) (n q s:Nat) (B:Id) (h0:vs=[xad,Tm]) (h1:WP n q) (h2:s<2^n) (h3:xbh=xoa n s) (h4:XL=xfy) (h5:xa6 B) (h6:∀H':Hp,H' p=xoa n (crc n q s B)->xc1 (∀b o,xb7=IO->xgx->xde=IO)):YB C vs H Q LX
def YC:P3 (xnV "row" "byte") Jaj BG:=On
def we {f fN fR fW fY:LF}(F:Χ "add" "Check.add" BG)(N:xBr bW Jag fN SA)(R:xbs "is_row" jL Jag fR fdR)(W:xqY fW Qn)
  (Y:xbs "with_byte" tM ["state","byte","wide"] fY fdY) (T:CC K mg C) (X:xbn):Η 5 Jaj (YB C):=by
 have GN:xjd 4 fN SA Jag spNeedRow:=bL N X.R;have GY:xpk fY fdY ["state","byte","wide"] S6:=zU Y X;show xaE YC (λ LS A outer st H vs Q E hr h=>?_);obtain⟨p,dx,a,n,q,s,B,rfl,hw,hs,hp,ha,hb,k⟩:=h;obtain⟨h8,h16,hodd,hq⟩:=hw.facts;have Md:xba:=SB;show xcR (af (xuz (xaK GN N xdb) 2 YC.nd (xc9 (xcs GY Y (aa Α (xcl 2 xs2)))))) ⟨_,rfl,a,B,rfl,ha,hb,PP l hl⟩;have npl:p≠l:=xqP hl;refine xfC l (xhx ad) (bZ (K:=K) (a:=l) (xs:=xff) (λ i σ H2=>∃v:xca,σ=[xd3,xbA,v]/\H2 p=xoa n (crc n q s xyQ)/\xjn=xfy/\∀b o,xb7=IO->xgx->H2 b=IO)
  ⟨none,rfl,by show Re npl hp,ad,λ b o e _=>by show xgp hl e⟩ (λ i σ H2 _ z9=>by show xFP e z9 (K'.of e)) ?_ ?_)
 ·rintro i y σ H2 hi ⟨v,rfl,Ml,Mu,O3⟩;show xdt b MN (cD hi);have O6:=xh3 xHs;have LU:crc n q s xyQ<2^n:=xf hq hs λ x hx=>xoU xDo
  show xcc ⟨_,rfl,p,C,dx,_,_,rfl,Ml,T.cl,T.nS,ku _ _,_,rfl,_,rfl,p,C,dx,_,_,rfl,Ml,T.cl,T.nW,oH _ _,n,q,_,b,rfl,hw,LU,O6,?_⟩ ⟨_,rfl,p,C,dx,_,rfl,Ml,T.cl,T.nS,xW _ _,?_⟩ ⟨xmX,rfl,?_,by show Re npl.symm Mu,λ c o e hc=>by show Re hc (O3 c o e hc)⟩;rw [ad,xz,cB MN,pU]
 ·rintro σ H2 ⟨v,rfl,Ml,Mu,O3⟩;rw [Es,Fy] at Ml;exact k H2 Ml O3
inductive T2 (C:LF) (vs:LT) (H:Hp) (Q:VK) (LX:XK):Prop
 |mk (p dx:LF) (n s:Nat) (h0:vs=xaV) (h1:xbh=xoa n s) (h2:Q xbz H):T2 C vs H Q LX
def zp:xdc qC:=On
def oF (F:Χ "value" "Check.value" qC)(T:CC K mg C):xhm (T2 C):=by
 show xaE zp (λ LS A outer st H vs Q E hr h=>?_);obtain⟨p,dx,n,s,rfl,hp,k⟩:=h;refine xei Α;exact⟨_,rfl,p,C,dx,_,_,rfl,hp,T.cl,T.nS,ku _ _,k⟩
def chk (n q:Nat)(B:Id):Nat:=crc n q (2^n-1) B
inductive QI (vs:LT) (H:Hp) (Q:VK) (LX:XK):Prop
 |mk (a:LF) (n q:Nat) (B:Id) (h0:vs=[Tm,xdH]) (h1:WP n q) (h2:XL=xfy) (h3:xa6 B) (h4:xbC (UV->xtg (chk n q B))):QI vs H Q LX
def QO:P3 ["row","wide","check"] ["row","wide"] jJ:=On
structure Chk (K:Frag)(mg:π)(C:LF):Prop where
 X:xbn
 T:CC K mg C
 whole:xCa cb Jab
 isrow:UF "is_row" jL Jag
 needrow:xGp bW Jag
 withb:UF "with_byte" tM ["state","byte","wide"]
 init:∃f fd dV,xJR sCInit dV f fd/\xmM xBM/\xjL C
 add:∃f fd,xuq "add" "Check.add" BG Jaj f fd
 value:∃f fd,xhq "value" "Check.value" qC
def jE {P:LI}{K:Frag}{mg:π}{f:LF}{fd:LK}{dV:LG}(F:xk7 "check_of" "check_of" jJ dV f fd)(Z:Chk K mg C):Η 6 ["row","wide"] QI:=by
 obtain⟨X,T,⟨_,_,W⟩,⟨_,_,R⟩,⟨_,_,N⟩,⟨_,_,Y⟩,⟨_,_,_,FI,bI,M⟩,⟨_,_,Ad⟩,⟨_,_,Va⟩⟩:=Z;show xaE QO (λ LS A outer st H vs Q E hr h=>?_);obtain⟨a,n,q,B,rfl,hw,ha,hb,k⟩:=h;have Md:xba:=SB;have NL:xrL:=SB;show xcR (xa7 2 QO.nd (fF M (xKC W T X) NL Z7 T.m bI .nil a7 xdb) (aB (xwQ XV Ad (we Ad.F N R W Y T X) hr xbj)) (xfJ XV T.cl Va (oF (mg:=mg) Va.F T))) (xa9 (λ x dx nx ndx nex=>?_));have s0:xco (xcL (xp6 dx x) x C dx []):=λ b o e=>by
  rw [xiq nx,xiq ndx];exact e
 refine⟨x,dx,n,q,rfl,hw,ad,λ H1 Q6 kp=>xhA⟩;have s1:xou:=λ b o e=>kp b o (s0 b o e) xs6
 refine⟨_,rfl,x,dx,_,rfl,Q6,xzx _,_,rfl,x,dx,a,n,q,_,B,rfl,hw,?_,Q6,xkG,hb,Sc H2 Ya Qk⟩
 ·have:=Hd (n:=n) (show 0<2 from Z9);exact HB this
 have s2:xkS:=λ b o e=>Qk b o (s1 b o e) xs6
 refine⟨_,rfl,x,dx,_,rfl,Ya,xzx _,x,dx,n,_,rfl,Ya,k H2 s2⟩
abbrev Bx:LP:=top 37
abbrev dW:LP:=top 38
abbrev gD:LP:=top 100
abbrev qv:LP:=xaM 101 0
abbrev xZ:LP:=xaM 101 1
structure FnK (K:Frag)(mg:π)(x:Str)(st:LP)(ps:xae)(f:LF)(fd:LK):Prop where
 F:∃dV,xk7 x x st dV f fd
 m:mg x=xdB
 b:xoA
 d:∃t,xzk [xbq 16]
theorem FnK.kp (F:FnK K mg x st ps f fd):xii:=F.F.elim (xqF h.kp)
noncomputable def two (n:Nat):Id:=[n/256,n%256]
def sld (R:Id):Id:=R++xiM R
def LW (a b:Nat):Id:=[a,b,xjv [a,b]]
def wp8:WP 8 29:=.inl xj0
def kO:WP 16 45:=xv7
def gi (h:WP n q)(hb:xm2):chk n q R<2^n:=by
 show xpL hq h.facts (xf hq (by have:=Hd (n:=n) (show 0<2 from Z9);exact HB this) hb)
def gL (h:n<65536):xdv (two n):=by
 intro b hb;simp only [two,ET,Kt,or_false] at hb;lia
def ur (hb:xm2):xdv xDp:=λ b h=>xnv h xh3 (gL (gi kO hb) b)
def cg (ha:xaq a)(hb:xaq b):xno c xbm c:=by
 intro c hc;have h8:xaq (xjv [a,b]):=gi wp8 (λ c hc=>by simp at hc;lia);simp only [LW,ET,Kt,or_false] at hc;lia
structure VS (K:Frag)(mg:π)(C:LF):Prop where
 Z:Chk K mg C
 checkof:∃f fd,FnK K mg "check_of" jJ ["row","wide"] f fd
 two:UF "in_two_bytes" Bx xnH
 withcheck:UF "with_check" dW Jal
 headrow:UF "head_row" gD xzG
inductive Yt (vs:LT) (H:Hp) (Q:VK) (LX:XK):Prop
 |mk (n:Nat) (h0:vs=[xdH]) (h1:n<65536) (h2:∀l,Ξ->xrJ (xbG H l (two n))):Yt vs H Q LX
def DJ:P3 xnH xnH Bx:=On
def rg (F:Ζ "in_two_bytes" Bx xnH):xew xnH Yt:=by
 show xbo DJ (λ LS A outer st H vs Q E hr h=>?_);show xgX n rfl hn k;show xut (aY (xc6 (xgI io Uf) (xgI ii Uf))) ⟨_,rfl,_,_,rfl,rfl,(by show xnE (xcU≤8)),_,rfl,_,_,rfl,rfl,(by show xgE),xe7⟩;have e1:xcG/2^Int.toNat 8=M2 (n/256):=by
  show xcG/256=_;lia
 have e2:Builtin.bitAnd xcG 255=M2 (n%256):=by
  have:=eu n 8;show xfM
 try dsimp only
 rw [e1,e2];exact xd8 nl
inductive OI (vs:LT) (H:Hp) (Q:VK) (LX:XK):Prop
 |mk (a:LF) (R:Id) (h0:vs=xbK) (h1:XL=xkT) (h2:xa6 R) (h3:xb0 R.length) (h4:∀l H',Ξ->UV->xap=xaf xDp->xao):OI vs H Q LX
def qe:P3 Jal Jal dW:=On
def eN (F:Ζ "with_check" dW Jal)(Y:VS K mg C):Η 7 Jal OI:=by
 show xIw Y.checkof;obtain⟨_,FC⟩:=Co.F;obtain⟨_,_,Tw⟩:=Y.two;show xeL t16 B16 Co.d qe (λ LS A outer st H vs Q E hr h=>?_)
 intro _;obtain⟨a,R,rfl,ha,hb,hl,k⟩:=h;have Md:xba:=SB;show xcc (xei (xe1 Uf (xcs (rg Tw) Tw (xbe (bq (jE FC Y.Z) hr Z7 Co.m Co.kp B16 (.cons (a:=V.int 16) xa4 .nil) a7 xbj))))) ⟨_,rfl,_,rfl,a,16,45,R,rfl,kO,ha,hb,PP H1 s1⟩ (xfC (xlM R) (gi kO hb) xAJ);have s2:=xcQ (xiM R) n1;have Qe:(xbG H1 l1 (xiM R)) l1=xaf (xiM R):=ad;have Q2:=xbQ xkG;have NK:=xdP;show xas (xbG H1 l1 (xiM R)) H2 ⟨a,l1,_,_,rfl,rfl,Q2,Qe,bF (by rw [Es];show xmV (R.length+2);lia),xe7⟩;exact xpm (xpY NK) (NK.trans xgd) (by rw [ad,<-EG];rfl)
inductive QF (vs:LT) (H:Hp) (Q:VK) (LX:XK):Prop
 |mk (x y:Nat) (h0:vs=[vN x,vN y]) (h1:xaq x) (h2:xaq y) (h3:∀l H',Ξ->UV->xap=xaf (LW x y)->xao):QF vs H Q LX
def u6:P3 xzG xzG gD:=On
def gm (F:Ζ "head_row" gD xzG)(Y:VS K mg C):Η 7 xzG QF:=by
 show xIw Y.checkof;obtain⟨_,FC⟩:=Co.F;show xbo u6 (λ LS A outer st H vs Q E hr h=>?_);obtain⟨x,y,rfl,hx,hy,k⟩:=h;show xut (aY (xog (xtG 1 (xhd (jE FC Y.Z) hr Co.m Co.kp Co.b a7 (xhT (aY xHO)))))) ⟨_,rfl,_,rfl,_,rfl,_,rfl,(by show xgE),xAJ⟩;have s1:=xaR [vN x,vN y] n1;have Qe:(xtM [vN x,vN y]) l1=Υ [vN x,vN y]:=ad;show xas (xtM [vN x,vN y]) H1 ⟨l1,8,29,[x,y],rfl,wp8,Qe,λ c hc=>by simp at hc;omega,λ H2 s2=>xeY (by show xdy 3) l nl⟩;exact xpm (xpY xdP) (xy1 xgd) ad
universe K33.Ck
namespace L2
open PySem PySem.Spec PySem.Calls PyProof.Rows QQ PySem.W
def uV {K:Frag}(hP:X.prog=P)(hw:X.w=w)(hK:X.K=K)(hmg:X.mg=mg)(UN:X.base=base)(he:xl4 o)(hr:xju)
    (ht:Μ (xxS o m []=(do
      let ov<-xoK
      xu5
      let xwN f<-xva [ov] ov m pl
      xxm f [] xxn))):
    xxR o m [] (wE P w K mg base k m ta iW):=by
  subst hP hw hK hmg UN
  intro LQ s σ H Q I h
  refine IB (pl:=pl) (xq8 _ I h u) ht
  obtain⟨x,H1,I1,rx,a,C,dx,fs,f,fd,ps,sp,ex,ea,l,c,hm,F,hb,q⟩:=z9
  subst ex
  obtain rfl:u=xcP:=rx
  refine dG I1 ea c hm l ?_
  exact Jb (first:=xbK) I1.kIn hm.kp (iN (us:=xbK) (vs:=xbK) F hr hb .nil a7 I1 (xlU rfl) q)
universe L2
namespace K33.Ck
open PySem L2 QQ W17 W16 BP
seal PE PA PS PSs PT PW PG PI
abbrev iF:LP:=top 104
def BQ:¬(xsW="count"):=Z8
def De:¬(xsW="inside"):=Z8
def Dp:¬(xLm="inside"):=Z8
noncomputable def fH (a b c:Nat):xev:=[("way",vN a),("count",xd1),("inside",xh7)]
def oI (a b c):xec "inside" c (xec "count" b (xec "way" a []))=fH a b c:=by
 show(xec "inside" c (xda (xsW="count") (xsW,vN a) [("count",xd1)]))=_;rw [EI BQ];show(xda (xsW="inside") (xsW,vN a) (xda (xLm="inside") (xLm,xd1) [("inside",xh7)]))=_;rw [EI De,EI Dp];rfl
def Dn (a b c):xcO (fH a b c) "way"=SL a:=by rw [<-oI,ao,EI De,ao,EI BQ,ao,xag]
def DK (a b c):xcO (fH a b c) "count"=xmX:=by rw [<-oI,ao,EI Dp,ao,xag]
def CV (a b c):xcO (fH a b c) "inside"=SL c:=by rw [<-oI,ao,xag]
def DE (a b c){m:Str}(h1:xdJ (m="inside"))(h2:xdJ (m="count"))(h3:xdJ (m="way")):xlP (fH a b c) m:=by
 rw [<-oI,ao,xoq,ao,xmx,ao,EI h3];rfl
structure CH (K:Frag)(mg:π)(C:LF):Prop where
 cl:xgw
 nW:xcH "way"
 nC:xcH "count"
 nI:xcH "inside"
 m:mg "Head"=xgr
 init:∃f fd,xfW K "Head.__init__" qv f/\xmM ["self","way","count","inside"]/\xjL C
 row:∃f fd,xhq "row" "Head.row" xZ
inductive Ui (C:LF) (vs:LT) (H:Hp) (Q:VK) (LX:XK):Prop
 |mk (p dx a b c:Nat) (h0:vs=[xad,vN a,xd1,xh7]) (h1:xbh=xxH) (h2:xbC (H' p=xb2 (fH a b c)->xc1 (∀b o,xb7=IO->xgx->xde=IO))):Ui C vs H Q LX
def yw:P3 ["self","way","count","inside"] ["self","way","count","inside"] qv:=On
def oU (F:xfW K "Head.__init__" qv f)(T:CH K mg C):xew ["self","way","count","inside"] (Ui C):=by
 show xaE yw (λ LS A outer st H vs Q E hr h=>?_);obtain⟨p,dx,a,b,c,rfl,hp,k⟩:=h;show TD (xoc SZ (xeN (xc9 XV) (xc9 xaz))) ⟨_,rfl,_,rfl,p,C,dx,[],rfl,hp,T.cl,T.nW,(by show xcE 0),?_⟩;show TD ⟨_,rfl,_,rfl,p,C,dx,_,rfl,ad,T.cl,T.nC,(by show xcE 1),?_⟩ ⟨_,rfl,_,rfl,p,C,dx,_,rfl,ad,T.cl,T.nI,(by show xpu (show xaJ (xec "count" b (xec "way" a [])) 2 by show xaJ (xda (xsW="count") (xsW,vN a) [("count",xd1)]) 2;show Τ (EI BQ))),?_⟩;exact xdp (LD ad (xvK l (xGm C dx l) (oI a b c))) λ d o e hd=>by rw [ai hd,ai hd,ai hd];exact e
inductive WD (C:LF) (vs:LT) (H:Hp) (Q:VK) (LX:XK):Prop
 |mk (p dx a b c:Nat) (h0:vs=xaV) (h1:xbh=xb2 (fH a b c)) (h2:a<4) (h3:xb6) (h4:xph) (h5:xaq c) (h6:∀l H',Ξ->UV->xap=xaf (LW (64*a+b-1) c)->xao):WD C vs H Q LX
def B4:xdc xZ:=On
def yF (F:Χ "row" "Head.row" xZ)(T:CH K mg C)(Y:VS K mg CC'):xhw 8 (WD C):=by
 show xoY Hr Y.headrow (F.ok B4 λ LS A outer st H vs Q E hr h=>?_) _;obtain⟨p,dx,a,b,c,rfl,hp,ha,MN,O6,hc,k⟩:=h;refine xei (xaK (gm Hr Y) Hr (xc6 (xrf (xb1 (xqV Α) Α)) Α));have e1:Ty 64*M2 a+xdj-1=M2 (64*a+b-1):=xpW (Ki MN);refine⟨_,rfl,p,C,dx,_,_,rfl,hp,T.cl,T.nW,Dn _ _ _,_,_,rfl,rfl,xwv,_,rfl,p,C,dx,_,_,rfl,hp,T.cl,T.nC,DK _ _ _,_,_,rfl,rfl,_,_,rfl,rfl,_,rfl,p,C,dx,_,_,rfl,hp,T.cl,T.nI,CV _ _ _,?_⟩
 try dsimp only
 show LE e1 ⟨_,_,rfl,Z5,hc,k⟩
def PB (W T R:Id):Prop:=∃i ps Rb,i<4/\(∀j,j<4->xlz i≤xlz j/\(j<i->xlz i<xlz j))/\Np i W T ps/\Pk (xug 0) xcA Rb/\R=sld (xfV (xhP (64*i)-1)++Rb)
def PB.facts {W T R:Id}(h:PB W T R)(t:xll):xa6 R/\xza 69:=by
 obtain⟨i,ps,Rb,hi,hm,hp,hr,rfl⟩:=h;have hlen:=hr.len;have h0:xlz 0=8*T.length:=by rw [jQ (u:=0) (ps:=xoN) rfl,dS]
 have h1:=(hm 0 Z9).1;rw [h0,jQ hp] at h1;have hl:=t.le;have N6:=t.one;refine xbW (ur (xaw (xnv hb (cg Z5 Z5 b) (hr.byt b))));unfold sld;rw [Et,Et];show 3+Rb.length+2≤69;lia
def jw (t:xua)(s:kX Tb H H')(n:W1 xap):Ξ:=by
 cases e:H l with
 |none=>rfl
 |some o=>
  by_cases z:l=Tb
  ·subst z;obtain⟨ps,h,_⟩:=t;show ρ h n n
  ·show ρ (xci z e) n n
structure Bks (K:Frag)(mg:π)(B D G CW C0 C1 C2 C3 c CK Mc:LF):Prop where
 Z:VJ K mg B D G CW C0 C1 C2 C3
 Y:VS K mg CK
 T:CH K mg Mc
 min:xgZ "min"
 best:∃f fd dV,Rt K "best_way" "best_way" jy dV c f fd/\mg "best_way"=xdB/\xmM Jae/\xuO K Jae xDn
inductive PN (Tb:LF) (vs:LT) (H:Hp) (Q:VK) (LX:XK):Prop
 |mk (a:LF) (x:V) (T W:Id) (h0:vs=[Tm,x]) (h1:XL=xce) (h2:xil) (h3:xll) (h4:xhK H) (h5:∀(l:LF) (R:Id) (H':Hp),Ξ->PB W T R->xap=xkT->kX Tb H H'->xua->xao):PN Tb vs H Q LX
def MV:P3 ["text","before","way","bits","body","head"] Jae iF:=On
def oS (F:xk7 "put_block" "put_block" iF dV f fd)(Z:Bks K mg B D G CW C0 C1 C2 C3 c CK Mc)(hC:xm8)(Vl:xmD)(hK:xoy):Η 40 Jae (PN Tb):=by
 obtain⟨fB,fdB,dB,FB,mB,bB,_⟩:=Z.best;have ZB:=Z.Z.S0.Zb;have X:=ZB.R.X;show xj4 bI MI ZB.init;show xiE Ro ZB.row TB ZB.T;obtain⟨_,_,FH,bH,MH⟩:=Z.T.init;have GH:=oU (P:=P) (w:=w) (base:=base) FH Z.T;show xiE Hw Z.T.row GR (yF (P:=P) (w:=w) (base:=base) Hw.F Z.T Z.Y);show xoY Wc Z.Y.withcheck (F.ok MV λ LS A outer st H vs Q E hr h=>?_) _;obtain⟨a,x,T,W,rfl,ha,hx,tw,hT,k⟩:=h;have Md:xba:=SB;have OS:xah 2:=SB;have Vv:xah 7:=SB;have Xt:xah 8:=SB;have hr35:xah 35:=SB;show xgk (xgc 2 MV.nd (xhd (zK FB Z.Z Z.min hC Vl hK) hr mB FB.kp bB a7 xHO) (xc5 3 MV.nd (xry (oK (mg:=mg) FI TB) OS ZB.m bI a7) (aB (pC (P:=P) (w:=w) (K:=K) (mg:=mg) (base:=base) (k:=35) rfl rfl rfl rfl rfl XV hr35 (xcl 3 xHO))) (xaQ 4 MV.nd (xfJ xaz TB.cl Ro (ux Ro.F TB X)) (xaQ 5 MV.nd (fF MH GH OS Z7 Z.T.m bH .nil a7 (aa (uV (P:=P) (w:=w) (K:=K) (mg:=mg) (base:=base) (k:=1) rfl rfl rfl rfl rfl XV Md) (xc6 xzn xwm))) (xbU (aD (eN Wc Z.Y) Vv Wc (xbe (xe1 (bz xcr Z.T.cl Hw GR Xt) xan)))))))) ⟨_,rfl,_,rfl,a,x,T,W,rfl,ha,hx,tw,hT,λ i o dx H1 hi no ho XX sT NX=>Β⟩;have WK:=Z.Z.ok (P:=P) (w:=w) (base:=base) hi;obtain⟨fT,fdT,mT,bT,GT⟩:=WK.tell;obtain⟨fN,SA,mN,bN,GN⟩:=WK.num;have VC:=xpq (hT.ne ha (by intro ps z;cases z)) ha;have Q6:=hx.sameT hT sT;refine xbt
 intro p dp np Sv W4;have Vg:(xjO (xsR H1 dp p) p B dp) p=xjP B dp []:=ad;have s0:=xkd B np Sv;show xa8 (xc8 p dp Vg (λ d H2 nd NY Qk=>xcC Β));have nd0:xgW d:=xka nd;have NK:C' H1 H2:=λ c o e=>xpr xqB xn3
 clear s0 Vg Qk nd;show xfl ⟨_,rfl,o,_,dx,[],fT,fdT,_,_,rfl,NK _ _ ho,rfl,WK.cl,mT,GT,bT,_,rfl,_,rfl,_,rfl,o,p,d,a,x,T,W,0,0,rfl,NY,Z9,NK _ _ VC,Q6.same NK,tw,λ ps H3 Vf Qm Mq=>Β⟩;have YH:C' H1 H3:=λ c o e=>xaW (NK _ _ e) xn3 (xsK nd0)
 rw [F6] at Qm;have hgd:=(Vf.good tw).2;clear NY Mq NK;refine xbt
 obtain⟨OF,r3,k3,MR⟩:=Qm.ob;show xa8 ⟨_,rfl,p,OF,_,rfl,MR,xik,p,d,_,_,rfl,Qm,xdC hgd,λ lr Rb H4 NP Vz row s34=>Β⟩;have SI:=YH.trans s34;have hlen:=row.len;have hcst:=(XX 0 Z9).1;rw [jQ (u:=0) (ps:=xoN) rfl,dS,jQ Vf] at hcst;have Vu:=tw.le;clear MR Qm s34 YH NP;refine xcx ⟨_,rfl,o,_,dx,[],fN,SA,_,_,rfl,SI _ _ ho,rfl,WK.cl,mN,GN,bN,o,rfl,_,rfl,a,_,rfl,Φ (SI _ _ VC),_,rfl,lr,_,rfl,Φ Vz,?_⟩
 intro h dh nh ndh neh;have s0:=xkd Mc nh ndh;show xa8 ⟨h,dh,i,(xnm).length,(xyP).length,rfl,ad,λ H5 hh Qj=>xcC Β⟩;have s45:C' H4 H5:=λ c o e=>xlm xqB (xsK nh)
 rw [Es,Es] at hh;have hlr5:=s45 _ _ Vz;have s15:=SI.trans s45;clear s0 Qj Vz s45 SI;show TD ⟨_,rfl,h,dh,_,rfl,hh,DE _ _ _,h,dh,i,T.length,Rb.length,rfl,hh,hi,tw.one,tw.le,Z5,λ l6 H6 nl6 YG UI=>?_⟩ ⟨_,rfl,l6,lr,_,_,rfl,rfl,UI,YG _ _ hlr5,bF (by rw [Es,Es];show xmV (3+Rb.length);lia),PP l7 n7⟩;have s67:=xaR (Κ (xfV (xhP (64*i)-1))++xyP) n7;have h77:(xbi H6 l7 (Κ (xfV (xhP (64*i)-1))++xyP)) l7=xaf (xfV (xhP (64*i)-1)++Rb):=by rw [ad,EG]
 show xiU s17 ((s15.trans YG).trans s67) (xbi H6 l7 (Κ (xfV (xhP (64*i)-1))++xyP)) H7;show xjM hone tw.one ⟨l7,_,rfl,h77,xaw (xnv hb (cg Z4 Z4 b) (row.byt b)),by rw [Et];show xb0 (3+Rb.length);lia,λ l H8 nl s78 hl=>?_⟩ (xpm H8 (jw (NX.same s17) (λ c o n e=>s17 _ _ (xpq n e)) nl) ⟨i,ps,Rb,hi,XX,Vf,row,rfl⟩ hl (λ c o n e=>s78 _ _ (s17 _ _ (xpq n e))) (NX.same (s17.trans s78)))
universe K33.Ck
namespace K33
open PySem L2 QQ W17 W16 BP
seal PE PA PS PSs PT PW PG PI
abbrev fV:LP:=top 28
abbrev rh:LP:=xaM 30 0
abbrev kT:LP:=xaM 30 1
abbrev kW:LP:=xaM 30 2
abbrev qX:LP:=xaM 30 5
def bt (R:Id)(t s:Nat):Nat:=xxt/2^(Θ-(t+s))%2^s
def M9:P3 ["row","place","size","end","bytes_to_end","number","byte"] Jai fV:=On
def lO (F:Ζ "bits_at" fV Jai)(O:xCC fZ Jah fO Yk)(T:xbn):Η 2 Jai Og:=by
 have GO:xpk fO Yk Jah spOnes:=mO O;show xbo M9 (λ LS A outer st H vs Q E hr h=>?_);obtain⟨a,B,p,s,rfl,hB,hb,Vf,hs,k⟩:=h;show xcc (xgc 3 M9.nd (xGH XV) (xaQ 4 M9.nd (xsL (xhU xaz)) (xa7 5 M9.nd ak (xuz (xxN Uf (xsL SZ) xan) 6 M9.nd (xxT 5 M9.nd (aq xg (xgI di xcr) xkw))) (aq ii (aq io xcr (xgi (xqV xan) xaz)) (xaK GO O xeW))))) ⟨_,rfl,_,rfl,_,_,rfl,rfl,?_⟩ ⟨_,rfl,_,_,rfl,rfl,_,_,rfl,rfl,⟨by decide,by decide⟩,?_⟩;have e1:(Ty p+Ty s+7)/8=M2 ((p+s+7)/8):=by lia
 have e2:Ty p/8=M2 (p/8):=by lia
 have e3:Ty p+Ty s=xjH s:=by lia
 have h1:p/8≤(p+s+7)/8:=by lia
 have h2:xf3 ((p+s+7)/8):=by lia
 try dsimp only
 rw [e1,e3];refine⟨_,rfl,_,rfl,_,_,rfl,rfl,⟨by decide,by decide⟩,_,rfl,_,rfl,_,rfl,a,_,rfl,xy7,PP l hl⟩
 try dsimp only
 rw [e2,zd h1 h2];have hc:xdv (xj3 ((p+s+7)/8) (p/8)):=λ b MX=>xh3 (Fg (Ft MX))
 have hcl:xbg (xj3 ((p+s+7)/8) (p/8)) 4:=by rw [EE,EH];lia
 show xiU key (BP.WZ hb Vf) (xj3 ((p+s+7)/8) (p/8)) C;have sm:xco (xfb xyR):=λ b o e=>by show xgp hl e
 refine xfC l (xhx ad) (xoD xd5 K l xyR (λ i σ H2=>∃v,σ=[xbA,xpa,xjp,SL (p+s),SL ((p+s+7)/8),SL (xyg i),v]/\H2=xfb xyR) (xd9 none rfl) (λ i σ H2 _ z9=>by show xB1 e;exact by show xdM xCH) ?_ ?_)
 ·rintro i y σ H2 hi ⟨v,rfl,rfl⟩;show xdt b MN (cD hi);have O6:xaq b:=hc b xHs;have Nf:i<C.length:=xbX MN;have hv:xyg i<256^(C.take i).length:=BP.Ox λ b MX=>hc b (Fg MX)
  have hv2:xyg i<256^4:=Ey hv (He (by decide) (by show xaF EH));refine⟨_,rfl,_,_,rfl,rfl,Ψ (by decide) (by decide),_,rfl,_,_,rfl,rfl,?_⟩
  ·have:xjm 256^4<2^64:=by decide
   lia
  ·have e:=qz (xyg i) b 8 O6;have e':xyg i*2^8+b=xyg (i+1):=by rw [cB MN,BP.Oe]
   try dsimp only
   show WF e' e (xee xmX (xvK z [xBJ a,xpa,xjp,SL (p+s),SL ((p+s+7)/8),some (V.int z),xmX] e))
 ·rintro σ H2 ⟨v,rfl,rfl⟩
  try dsimp only
  rw [Es,Fy];have e4:xlg*M2 ((p+s+7)/8)-xjH s=M2 (8*((p+s+7)/8)-(p+s)):=by lia
  refine⟨_,rfl,_,rfl,_,_,rfl,rfl,.inl ⟨by decide,by decide⟩,_,rfl,_,_,rfl,rfl,?_⟩
  try dsimp only
  show ST e4 ⟨_,_,rfl,rfl,by lia,_,rfl,s,rfl,by lia,_,_,rfl,rfl,?_⟩
  try dsimp only
  rw [mx,eu,key];exact xdp sm
structure L5 (C:LF)(H:Hp)(p d:LF)(R:Id)(t:Nat):Prop where
 ob:∃dx,xbh=xb2 xoB
 ls:H d=xkT
 by':xm2
 le:t≤Θ
structure XG (K:Frag)(mg:π)(C:LF):Prop where
 cl:xgw
 nH:xcH "held"
 nT:xcH "taken"
inductive T5 (C:LF) (vs:LT) (H:Hp) (Q:VK) (LX:XK):Prop
 |mk (p dx a:LF) (R:Id) (h0:vs=[xad,Tm]) (h1:xbh=xxH) (h2:XL=xkT) (h3:xa6 R) (h4:∀(d:LF) (H':Hp),υ d->xkM H' p 0->xc1 (∀b o,xb7=IO->xgx->xde=IO)):T5 C vs H Q LX
def y4:P3 Jaj Jaj rh:=On
def wj (F:xfW K "BitReader.__init__" rh f)(N:xBr bW Jag fN SA)(Y:xlj)(T:XG K mg C):Η 5 Jaj (T5 C):=by
 have GN:xjd 4 fN SA Jag spNeedRow:=bL N Y;show xaE y4 (λ LS A outer st H vs Q E hr h=>?_);obtain⟨p,dx,a,R',rfl,hp,ha,hb,k⟩:=h;show TD (xoc (xaK GN N xdb) (af xHN)) ⟨_,rfl,a,R',rfl,ha,hb,PP d hd⟩;have OP:p≠d:=xqP hd;show TD ⟨_,rfl,p,C,dx,[],rfl,(by show Re OP hp),T.cl,T.nH,(by show xcE 0),_,rfl,p,C,dx,_,rfl,ad,T.cl,T.nT,(by show xcE 1),?_⟩ (k d _ hd ⟨xdx (LD ad (xvK l (xGm C dx l) (tU d 0))),by rw [xnF,xnF,ad],hb,xac⟩ λ b o e hb=>?_)
 rw [xg9,xg9,xiq hd];exact e
inductive spLeft (C:LF) (vs:LT) (H:Hp) (Q:VK) (LX:XK):Prop
 |mk (p d:LF) (R:Id) (t:Nat) (h0:vs=xaV) (h1:xkM H p t) (h2:xmq (Θ-t) H):xGg vs H Q LX
def AU:xdc kW:=On
def nz (F:Χ "left" "BitReader.left" kW)(T:XG K mg C)(X:xbn):xhm xGg:=by
 show xaE AU (λ LS A outer st H vs Q E hr h=>?_);obtain⟨p,d,R,t,rfl,⟨⟨dx,hp⟩,hd,hb,ht⟩,q⟩:=h;show xcc (xei (xgi (xqV xHy) Α)) ⟨_,rfl,p,C,dx,_,_,rfl,hp,T.cl,T.nH,kH _ _,d,_,rfl,Φ hd,_,_,rfl,rfl,.inl ⟨by decide,by decide⟩,?_⟩ ⟨_,rfl,p,C,dx,_,_,rfl,hp,T.cl,T.nT,fu _ _,_,_,rfl,rfl,?_⟩;have e:xlg*xgQ xiB-Ty t=M2 (Θ-t):=by show xcY
 try dsimp only
 show xdM q
inductive QZ (C:LF) (vs:LT) (H:Hp) (Q:VK) (LX:XK):Prop
 |mk (p d:LF) (R:Id) (t s:Nat) (h0:vs=[xad,xbz]) (h1:xkM H p t) (h2:s≤24) (h3:t+s≤Θ) (h4:xbC (xkM H' p (t+s)->(∀c o,χ=IO->xaj->xaL=IO)->xtg (xm0 s))):QZ C vs H Q LX
def WL:P3 (xnV "size" "number") xso kT:=On
def tq (F:Χ "take" "BitReader.take" kT)(S:xbs "need_size" cN Jah fS fdS)(W:xqY fW' Qn)
  (B:xbs "bits_at" fV Jai fB fdB) (O:xCC fZ Jah fO Yk) (L:xj6 C "left" "BitReader.left" kW Jaa fL fdL) (T:XG K mg C) (X:xbn):
  xov xso (QZ C):=by
 have GS:xjd 2 fS fdS Jah spNeedSize:=iQ S W X;have GB:xjd 2 fB fdB Jai Og:=lO B O X;have GL:xpk fL fdL Jaa xGg:=nz L.F T X;show xaE WL (λ LS A outer st H vs Q E hr h=>?_);obtain⟨p,d,R,t,s,rfl,S0,hs,P9,q⟩:=h;obtain⟨⟨dx,hp⟩,hd,hb,ht⟩:=id S0;have OP:p≠d:=aG hp hd (by show Ε);have Md:xba:=hr.mono (by decide);have OS:xah 2:=hr.mono (by decide);show xcc (xmg (aD GS OS S xdb) (ac (xeA c8 SZ (xfJ Uf T.cl L GL) aO)
  (xa7 2 WL.nd (aD GB OS B (aa Α (aa Α xdb))) (xc9 (xb1 Α SZ)) XV))) (xfR s hs ?_) ⟨_,rfl,_,rfl,p,dx,_,rfl,hp,xGv (by decide+kernel) (by decide+kernel),p,d,R,t,rfl,S0,_,_,rfl,rfl,_,rfl,aU (xdr h0) xb8⟩
 ·have:=EA h0;omega
 refine⟨_,rfl,p,C,dx,_,_,rfl,hp,T.cl,T.nH,kH _ _,_,rfl,p,C,dx,_,_,rfl,hp,T.cl,T.nT,fu _ _,_,rfl,d,R,t,s,rfl,hd,hb,P9,hs,PP H1 sm⟩;have MJ:=xep hp;refine⟨_,rfl,p,C,dx,_,_,rfl,MJ,T.cl,T.nT,fu _ _,_,rfl,_,_,rfl,rfl,_,rfl,p,C,dx,_,rfl,MJ,T.cl,T.nT,B0 _ _,?_⟩;have e1:Ty t+Ty s=M2 (t+s):=by lia
 try dsimp only
 rw [e1,BA];show xcR rfl (q _ ⟨xdx ad,by show Re OP.symm (xep hd),hb,P9⟩ λ c o e n1=>?_)
 show Re n1 (sm c o e)
inductive Um (C:LF) (vs:LT) (H:Hp) (Q:VK) (LX:XK):Prop
 |mk (p d:LF) (R:Id) (t:Nat) (h0:vs=xaV) (h1:xkM H p t) (h2:Θ-t<8) (h3:xsJ%2^(Θ-t)=0) (h4:xbC (UV->xbf xsy)):Um C vs H Q LX
def Uu:xr1 (xjY "left") qX:=On
def wB (F:Χ "at_end" "BitReader.at_end" qX)
  (B:xbs "bits_at" fV Jai fB fdB) (O:xCC fZ Jah fO Yk) (L:xj6 C "left" "BitReader.left" kW Jaa fL fdL) (T:XG K mg C) (X:xbn):
  xhw 3 (Um C):=by
 have GB:xjd 2 fB fdB Jai Og:=lO B O X;have GL:xpk fL fdL Jaa xGg:=nz L.F T X;show xaE Uu (λ LS A outer st H vs Q E hr h=>?_);obtain⟨p,d,R,t,rfl,S0,h8,hv,q⟩:=h;obtain⟨⟨dx,hp⟩,hd,hb,ht⟩:=id S0;have Md:xba:=hr.mono (by decide);show xcc (xgc 1 Uu.nd (xfJ Uf T.cl L GL) (xbU (xAq (cJ dQ SZ ak xmk) (cJ bG (xaK GB B (aa Α (aa Α xdb))) ak xmk)))) ⟨_,rfl,p,dx,_,rfl,hp,xGv (by decide+kernel) (by decide+kernel),p,d,R,t,rfl,S0,?_⟩ ⟨_,rfl,_,_,rfl,rfl,_,rfl,?_⟩;have e0:Pi (xft (M2 (Θ-t)) 8):=Ez (by lia)
 try dsimp only
 show xmG e0 xor ⟨_,rfl,p,C,dx,_,_,rfl,hp,T.cl,T.nH,kH _ _,_,rfl,p,C,dx,_,_,rfl,hp,T.cl,T.nT,fu _ _,_,rfl,d,R,t,Θ-t,rfl,hd,hb,by lia,by lia,PP H1 sm⟩;have e1:Θ-(t+(Θ-t))=0:=by omega
 try dsimp only
 rw [e1,Nat.pow_zero,Nat.div_one];show xg6 xhA hv (q H1 sm)
universe K33
namespace K33.Ck
open PySem L2 QQ W17 W16 BP
seal PE PA PS PSs PT PW PG PI
abbrev lU:LP:=top 39
abbrev gO:LP:=top 102
abbrev dP:LP:=top 103
abbrev iL:LP:=top 105
structure Yq (K:Frag)(mg:π)(C Mc:LF):Prop where
 Y:VS K mg C
 T:CH K mg Mc
 N:xlj
 need:xGp bW Jag
 headrow:UF "head_row" gD xzG
 three:xcK "HEAD_BYTES" 3
 twoB:xcK "CHECK_BYTES" 2
 most:xcK "MOST_INSIDE" 64
structure Xf (K:Frag)(mg:π)(cM cH cK cT:LF):Prop where
 mM:mg "BadMark"=SC cM
 mH:mg "BadHead"=SC cH
 mK:mg "BadCheck"=SC cK
 mT:mg "BadTail"=SC cT
 xM:xqM cM
 xH:xqM cH
 xK:xqM cK
 xT:xqM cT
inductive Sd (Mc cH:LF) (vs:LT) (H:Hp) (Q:VK) (E:XK):Prop
 |mk (x:LF) (a b c:Nat) (h0:vs=[xbk]) (h1:xhp=xaf [a,b,c]) (h2:xno y [a,b,c] y) (h5:(c=xjv [a,b]/\xph/\(b=0->a=0)/\(b=0->xqZ)/\(xb6->∀p dx H',xid->UV->H' p=xeJ Mc (fH (a/64) (a%64+1) b)->xbf xad))\/(xcp (xjv [a,b])/\xbC (UV->xjg cH))):Sd Mc cH vs H Q E
def Oj:P3 ["row","told","first","inside"] Jal gO:=On
def kY (F:Ζ "head_of" gO Jal)(Z:Yq K mg C Mc)(Er:xuI K cM cH cK cT):xi2 P w K P w 32 f fd Jal (Sd Mc cH):=by
 show xiE N Z.need GN (bL (P:=P) (w:=w) (base:=base) N Z.N);obtain⟨_,_,Hr⟩:=Z.headrow;show xj4 bI MI Z.T.init;show xn1 T Z.N.X t3 h3 Z.three;show xnh t64 MO Z.most (F.F.okE Oj λ LS A outer st H vs Q E hr h=>?_) _;obtain⟨x,a,b,c,rfl,hx,UM,hh⟩:=h;have ha:=UM a ER;have hb8:=UM b (xkg ER);show xw1 hu;have Vv:xah 7:=SB;have OS:xah 2:=SB;refine xbV (xc5 1 Oj.nd (aD GN SB N xbj) (xeA qc (xxZ SZ) (xaO 3 h3 t3) aO) (xaQ 2 Oj.nd (aR a6 SZ ak xnj) (xc5 3 Oj.nd (aR a6 SZ ak xnj) (xeA (rK hu) SZ (aD (gm Hr Z.Y) Vv Hr (xbP 2 3)) (gR c6 xlX Z7 Er.mH Er.xH eM)) (ac (aH (PW.pt (xAs (xm7 bG XV) (xm7 bG xaz))) (xbU dO) aA)
  (xiQ (xvX (xAr (xm7 bG xaz) (xeK c8 xaz (xaO 64 MO t64)))) (fF MI (oU (mg:=mg) FI Z.T) OS Z7 Z.T.m bI .nil a7 (aa (xsL XV) (aa (xhU (xsM XV)) (xeH 3)))))))))
 show xfx g ⟨_,rfl,_,[a,b,c],rfl,hx,UM,λ l hn=>xdL⟩ g;have s1:=xcQ [a,b,c] hn;have Vh:(xbG H l [a,b,c]) l=xaf [a,b,c]:=ad;show xas (xbG H l [a,b,c]) H1 ⟨_,rfl,l,_,rfl,Φ Vh,rfl,_,rfl,xhY⟩;show xcc ⟨_,rfl,l,_,_,_,rfl,rfl,K'.of Vh,xib,?_⟩ ⟨_,rfl,l,_,_,_,rfl,rfl,K'.of Vh,xic,?_⟩ ⟨_,rfl,_,rfl,_,rfl,a,b,rfl,ha,hb8,λ l2 H2 n2 s2 Rj=>?_⟩;have NK:=xdP;have Mu:=xbQ Vh;refine⟨l,l2,xrt [a,b,c],xrt xbm,rfl,rfl,K'.of Mu,K'.of Rj,_,rfl,?_⟩;rcases hh with⟨rfl,hb,TJ,k0,k1⟩|⟨hc,k⟩
 rotate_left
 ·show LE (F7 (xzJ (Int.ofNat_inj.1 (Fb (show xDg (M2 c) (M2 (xjv [a,b])) from congrArg (λ l:xkk=>l[2]?) z))))) (cU (xdp NK))
 show ST (Ez (xcd (List.map (λ b:Nat=>xqO) [a,b,xjv [a,b]]) (List.map (λ b:Nat=>xqO) xbm))) xhY;have v0:∀{n},(V.int xcG=xkq)<->n=0:=λ {n}=>⟨No (Int.ofNat_inj.1 (V.int.inj z)),No (by show Τ z)⟩
 show xfx g xdL g;rcases Iz b with UN|MN
 ·exact xiY _ _ (λ _=>xiY _ _ (λ _=>k0 UN _ NK) (xmv (Ez (v0.2 UN)) h)) (xmv (Ez (v0.2 (TJ UN))) h)
 show TD (xnn R g) ((λ(J:R [some (.ref x),some (.ref l),some (vN a),some (vN b)] H2)=>?_) xdL)
 ·exact xiY _ _ (λ _=>xiY _ _ (xmv (v0.1 xbJ) (Iy MN)) (λ _=>J)) (λ _=>bi J)
 clear g;show xcc (xiY _ _ (xmv (v0.1 xbJ) (Iy MN)) xb8) ⟨_,rfl,_,_,rfl,rfl,_,rfl,xAH (Int.ofNat_lt.1 xbJ) (xFh hb) xb8⟩ ⟨_,rfl,_,_,rfl,rfl,xeS,_,rfl,_,_,rfl,rfl,(by show xdG 64),_,_,rfl,rfl,_,rfl,?_⟩;intro h dh nh ndh neh;have s0:=xkd Mc nh ndh;exact⟨h,dh,a/64,a%64+1,b,rfl,ad,λ H5 hh Qj=>xcC (k1 MN h dh H5 (none_of NK nh) (λ c o e=>xlm (xhW (NK _ _ e)) (ae (NK _ _ e) nh)) hh)⟩
inductive Uk (Mc:LF) (vs:LT) (H:Hp) (Q:VK) (LX:XK):Prop
 |mk (p dx:LF) (a b c:Nat) (h0:vs=xaV) (h1:xbh=xeJ Mc (fH a b c)) (h2:xmq (c+5) H):Uk Mc vs H Q LX
def zB:P3 xwg xwg dP:=On
def qd (F:Ζ "block_size" dP xwg)(Z:Yq K mg C Mc):xew xwg (Uk Mc):=by
 obtain⟨t3,h3⟩:=Z.three;show xeL t2 h2 Z.twoB zB (λ LS A outer st H vs Q E hr h=>?_)
 intro _;obtain⟨p,dx,a,b,c,rfl,hp,k⟩:=h;show xut (xb1 (xb1 (xaO 3 h3 t3) Α) (xaO 2 h2 t2)) ⟨_,rfl,p,Mc,dx,_,_,rfl,hp,Z.T.cl,Z.T.nI,CV _ _ _,_,_,rfl,rfl,_,_,rfl,rfl,?_⟩;have e:Ty 3+xk2+2=M2 (c+5):=by lia
 try dsimp only
 show xdM k
inductive PZ (Mc:LF) (vs:LT) (H:Hp) (Q:VK) (LX:XK):Prop
 |mk (x:LF) (a b:Nat) (r:Id) (h0:vs=[xbk]) (h1:xhp=xaf (xbm++r)) (h2:xaq a) (h3:xph) (h4:xb6) (h5:xtL (b+2)) (h6:∀p dx H',xid->UV->H' p=xeJ Mc (fH (a/64) (a%64+1) b)->xbf xad):PZ Mc vs H Q LX
def P5:P3 ["block","head"] xGC iL:=On
def pV (F:Ζ "need_head" iL xGC)(O:xbs "head_of" gO Jal fO Yk)(Bs:xbs "block_size" dP xwg fB fdB)(Z:Yq K mg C Mc)(Er:xuI K cM cH cK cT):
  xi2 P w K P w 33 f fd xGC (PZ Mc):=by
 have T:=Z.N.X;show xnh t3 h3 Z.three (F.F.okE P5 λ LS A outer st H vs Q E hr h=>?_) _;obtain⟨x,a,b,r,rfl,hB,ha,hb,MN,hl,k⟩:=h;have Md:xba:=SB;refine xgL (xeA dQ xl7 (xaO 3 h3 t3) aO) (xc5 1 P5.nd (xhd (kY O Z Er) hr O.m O.F.kp O.b c6 (xbe (xw8 Uf bQ (xaO 3 h3 t3)))) (xeA g9 SZ dO aO) (xiQ (xeA qc xl7 (xcs (qd Bs Z) Bs xdb) aO) SZ))
 have el:xaJ (Κ (xbm++r)) (b+5):=by rw [Es,Et,hl];show 3+_=_;lia
 refine⟨_,rfl,x,_,rfl,Φ hB,_,_,rfl,rfl,_,rfl,xxc xb8⟩
 ·show xaD h xbJ el h;lia
 refine⟨_,rfl,_,rfl,x,_,rfl,xy7,PP l hn⟩;have ec:xuV (Κ (xbm++r)) none 3=Κ xbm:=dU _ 3;rw [ec];have s1:=xcQ xbm hn;refine⟨l,a,b,_,rfl,ad,cg ha (xkD hb),.inl ⟨rfl,hb,No (by lia),No (by lia),λ _ p dx H2 np s2 hp=>?_⟩⟩;show xjM NK xdP (xiY _ _ (xnp z (EA z) (by show Ε)) xb8) ⟨_,rfl,x,_,rfl,Φ (NK _ _ hB),_,rfl,p,dx,_,_,_,rfl,hp,rfl,_,rfl,?_⟩;rw [el,xnX];exact xDT (k p dx H2 (xkb np) NK hp)
def wL (n d):HT.sIx n d (some (-2))=n-2:=by
 unfold HT.sIx;simp;lia
def A5 (B:Id):xuV xff none (-2)=Κ xAi:=by
 unfold cutV;rw [wL,HT.PH,Hm,IT,Es,G6]
def yW (B:Id)(h:xf3 5):xl5 xff 3 (-2)=Κ (xj3 (xnB 2) 3):=by
 unfold cutV;rw [wL,xcd (Ty 3) (M2 3),HT.Mz,Es,Fp (Ew (by decide) h),Hs,G6,List.drop_take]
def jv (R:Id):xiB=xvU (xC3 b xdj):=by show Τ GG
def i6 (R):xaJ xDp (R.length+2):=Et
def tQ (R):xgn xDp (xDp).length 2=R:=by show LE i6 K2
inductive Se (vs:LT) (H:Hp) (Q:VK) (LX:XK):Prop
 |mk (a:LF) (B:Id) (h0:vs=xbK) (h1:XL=xfy) (h2:xa6 B) (h3:xFU) (h4:xbC (UV->xbf (.bl (xa2 (sld xAi) B)))):Se vs H Q LX
def wX:P3 Jal Jal lU:=On
def uO {f fW:LF}(F:Ζ "ends_in_check" lU Jal)(Wc:xbs "with_check" dW Jal fW Qn)(Y:VS K mg C):Η 8 Jal Se:=by
 show xbo wX (λ LS A outer st H vs Q E hr h=>?_);obtain⟨a,B,rfl,hB,hb,hl,k⟩:=h;show xw1 hu;show xut (cJ (rQ hu) (xaK (eN Wc Y) Wc (xbe (xw8 Uf bQ (xS qP ak)))) Uf xmk) ⟨_,rfl,_,rfl,_,rfl,a,_,rfl,xy7,PP l hn⟩;rw [A5];have s1:=xcQ xAi hn;refine⟨l,xAi,rfl,ad,λ b z=>xh3 (Fg z),Ew (by show xni (FX _ _)) hl,λ l2 H2 n2 s2 h2=>?_⟩;have hB:=xbQ (xcb hB);rw [jv] at hB h2;show xg6 ⟨_,rfl,l2,a,_,_,rfl,rfl,K'.of h2,xy7,?_⟩ (xaA (xa2 (xrt (sld xAi)) (B.map (λ b=>xdj))) (xa2 (sld xAi) B) (decide_eq_decide.mpr ⟨No (KZ (λ _ _ z=>Int.ofNat_inj.1 z)|>.1 z),No (by rw [z])⟩)) (xdp xdP)
def pz (r a):xjR r [vN a]=Κ (xpJ r):=by
 induction r with
 |zero=>rfl
 |succ r ih=>rw [FW,Gd,ih];rfl
def bt8 (hb:xm2)(hi:i<R.length):xeh (8*i) 8=R[i]:=by
 have h:=uk hb (HL i) hi;have e:(R.take (i+1)).drop i=[R[i]]:=by rw [cB (Ex hi),List.drop_left' (by show xaF EH)]
 rw [e,fq,tV,show i.succ-i=1 by lia,jR,jR] at h;show xbd;rw [h];show xaP bt (show Θ-(8*i+8)=8*(R.length-(i+1)) by lia)
structure VM (K:Frag)(mg:π)(C:LF):Prop where
 Y:xlj
 T:XG K mg C
 m:mg "BitReader"=xgr
 init:∃f fd,xfW K "BitReader.__init__" rh f/\xmM Jaj/\xjL C
 take:∃f fd,xEX C "take" kT xso f fd
 left:∃f fd,xhq "left" "BitReader.left" kW
 atend:∃f fd,xhq "at_end" "BitReader.at_end" qX
 need:xGp bW Jag
 size:UF "need_size" cN Jah
 ones:UF "ones" fZ Jah
 bits:UF "bits_at" fV Jai
def VM.tk (Z:VM K mg C):∃f fd,xEX C "take" kT xso f fd/\∀P w base,xov xso (QZ C):=by
 obtain⟨f,fd,Tk⟩:=Z.take;show Ι L Z.left W Z.Y.whole;show Ι S Z.size O Z.ones;obtain⟨_,_,Ba⟩:=Z.bits;show xav f fd Tk (λ _ _ _=>tq Tk.F S W Ba O L Z.T Z.Y.X)
def _root_.K33.L5.keep (h:xkM H p t)(k:∀c o,χ=IO->(c=p\/c=d)->xaL=IO):xkM H' p t:=by
 obtain⟨⟨dx,hp⟩,hd,r1,r2⟩:=h;show xav (xdx (xmo hp xbF)) (xmo hd xsv) r1 r2
inductive Qz (C:LF) (vs:LT) (H:Hp) (Q:VK) (LX:XK):Prop
 |mk (o r d:LF) (x:V) (R:Id) (n:Nat) (h0:vs=[xga,xkz,xdH,x]) (h1:xjK H 0) (h2:xhc n) (h3:n≤R.length) (h4:∀l H',Ξ->xap=xaf (R.take n)->xjK H' (8*n)->(∀c o,χ=IO->xjs->xaL=IO)->xao):Qz C vs H Q LX
def uW:P3 Jad Jad jx:=On
def Ef:(["step","reader"]:xae).Nodup:=Z8
def Cj (C:LF):TE:=jV C "take" (QZ C) [] E0 (Nk 1) (jT (tC (.int 8)) iW)
def rT (F:Χ "read" "RawWay.read" jx)(Z:VM K mg C):xqQ Jad (Qz C):=by
 have X:=Z.Y.X;show xCr XF Z.tk;have GT:=XF P w base;have TR:=Z.T;show xaE uW (λ LS A outer st H vs Q E hr h=>?_);obtain⟨o,r,d,x,R,n,rfl,hR,MO,hnR,k⟩:=h;refine xei (jO (js:=[none,some 1]) rfl
  ⟨rfl,Z8,Z8,Z7,λ x c h=>(by show xbM rfl (eV h);rfl),λ x hx=>?c1,rfl,λ i x j h1 h2=>?c2⟩
  (xG2 Z7 xeW) (λ fp s H=>xrW 0 Ef)
  (λ fp s H=>xun hr xfs))
 case c1=>
  rcases hx with hx|hx
  ·have m':(x,NameKind.cell)∈([xzy,xlR "step",xAa "reader"]:xsq):=xt2;have e:x="reader":=by simpa using m'
   subst e;exact xa4
  ·have m':(x,NameKind.free)∈([xzy,xlR "step",xAa "reader"]:xsq):=xt2;simp at m'
 case c2=>
  show xmU (rH h1 h2) (xuA rfl (λ c h=>h))
 refine⟨_,rfl,xai,rfl,by lia,by lia,xe7⟩;obtain⟨⟨dx0,Sw⟩,Vj,hb,_⟩:=id hR;have NP:xeF r:=xe6 Sw;have Pe:xnb:=xe6 Vj;refine lG (g:=xhf) (te:=Cj C) (lo:=0) (l:=l) (k:=(xcG).toNat)
  (λ i ys σ H2=>∃v0,σ=[v0,SC r]/\i≤R.length/\ys=Κ xx6/\xjn=xdf/\xjK H2 (8*i)/\∀c o,χ=IO->xjs->xle=IO)
  ⟨none,rfl,xac,rfl,ad,hR.keep λ c o e _=>xgd _ _ e,λ c o e _=>xgd _ _ e⟩ ?_ ?_ ?_ ?_
 ·rintro i ys σ H2 hi ⟨v0,rfl,hiR,rfl,N3,Ni,kp⟩;have hin:i<n:=by simpa using hi
  obtain⟨⟨dx,OS⟩,_,_,_⟩:=id Ni;refine⟨_,rfl,r,dx,_,rfl,OS,xq7,r,d,R,_,8,rfl,Ni,Z9,by lia,Sc H3 M4 Mq⟩
  ·have Nf:i<R.length:=by lia
   rw [bt8 hb Nf];have hRi:Ν R R[i]:=xtO;refine⟨xaW N3 NP,bC (by rw [Es,EH];lia),_,rfl,Nf,by rw [cB hRi,EG];rfl,ad,?_,λ c o e n=>?_⟩
   ·refine M4.keep λ c o e hc=>?_
    show Re (by show xja hc;exact NP.symm;exact Pe.symm) e
   ·show xlr (xaW (xat e n) n)
 rotate_left
 ·exact λ x σ H A B h z=>xih
 ·rintro σ H A B h ⟨v,e1,a',dx,fs,e2,e3,e4,p',d',R',t',s',e5,e6,e7,z',z⟩;exact⟨v,e1,a',dx,fs,e2,e3,e4,p',d',R',t',s',e5,e6,e7,z',λ H' z1 z2=>xkv (z H' z1 z2)⟩
 ·rintro ys σ H2 ⟨v0,rfl,hn,rfl,N3,Ni,kp⟩;rw [E6] at N3 Ni hn;exact xd8 H2 nl N3 Ni kp
def yT {v:α}(h1:xb6)(h2:xuS b)(h:xbw xs (xfq b) v):xlv (XD xs (-xdj)):=by
 have e:NE (xBp (-xqO)) (xfq b):=by
  unfold ixN;rw [EI (by lia),EU (by lia)];congr 1;lia
 unfold XD;show xdM h
noncomputable def cpy (B:Id) (b:Nat):xaX Id
 |0=>B
 |n+1=>xAB++[(xAB).getD (xCd B n-b) 0]
def cS (B)(b):∀n,xaJ xAB (xs1 n):=λ n=>by
 induction n with
 |zero=>rfl
 |succ n ih=>rw [cpy,Et,ih];rfl
inductive Zi (R:Id) (e:Nat):xaX (Id->xti Id)
 |done {t:Nat} {S:Id}:xzD e->Zi R e t S t S
 |run {t t':Nat} {S S':Id}:xtc e->t+14≤Θ->xsk (xm0 6+1)≤e->Zi R e (t+14) (S++xFN (xm0 6) 1 (xeh (t+6) 8)) t' S'->Zi R e t S t' S'
inductive VR (R:Id) (e:Nat):xaX (Id->xti Id)
 |done {t:Nat} {S:Id}:xzD e->xo7 e t S t S
 |sg {t t':Nat} {S S':Id}:xtc e->t+9≤Θ->xm0 1=0->xo7 e (t+9) (S++[xeh (t+1) 8]) t' S'->xo7 e t S t' S'
 |cp {t t':Nat} {S S':Id}:xtc e->t+13≤Θ->xm0 1=1->xsk (xeh (t+9) 4+3)≤e->ω (xeh (t+1) 8)->xf5 (xeh (t+1) 8)->xo7 e (t+13) (cpy S (xeh (t+1) 8) (xeh (t+9) 4+3)) t' S'->xo7 e t S t' S'
def VR.le (h:xo7 e t S t' S'):xG5 e:=by
 cases h with
 |done h=>exact EL h
 |sg h=>exact EZ h
 |cp h=>exact EZ h
structure Rds (K:Frag)(mg:π):Prop where
 X:xie
 room:UF "need_room" ir xCZ
 lay:UF "lay_copy" kI ["signs","back","size","end"]
 add:UF "add_copy" j8 (xCz "back" "size")
 ahead:UF "signs_ahead" kl xj9
inductive PV (vs:LT) (H:Hp) (Q:VK) (LX:XK):Prop
 |mk (a:LF) (xs:LT) (s e:Nat) (h0:vs=[Tm,xbz,vN e]) (h1:XL=xdg) (h2:xs.length+s≤e) (h3:xkA H):PV vs H Q LX
def rf:P3 xCZ xCZ ir:=On
def iR (F:Ζ "need_room" ir xCZ)(Z:Rds K mg):xov xCZ PV:=by
 show xbo rf (λ LS A outer st H vs Q E hr h=>?_);obtain⟨a,xs,s,e,rfl,ha,he,k⟩:=h;show xcR (af (xeA c8 (xb1 (aM Z.X.len Uf) SZ) XV aO)) ⟨_,rfl,a,_,rfl,Φ ha,_,rfl,_,_,rfl,rfl,_,rfl,_,_,rfl,rfl,_,rfl,xDr k⟩;show xbu xbJ
inductive QK (vs:LT) (H:Hp) (Q:VK) (LX:XK):Prop
 |mk (l:LF) (B:Id) (b z:Nat) (h0:vs=[xax,xd1,vN z]) (h1:H l=xfy) (h2:xb6) (h3:xf3 b) (h4:xb0 (xs1 z)) (h5:xkA (xbG H l (xDM z))):QK vs H Q LX
def QP:P3 ["signs","back","size","step"] (xCz "back" "size") j8:=On
def qB (F:Ζ "add_copy" j8 (xCz "back" "size"))(T:xie):xew (xCz "back" "size") QK:=by
 show xbo QP (λ LS A outer st H vs Q E hr h=>?_);obtain⟨l,B,b,z,rfl,hB,MN,O6,hz,k⟩:=h;show xcR (af (xkH (cY Z7 T.range xeW) 3 QP.nd (af (xi4 FK FV bx Uf (xk6 (xS qP SZ)))))) ⟨_,rfl,Ty z,rfl,by lia,by lia,?_⟩
 try dsimp only
 show ST E6 (cR (D:=xd5) (λ j σ H2=>∃v3,σ=[xhl,xmX,SL z,v3]/\H2=xbG H l (xDM j)) (Ψ none rfl) ?_ ?_)
 ·funext c;by_cases e:c=l
  ·subst e;show LE ad hB
  ·rw [ai e]
 ·rintro j σ H2 hj ⟨v3,rfl,rfl⟩;have hlen:=cS B b j;have hg:xCd B j-b<xCd B j:=by omega
  refine⟨_,rfl,xfa ad,_,rfl,_,rfl,_,rfl,l,_,_,vN ((xDM j).getD (xCd B j-b) 0),rfl,rfl,xCH,yT MN (by show xcY) ?_,?_⟩
  ·rw [Es,Fq,E3,Ex hg];rfl
  ·show TD ⟨l,_,_,rfl,rfl,ad,bC (by show xcY),?_⟩ (Ψ (some (V.int (xcU+Ty j))) rfl);rw [dZ,cpy,EG];rfl
 ·rintro σ H2 ⟨v3,rfl,rfl⟩;exact k
inductive QJ (vs:LT) (H:Hp) (Q:VK) (LX:XK):Prop
 |mk (x:LF) (W:Id) (h0:vs=[xbk]) (h1:xhp=xkU) (h2:∀l,Ξ->xrJ (xfb xlG)):QJ vs H Q LX
def uu:P3 xj9 xj9 kl:=On
def jH (F:Ζ "signs_ahead" kl xj9)(T:xie):xew xj9 QJ:=by
 show xbo uu (λ LS A outer st H vs Q E hr h=>?_);show xdT x W hx k h;refine xei (j7 (xeK g9 Uf dO) xgT (xGN Gg xbj));exact xkh _ _ (bi ⟨_,rfl,x,_,rfl,Φ hx,λ l nl=>xd8 nl⟩)
inductive Yy (vs:LT) (H:Hp) (Q:VK) (LX:XK):Prop
 |mk (l:LF) (S:Id) (b z e:Nat) (h0:vs=[xax,xd1,vN z,vN e]) (h1:H l=xi5) (h2:xb0 e) (h3:xb6) (h4:xf5 b) (h5:xsk z≤e) (h6:xkA (xbG H l (cpy S b z))):Yy vs H Q LX
def CG:P3 ["signs","back","size","end"] ["signs","back","size","end"] kI:=On
def xh (F:Ζ "lay_copy" kI ["signs","back","size","end"])(Z:Rds K mg):xqQ ["signs","back","size","end"] Yy:=by
 show Ι Nr Z.room Ac Z.add;have GN:=iR (P:=P) (w:=w) (base:=base) Nr Z;have GA:=qB (P:=P) (w:=w) (base:=base) Ac Z.X;show xbo CG (λ LS A outer st H vs Q E hr h=>?_);obtain⟨l,S,b,z,e,rfl,hl,he,MN,O6,hz,k⟩:=h;have Md:xba:=SB;show xcc (xmg (xaK GN Nr (xog (xbP 2 3))) (xeN (xvX (xAr (xm7 bG SZ) (xeK c8 SZ (aM Z.X.len Uf)))) (aB (xcs GA Ac (xog (xbP 1 2)))))) ⟨_,rfl,_,rfl,_,rfl,l,_,z,e,rfl,hl,by show xdl hz,?_⟩ (xiY _ _ (λ h=>xor) xb8)
 ·have h0:b=0:=Int.ofNat.inj (V.int.inj xbJ);exact Iy MN h0
 refine⟨_,rfl,_,rfl,l,_,rfl,Φ hl,_,_,rfl,rfl,_,rfl,xxc xb8⟩
 ·show xdA xbJ Es;lia
 exact⟨_,rfl,_,rfl,_,rfl,l,S,b,z,rfl,hl,MN,O6,by lia,k⟩
inductive Qw (C:LF) (vs:LT) (H:Hp) (Q:VK) (LX:XK):Prop
 |mk (o r d:LF) (x:V) (R T:Id) (n t':Nat) (h0:vs=[xga,xkz,xdH,x]) (h1:xjK H 0) (h2:Zi R n 0 [] t' T) (h3:xhc n) (h4:∀l H',Ξ->xap=xce->xjK H' t'->(∀c o,χ=IO->xjs->xaL=IO)->xao):Qw C vs H Q LX
def NI:P3 ["self","reader","count","before","signs","size","sign"] Jad kq:=On
def rm (F:Χ "read" "RunWay.read" kq)(Y:Rds K mg)(Z:VM K mg C):xqQ Jad (Qw C):=by
 have X:=Z.Y.X;show xCr XF Z.tk;have GT:=XF P w base;have TR:=Z.T;show xiE Nm Y.room GM (iR (P:=P) (w:=w) (base:=base) Nm Y);show xaE NI (λ LS A outer st H vs Q E hr h=>?_);obtain⟨o,r,d,x,R,T,n,t',rfl,hR,hk,MO,k⟩:=h;refine xbV (xa7 4 NI.nd xgT (xqI dQ xwm XV (xaQ 5 NI.nd (xhU (xun hr xfs)) (xc5 6 NI.nd (xun hr xfs) (aB (xaK GM Nm (xcl 4 (xbP 5 2)))) (af (xi4 Hy HU d9 xan (xAt il (xeH 6) xcr)))))) xan)
 obtain⟨⟨dx0,Sw⟩,Vj,hb,_⟩:=id hR;have no:∀t,W1 xH6:=λ t=>xq7
 refine xbt
 show xa8 (xj1 (xdD l nl));have NP:xeF r:=xe6 Sw;have Pe:xnb:=xe6 Vj;show TD xbt (Ψ (λ m σ H2=>∃v5 v6 S t,m=n-S.length/\Zi R n t S t' T/\σ=[SC o,SC r,xo9,xwW,xhl,v5,v6]/\xjn=xi5/\xjK H2 t/\∀c o,χ=IO->xjs->xle=IO) ⟨n,none,none,[],0,rfl,hk,rfl,ad,hR.keep λ c o e _=>xgd _ _ e,λ c o e _=>xgd _ _ e⟩)
 rintro m σ H2 ⟨v5,v6,S,t,rfl,hk,rfl,N3,Ni,kp⟩;refine⟨_,rfl,l,_,rfl,Φ N3,_,rfl,_,_,rfl,rfl,_,rfl,xeg h h⟩
 ·clear g1;show xaD h' xbJ Es h';cases hk with
  |done e=>omega
  |run q1 q2 q3 q4=>
  clear h h';refine xbV xqr;show xbD SD OS Ni.ob xom
  refine⟨_,rfl,r,SD,_,rfl,OS,xjo,r,d,R,t,6,rfl,Ni,Z9,by lia,Sc H3 M4 Mq⟩;show xgs (xfQ _ rfl xcZ);have e1:Ty (xm0 6)+1=xg5 (xm0 6):=by lia
  try dsimp only
  rw [e1];generalize hz:xm0 6+1=z at*;show xbD OF NL M4.ob xom
  show xgs ⟨_,rfl,r,OF,_,rfl,NL,xjo,r,d,R,t+6,8,rfl,M4,Z9,by omega,λ H4 M3 OR=>xcZ⟩;generalize xeh (t+6) 8=s at*;have Vn:=xjy (xaW N3 NP) NP;refine xom
  show xgs ⟨_,rfl,_,rfl,_,rfl,l,_,z,n,rfl,Vn,by rw [Es];omega,xcZ⟩;refine⟨_,rfl,xfa Vn,_,rfl,(by show xdy 1),PP l4 n4⟩;have s4:=xaR [xbz] n4;have SU:(xqd l4 [xbz]) l4=Υ [xbz]:=ad;have h4l':=xez Vn;have nl4:xeF l4:=ae Vn n4;have Yf:xjK (xqd l4 [xbz]) (t+14):=M3.keep λ c o e _=>xez e
  have Qj:∀c o,χ=IO->xjs->(xqd l4 [xbz]) c=IO:=λ c o e z=>xez (xjy (xaW xDN z) z)
  show xas (xqd l4 [xbz]) H5 ⟨_,rfl,l4,_,_,rfl,rfl,SU,by lia,by lia,bF (by show xmV (1*_);lia),PP l6 n6⟩;rw [E6,pz];have s6:=xcQ (xJb s) n6;have h66:(xbG H5 l6 (xJb s)) l6=xaf (xJb s):=ad;have h6l:=xd6 h4l';refine⟨l,l6,_,_,rfl,rfl,h6l,h66,bF (by simp;lia),_,?_,_,_,_,_,rfl,q4,rfl,by rw [ad,EG],Yf.keep λ c o e hc=>?_,λ c o e z=>?_⟩
  ·rw [Et,Ff,<-hz];exact GZ q1 (Hl xdk)
  ·show Re (by show xja hc;exact NP.symm;exact Pe.symm) (xd6 e)
  ·show xlr (xd6 (xlm e z))
 ·cases hk with
  |run q1=>show xiW (by show xcY) h
  |done e=>exact xzY (xd8 H2 nl N3 Ni kp)
inductive P0 (C:LF) (vs:LT) (H:Hp) (Q:VK) (LX:XK):Prop
 |mk (o r d x:LF) (R W S:Id) (n t':Nat) (h0:vs=[xga,xkz,xdH,xbk]) (h1:xjK H 0) (h2:xhp=xkU) (h5:xo7 xtS 0 W t' S) (h6:xhc n) (h7:xkB) (h8:∀l H',Ξ->xap=xaf xIW->xjK H' t'->(∀c o,χ=IO->xjs->xaL=IO)->xao):P0 C vs H Q LX
abbrev BW:xae:=["self","reader","count","before","signs","begin","end","back","size"]
def NH:P3 BW Jad hV:=On
def pj (F:Χ "read" "CopyWay.read" hV)(Y:Rds K mg)(Z:VM K mg C):Η 33 Jad (P0 C):=by
 have X:=Z.Y.X;show xCr XF Z.tk;have GT:=XF P w base;have TR:=Z.T;show Ι La Y.lay Ao Y.ahead;have GA:=jH (P:=P) (w:=w) (base:=base) Ao X;have GL:=xh (P:=P) (w:=w) (base:=base) La Y;show xnh tl hle X.least (F.ok NH λ LS A outer st H vs Q E hr h=>?_) _;obtain⟨o,r,d,x,R,W,S',n,t',rfl,hR,hx,hk,MO,hW,k⟩:=h;have Qh:xah 31:=SB;have Md:xba:=SB;refine xgc 4 NH.nd (xcs GA Ao (xeH 3)) (xaQ 5 NH.nd xwm (xa7 6 NH.nd (xb1 xcr XV) (xqI dQ xwm xkw (af (xpI bG (xun Qh xfs) ak (xi4 FK FV bx xan (xun Qh xfs)) (xaQ 7 NH.nd (xun Qh xfs) (xeX 8 NH.nd (xb1 (xun Qh xfs) (xaO 3 hle tl)) (aB (xaK GL La (xcl 4 (xcl 7 (xbP 8 6)))))))))) (aV bh xan (aP xcr) bQ)))
 obtain⟨⟨dx0,Sw⟩,Vj,_,_⟩:=id hR;have no:∀t,W1 xH6:=λ t=>xq7
 refine xbt
 show xa8 ⟨_,rfl,x,W,rfl,hx,xdD l nl⟩;have NP:xeF r:=xe6 Sw;have Pe:xnb:=xe6 Vj;refine xbt
 show xa8 ⟨_,rfl,l,_,rfl,Φ ad,Β⟩
 try dsimp only
 show ST Es xbt
 have e0:xBB+xai=M2 (W.length+n):=by lia
 show xa8 ⟨_,rfl,_,rfl,_,_,rfl,rfl,Β⟩
 try dsimp only
 show xmG e0 xbt (Ψ (λ m σ H2=>∃v7 v8 S t,m=xtS-S.length/\xo7 xtS t S t' S'/\σ=[SC o,SC r,xo9,SC x,xhl,SL W.length,SL xtS,v7,v8]/\xjn=xi5/\xjK H2 t/\∀c o,χ=IO->xjs->xle=IO) ⟨n,none,none,W,0,by lia,hk,rfl,ad,hR.keep λ c o e _=>xgd _ _ e,λ c o e _=>xgd _ _ e⟩)
 rintro m σ H2 ⟨v7,v8,S,t,rfl,hk,rfl,N3,Ni,kp⟩;have hle2:=hk.le;refine⟨_,rfl,l,_,rfl,Φ N3,_,rfl,_,_,rfl,rfl,_,rfl,xeg h h⟩
 ·clear g1;show xaD h' xbJ Es h';have LU:xtc xtS:=by omega
  obtain⟨SD,OS⟩:=Ni.ob;clear h h';have t1:t+1≤Θ:=by cases hk<;>lia
  show xcR xqr ⟨_,rfl,r,SD,_,rfl,OS,xjo,r,d,R,t,1,rfl,Ni,Z9,t1,Sc H3 M4 Mq⟩;show xqz OF NL M4.ob Sy (xaW N3 NP);cases hk with
  |done e=>omega
  |sg q1 q2 q3 q4=>
   show xmG q3 (xuA _ (xw9 xnX h)) ⟨_,rfl,xfa Sy,_,rfl,r,OF,_,rfl,NL,xjo,r,d,R,_,8,rfl,M4,Z9,by omega,Sc H4 M3 OR⟩;have Vn:=xjy Sy NP;refine⟨l,_,_,rfl,rfl,Vn,bC (by show xcY),_,?_,_,_,_,_,rfl,q4,rfl,by rw [ad,EG];rfl,?_,λ c o' e z=>?_⟩
   ·show LE Et (GZ LU xtm)
   ·refine M3.keep λ c o e hc=>?_
    show Re (by show xja hc;exact NP.symm;exact Pe.symm) e
   ·show xlr (xjy (xaW xDN z) z)
  |cp q1 q2 q3 q4 q5 q6 q7=>
   show xmG q3 (xuA _ (xAH xbJ (by show Ε) xb8)) (xnn R2 q2')
   show xlK ⟨_,rfl,r,OF,_,rfl,NL,xjo,r,d,R,_,8,rfl,M4,Z9,by lia,λ H4 M3 OR=>q2' _ _ ?_⟩ q2';show xbD dx4 Q7 M3.ob (xnn R2 q2')
   refine⟨_,rfl,r,dx4,_,rfl,Q7,xjo,r,d,R,_,4,rfl,M3,Z9,by omega,Sc H5 Yf Qj⟩;have ez:M2 (xeh (t+1+8) 4)+3=M2 (xeh (t+9) 4+3):=by show xaF (show t+1+8=t+9 by lia)
   show xlK (xfQ _ rfl (q2' _ _ ?_)) q2'
   try dsimp only
   rw [ez];have h5l:=xlm (xjy Sy NP) NP;refine⟨_,rfl,_,rfl,_,rfl,_,rfl,l,S,xeh (t+1) 8,xeh (t+9) 4+3,xtS,rfl,h5l,by lia,q5,q6,q4,_,?_,_,_,_,_,rfl,q7,rfl,ad,?_,λ c o' e z=>?_⟩
   ·show LE cS (GZ LU (GQ (Km _)))
   ·refine(show t+1+8+4=t+13 by lia)▸Yf.keep λ c o e hc=>?_
    show Re (by show xja hc;exact NP.symm;exact Pe.symm) e
   ·show xlr (xlm (xjy (xaW xDN z) z) z)
 ·cases hk with
  |sg q1=>show xiW (by rw [Es];omega) h
  |cp q1=>show xiW (by rw [Es];omega) h
  |done e=>
   show xa8 Β;have ec:cutV (S'.map vN) (some xBB) none=Κ xMq:=by rw [ft,<-Hs]
   refine⟨_,rfl,_,rfl,_,rfl,l,_,rfl,K'.of N3,PP l9 n9⟩
   try dsimp only
   rw [ec];have s9:=xcQ xMq n9;refine k l9 _ ?_ ad (Ni.keep λ c o e _=>s9 _ _ e) λ c o e n=>s9 _ _ (xat e n)
   cases e:H l9 with
   |none=>rfl
   |some o'=>
    by_cases z:l9=r
    ·subst z;obtain⟨⟨dx9,Xs⟩,_⟩:=Ni;show ρ Xs n9 n9
    ·show ρ xDN n9 n9
universe K33.Ck
namespace K33
open PySem L2 QQ W17 W16 BP
seal PE PA PS PSs PT PW PG PI
abbrev oj:LP:=xaM 30 3
inductive T6 (C:LF) (vs:LT) (H:Hp) (Q:VK) (LX:XK):Prop
 |mk (p:_) (d:_) (R:_) (t:_) (h0:vs=xaV) (h1:xkM H p t) (h2:xmq t H):T6 C vs H Q LX
def zO:xdc oj:=On
def pJ (F:Χ "place" "BitReader.place" oj)(T:XG K mg C):xhm (T6 C):=by
 show xaE zO (λ LS A outer st H vs Q E hr h=>?_);obtain⟨p,d,R,t,rfl,⟨⟨dx,hp⟩,hd,hb,ht⟩,q⟩:=h;refine xei Α;exact⟨_,rfl,p,C,dx,_,_,rfl,hp,T.cl,T.nT,fu _ _,q⟩
def L5.same (h:xkM H p t)(s:UV):xkM H' p t:=by
 obtain⟨⟨dx,h1⟩,h2,h3,h4⟩:=h;show xav (xdx (xci h1)) (xci h2) h3 h4
universe K33
namespace K33.C
open PySem L2 QQ C9 C10
seal PE PA PS PSs PT PW PG PI
structure Mk2 (K:Frag)(mg:π)(C:LF):Prop where
 X:xbn
 Y:Zk K mg
 need:UF "need_lengths" fk Jaf
 cof:UF "codes_of" gH Jaf
 keep:∃f fd,xuq "keep_beginnings" "CodeReader.keep_beginnings" wp (xnV "code" "length") f fd
 R:CRc K mg C
def ok_cinit (F:xfW K "CodeReader.__init__" sCInit f)(M:Mk2 K mg C):Η 34 xJq xF7:=by
 obtain⟨X,Y,⟨_,_,N⟩,⟨_,_,O⟩,⟨_,_,Ke⟩,T⟩:=M;have GO:=P7 (P:=P) (w:=w) (base:=base) O N Y;have GK:=yC (P:=P) (w:=w) (base:=base) Ke.F T X;show xaE scCInit (λ LS A outer st H vs Q E hr h=>?_);obtain⟨p,dx,a,L,rfl,hp,ha,G,q⟩:=h;have Md:xba:=SB;show TD (xoc p7 (xeN (xc9 p7) (bw E5 rfl (je Z7 Y.X.enum (xbe (xaK GO O xdb))) (xD4 (xob 2 scCInit.nd (xob 3 scCInit.nd gQ))) (af (aH (rJ (y6 xaz))
    (xeN (sO xC4 Α xaz XV rfl) (aB (xwQ Uf Ke GK Md (xc6 xwo xwo)))) aA))))) xbt
 intro d nd;have OP:p≠d:=xqP nd;show xa8 ⟨_,rfl,p,C,dx,[],rfl,(by show Re OP hp),T.cl,T.nT,(by show xcE 0),Β⟩;refine xbt
 intro e ne;have npe:p≠e:=by
  rintro rfl;show ρ ad ne ne
 have nde:d≠e:=by
  rintro rfl;show xjV xnF ad ne ne
 show xa8 ⟨_,rfl,p,C,dx,_,rfl,(by rw [ai npe,ad]),T.cl,T.nB,(by show xcE 1),Β⟩;have neH:υ e:=by
  rw [ai npe.symm,ai nde.symm] at ne;exact ne
 try dsimp only
 rw [gW];have kp:∀b o,xb7=IO->xgx->xch (xrg (xch (xdU d xhE) (xyN d [])) xhE) (fC d e) b=IO:=λ b o ez hn=>by
  rw [ai hn,xlC ez neH,ai hn,xlC ez nd];exact ez
 have Vg:xch (xrg (xch (xdU d xhE) (xyN d [])) xhE) (fC d e) p=xoa d e:=ad;have Vj:NE (xch (xrg (xch (xdU d xhE) (xyN d [])) xhE) (fC d e) d) xhE:=by
  rw [xnF,ai nde,xnF,ad]
 show xcF he0 (NE (xch (xrg (xch (xdU d xhE) (xyN d [])) xhE) (fC d e) e) xhE) (by
  rw [ai npe.symm,ad]) (xch (xrg (xch (xdU d xhE) (xyN d [])) xhE) (fC d e)) H0;have YN:xau a:=xro ha (by show Ε);refine⟨_,rfl,_,L,rfl,xfC a (xat ha YN) G.most,G,λ l xs H1 nl s1 OU XB=>?_⟩;have NQ:xau l:=No (by show xbb Vg nl nl)
 have Pe:xnb:=No (by show xbb Vj nl nl)
 have nle:xeF e:=No (by show xbb he0 nl nl)
 refine xfQ l (K'.of OU) (xb (λ i σ H2=>∃v2 v3 k1 k2,σ=[xd3,xbA,v2,v3]/\H2 p=xoa d e/\NE (H2 d) (.dT k1)/\NE (H2 e) (.dT k2)/\oo L i k1/\oy L i k2/\xjn=xdg/\xrb H2 xsU/\
   ∀b o,xb7=IO->xgx->H2 b=IO) ⟨none,none,[],[],rfl,xcb Vg,xcb Vj,xcb he0,zl L,zu L,OU,XB,λ b o ez hn=>xcb (kp b o ez hn)⟩ (λ i σ H' _ z9=>by obtain⟨_,_,_,_,_,_,_,_,_,_,z,_⟩:=z9;exact K'.of z) ?_ ?_)
 ·rintro i x t σ H2 hx nt ⟨v2,v3,k1,k2,rfl,Ml,hd2,TC,hT,hB,Mu,hC,O3⟩;have Nf:xxK i xsU:=by show xaC hC.1 (xbX hx)
  have hiL:xht i:=by
   unfold codes at Nf
   rwa [bd] at Nf
  have hLle:=G.le;have st:=xhz [xrs,x] nt;refine⟨t,_,rfl,MD.of ad,rfl,_,_,rfl,_,_,rfl,rfl,?_⟩;have ot:=hC.2 i x _ hx xtO;have hpT:=xey Ml;have hdT:=xey hd2;have heT:=xey TC;have hlT:=xey Mu;have hCT:xrb _ xsU:=hC.keep λ t2 ys ez=>xey ez
  show xcF othT (∀b o,xb7=IO->xgx->xjh t [xrs,x] b=IO) (λ b o ez hn=>xey (O3 b o ez hn)) (xjh t [xrs,x]) H3;cases eo:(xsU)[i] with
  |none=>
   rw [eo] at ot;have ex:x=.non:=ot;subst ex;have h0:∀s,Ν L s->¬xrO:=λ s hs h1=>by
    have:=Ol G hs h1;show xjV xtO eo this this
   refine xby _ rfl _ xhY;exact⟨_,_,k1,k2,rfl,hpT,hdT,heT,zQ hT h0,zZ hB h0,hlT,hCT,othT⟩
  |some c=>
   rw [eo] at ot;have SQ:=rE G (by rw [xtO,eo]);obtain⟨u,ex,hu⟩:=hC.keep (H':=H3) (λ t2 ys ez=>by exact(st _ _ ez))|>.2 i x _ hx (by rw [Ex Nf,eo]);subst ex;show TD (xby _ rfl _ xor) xom
   show xgs ⟨_,rfl,_,rfl,p,C,dx,_,_,rfl,hpT,T.cl,T.nT,B7 _ _,_,rfl,d,_,rfl,Vb.t (b:=u) (k:=kk xhX xh6) hdT hu (xkD (show _≤300 by show xbu hT.1)),xcZ⟩;have nud:u≠d:=aG hu hdT (by show Ε);have hu4:xc3 (upd H3 d (.dT (putK k1 (kk xhX xh6) xrs)) u) [vN xhX,vN xh6]:=by show Re nud hu
   show TD ⟨_,rfl,p,dx,_,rfl,(by show Re OP hpT),xzx _ Z8 Z8,?_⟩ ⟨_,rfl,u,_,_,_,rfl,rfl,MD.of hu4,xib,_,rfl,u,_,_,_,rfl,rfl,MD.of hu4,xic,?_⟩;have hc12:xeB xh6:=rD G SQ.1;show TD ⟨p,d,e,dx,xhX,xh6,k2,rfl,(by show Re OP hpT),(by show Re nde.symm heT),(by show xbu hB.1),hc12,λ H5 k2' he5 Tr hv5 VY=>?_⟩ ⟨_,_,_,k2',rfl,VY _ _ (by show Re OP hpT) npe,VY _ _ ad nde,he5,?_,?_,VY _ _ (by show Re Pe hlT) nle,?_,λ b o ez hn=>?_⟩
   ·have:=Cf hT SQ.1 (Δ SQ);rw [<-xbI SQ] at this;show xfM
   ·refine Cz hB SQ.1 hc12 Tr (PP a b)
    show xaC (xbI SQ) (hv5 a b)
   ·show TD (hCT.keep (Sc t2 ys ez)) (VY _ _ ?_ (aG ez heT (by show Ε)));show Re (aG ez hdT (by show Ε)) ez
   ·have h3:=othT b o ez hn;refine VY _ _ ?_ (ae ez neH);show xiC ez nd h3
 ·rintro σ H2 ⟨v2,v3,k1,k2,rfl,Ml,hd2,TC,hT,hB,Mu,hC,O3⟩;have e1:xCX L.length:=by rw [hC.1];show xaP codes bd
  rw [e1] at hT hB;exact q d e H2 nd neH ⟨xdx Ml,⟨k1,hd2,hT⟩,⟨k2,TC,hB⟩⟩ O3
def DR (h:xo6 H p d e L)(h':L5 B H r g R t):p≠r/\d≠r/\e≠r/\p≠g/\d≠g/\e≠g:=by
 obtain⟨⟨dx,h1⟩,⟨k1,h2,_⟩,⟨k2,h3,_⟩⟩:=h;obtain⟨⟨dy,r1⟩,r2,_,_⟩:=h';refine⟨aG h1 r1 ?_,aG h2 r1 (by show Ε),aG h3 r1 (by show Ε),aG h1 r2 (by show Ε),aG h2 r2 (by show Ε),aG h3 r2 (by show Ε)⟩;intro z;injection z with _ _ z
 unfold fC fR at z;injection z with z _
 injection z with z _
 exact Ek z
def Nj.but (h:xo6 H p d e L)(h':L5 B H r g R t)(s:∀c o,χ=IO->xjs->xaL=IO):xo6 H' p d e L:=by
 obtain⟨n1,n2,n3,_⟩:=DR h h';exact h.keep λ c o ez hc=>s c o ez (by rcases hc with rfl|rfl|rfl<;>assumption)
structure Rds (K:Frag)(mg:π)(B:LF):Prop where
 X:xbn
 whole:xCa cb Jab
 size:UF "need_size" cN Jah
 ones:UF "ones" fZ Jah
 bits:UF "bits_at" fV Jai
 take:∃f fd,xEX B "take" kT xso f fd
 left:∃f fd,xqA B "left" "BitReader.left" kW
 place:∃f fd,xqA B "place" "BitReader.place" oj
 R:XG K mg B
inductive T3 (C B:LF) (vs:LT) (H:Hp) (Q:VK) (LX:XK):Prop
 |mk (p d e r g:LF) (L R:Id) (t q s:Nat) (h0:vs=[xad,xkz]) (h1:xo6 H p d e L) (h2:xmm) (h3:L5 B H r g R t) (h4:xsw L xDe q s) (h5:xbC (L5 B H' r g R (t+s)->(∀c o,χ=IO->xjs->xaL=IO)->xtg q)):T3 C B vs H Q LX
def WW (F:Χ "thing" "CodeReader.thing" qZ)(T:CRc K mg C)(D:Rds K mg B):xqQ xJA (T3 C B):=by
 obtain⟨X,⟨_,_,W⟩,⟨_,_,S⟩,⟨_,_,O⟩,⟨_,_,Bi⟩,⟨_,_,Ta⟩,⟨_,_,Le⟩,⟨_,_,Pl⟩,TB⟩:=D;have GT:=tq (P:=P) (w:=w) (base:=base) Ta.F S W Bi O Le TB X;have GL:=nz (P:=P) (w:=w) (base:=base) Le.F TB X;have GP:=pJ (P:=P) (w:=w) (base:=base) Pl.F TB;show xaE NG (λ LS A outer st H vs Q E hr h=>?_);obtain⟨p,d,e,r,g,L,R,t,q',s',rfl,hC,G,hR,hD,k⟩:=h;have Md:xba:=SB;refine xgc 2 NG.nd (xfJ SZ TB.cl Pl GP) (xaQ 3 NG.nd ak (xc5 4 NG.nd ak (xFg (rJ (BC xC4 (dH (xbP 3 4)) Α)) (ac (xhN bG (xfJ SZ TB.cl Le GL) ak iE aA)
   (xeX 3 NG.nd (aq xg (xgI di xaz) (xBc TB.cl Ta GT hr xfs)) (xrI NG.nd xHL)))) (xiQ (aH (rJ (vn xC4 (dH (xbP 3 4)) Α))
    iE aA) (ym xC4 Α (dH (xbP 3 4)) xnj))))
 have ht:=hR.le;have QS:xaJ xDe (Θ-t):=by rw [EE,MG]
 refine xbt
 show xbD dx Sw hR.ob ⟨_,rfl,r,dx,_,rfl,Sw,xq7,r,g,R,t,rfl,hR,Β⟩;clear g1;show xlq;show xlq;show TD xbt (Ψ (λ m σ H2=>∃s,m=(Θ-t)-s/\t+s≤Θ/\(∀j<s,XH L (xGU j))/\σ=[xd3,SC r,SL t,SL (xqc t s),xjp]/\L5 B H2 r g R (t+s)/\xo6 H2 p d e L/\∀c o,χ=IO->xjs->xle=IO) ⟨_,0,rfl,by omega,xem j hj hj (by lia),rfl,hR,hC,λ c o z _=>z⟩)
 rintro m σ H2 ⟨s,rfl,hs,hbg,rfl,Ni,TH,O3⟩;have Tp:xaJ xur s:=by rw [EH,QS];lia
 obtain⟨k2,Rc,NY⟩:=TH.bg;show xbD dy Ml TH.ob (xfR _ (by show xgE) (PP u nu));have su:=xhz [xod t s,xbz] nu;have hu:xc3 (xjh u [xod t s,xbz] u) ((kk (xqc t s) s).map kV):=ad;have M4:=Ni.same su;have Vk:=TH.same su;have XN:∀c o,χ=IO->xjs->xjh u [xod t s,xbz] c=IO:=λ c o z hn=>su _ _ (O3 c o z hn)
 have YX:=su _ _ Rc;have MR:=su _ _ Ml;show xas (xjh u [xod t s,xbz]) H3 ⟨_,rfl,p,C,dy,_,_,rfl,MR,T.cl,T.nB,DV _ _,e,_,rfl,O2.t YX hu,_,rfl,?_⟩;show xaD hw (zD NY xur) Tp hw;by_cases c1:XH L xur
 ·show xmG (hw.mpr c1) xor (xbV xqr);have hbg':∀j<s+1,XH L (xGU j):=λ j hj=>by
   show xa3 j s z z
   ·exact hbg j z
   ·show xbL j s (by lia) c1
  refine xom
  show xbD OF XT M4.ob ⟨_,rfl,r,OF,_,rfl,XT,xq7,r,g,R,t+s,rfl,M4,rfl,_,rfl,xk4⟩
  ·have h0:Θ-(t+s)=0:=ME.mp xiR;have hn:Due L xDe .none:=λ j hj=>hbg' j (by rw [QS] at hj;lia)
   exact nomatch xLd
  ·have h0:t+s<Θ:=by
    show xa3 (t+s) Θ z z
    ·exact z
    ·show xiW (ME.mpr (show Θ-(t+s)=0 by lia)) h1
   show xgs xcZ;show xa0 b MN O6 (AJ h0) xom
   have hs12:xeB s:=by
    obtain⟨q1,s1,z1,z2,_⟩:=c1;show xbu (rD G z1)
   have es:xqc t s<2^s:=by have:=BP.NZ xur;rwa [Tp] at this
   have es2:2^s≤2^12:=xxx hs12;show TD ⟨_,rfl,_,_,rfl,rfl,⟨by lia,by lia,by lia⟩,?_⟩ ⟨_,rfl,r,OF,_,rfl,XT,xq7,r,g,R,t+s,1,rfl,M4,by lia,h0,Sc H4 M3 XM⟩;show xgs (xfQ _ rfl xcZ);have hb3:b.toNat<2^1:=by cases b<;>decide
   have e1:Builtin.bitOr (M2 (xqc t s)*xuD xb4) (M2 (K33.bt R (t+s) 1))=M2 (xqc t (s+1)):=by
    show Builtin.bitOr _ (M2 (xsJ/2^(Θ-(t+s+1))%2^1))=_;rw [O6];have:=qz (xqc t s) b.toNat 1 hb3;rw [MN,BP.WX];rw [xcd (xb4) (M2 1),this];lia
   try dsimp only
   show ST e1 ⟨_,rfl,_,_,rfl,rfl,?_⟩;have e2:Ty s+1=xg5 s:=by lia
   try dsimp only
   show LE e2 ⟨_,GZ (Nat.lt_sub_of_add_lt (Iw t s▸h0)) (Hj s),s+1,rfl,h0,hbg',rfl,M3,Vk.but M4 XM,λ c o z hn=>XM c o (XN c o z hn) hn⟩
 ·rw [Bool.eq_false_iff.mpr (No (c1 (hw.mp z)))];show xa8 (bi Β);obtain⟨k1,W7,NX⟩:=Vk.th;obtain⟨OF,XT⟩:=M4.ob;obtain⟨tw1,tw2⟩:=ze NX xur;rw [Tp] at tw1 tw2;show TD xom (xfR _ (by show xgE) (PP v nv));have sv:=xhz [xod t s,xbz] nv;have hv:xc3 (xcn H3 v [xod t s,xbz] v) ((kk (xqc t s) s).map kV):=ad;have M3:=M4.same sv;have hC4:=Vk.same sv;have XM:∀c o,χ=IO->xjs->xcn H3 v [xod t s,xbz] c=IO:=λ c o z hn=>sv _ _ (XN c o z hn)
  have hk4:=sv _ _ W7;have Q9:=sv _ _ MR;have Q7:=sv _ _ XT;show xas (xcn H3 v [xod t s,xbz]) H4 ⟨_,rfl,p,C,dy,_,_,rfl,Q9,T.cl,T.nT,B7 _ _,d,_,rfl,O2.t hk4 hv,_,rfl,?_⟩;by_cases c2:∃q,xrC xur q
  ·obtain⟨q,hq⟩:=c2;rw [tw1 q hq];show xgs (bi xcZ);have hn:xsw L xDe q s:=⟨by show xaF QS,hq,hbg⟩;injection xLd with e1 e2
   rw [e1,e2] at k;refine⟨_,rfl,p,C,dy,_,_,rfl,Q9,T.cl,T.nT,B7 _ _,_,rfl,_,rfl,(by show xgE),PP x nx⟩;have sx:=xhz [xod t s,xbz] nx;refine xfQ d ?_ (xdp (M3.same sx) λ c o z hn=>sx _ _ (XM c o z hn));show xg4 (O2.t (sx _ _ hk4) (show xc3 (xcn H4 x [xod t s,xbz] x) ((kk (xqc t s) s).map kV) from ad)) (tw1 q hq)
  ·have c3:∀q,¬xrC xur q:=λ q hq=>c2 ⟨q,hq⟩
   show ST (tw2 c3) xor;have hn:Due L xDe .bad:=⟨s,by show xaF QS,hbg,c1,c3⟩;exact nomatch xLd
universe K33.C
namespace K33.M
open BP C9 C10 W17
def yH (u)(h:t+s≤u.length):num ((xFZ).take s)=num u/2^(xzw (t+s))%2^s:=by
 have h1:=dF (u.take t) xFZ;rw [E9,EE] at h1;show xaD h2 (NZ xFZ) EE h2;have h3:num xFZ=num u%2^(xzw t):=by rw [h1,F5,Nat.mul_add_mod,HF h2]
 rw [Sn _ (by show xaF EE),h3,EE,Nat.sub_sub,show xzw t=(xzw (t+s))+s by lia,HI,KM]
def ie (h:n<2^s)(r):num ((xtX s++r).take s)=n:=by
 rw [KD (L8 n s),fG,HF h]
def d7 (n s)(r):xtB (xtX s) r s=r:=List.drop_left' (L8 n s)
inductive SE:Id->xaX (xaH->Id->Ο xaH)
 |done {L:Id} {ah:Nat} {b:xaH}:xgR 272->SE L ah b L b
 |one {L L':Id} {ah:Nat} {b b':xaH}:L.length<272->3≤b.length->xq4≠7->SE (L++[xq4]) xq4 (b.drop 3) L' b'->SE L ah b L' b'
 |rep {L L':Id} {ah:Nat} {b b':xaH}:L.length<272->9≤b.length->xq4=7->SE (L++xFN (xwz 3 6) 3 ah) ah (b.drop 9) L' b'->SE L ah b L' b'
universe K33.M
namespace K33.Ck
open PySem L2 QQ W17 W16 BP K33.M
seal PE PA PS PSs PT PW PG PI
abbrev OX (r:LF)(H H':Hp):Prop:=∀c o,χ=IO->xjs->xaL=IO
def RB (C:LF)(H:Hp)(r d:LF)(b:xaH):Prop:=∃R t,xjK H t/\b=xAl
theorem RB.keep (h:xm9)(k:∀c o,χ=IO->(c=r\/c=d)->xaL=IO):xkK H' b:=by
 show xgX R t h e;show xav R t (h.keep k) e
def RB.same (h:xm9)(k:UV):xkK H' b:=h.keep λ c o e _=>k c o e
def RB.ob (h:xm9):∃dx t,H r=xb2 xoB:=by
 obtain⟨R,t,⟨⟨dx,h⟩,_⟩,_⟩:=h;exact⟨dx,t,h⟩
def RB.ls (h:xm9):∃o,H d=IO:=by
 obtain⟨R,t,⟨_,h,_⟩,_⟩:=h;exact xa1 h
theorem RB.upd (h:xm9)(h1:xeF r)(h2:xnb):xkK (xdU l o) b:=h.keep λ c o e hc=>by
 show Re (by show xja hc;exact h1.symm;exact h2.symm) e
inductive T4 (C:LF) (vs:LT) (H:Hp) (Q:VK) (LX:XK):Prop
 |mk (r d:LF) (b:xaH) (s:Nat) (h0:vs=[xkz,xbz]) (h1:xm9) (h2:s≤24) (h3:s≤b.length) (h4:xbC (xkK H' xCb->xi9->xtg (num (b.take s)))):T4 C vs H Q LX
def wC (hb:xm2)(h:t+s≤Θ):xm0 s=num (xAM xu0 t s):=by
 show xaD hv (Ox hb) jR hv;rw [yH _ (by show LE K33.C.MG h),K33.C.MG];unfold K33.C.bt;rw [fG,HF hv];rfl
def _root_.K33.Ck.VM.tkB (Z:VM K mg C):∃f fd,xEX C "take" kT xso f fd/\∀P w base,xov xso (T4 C):=by
 obtain⟨f,fd,Tk,G⟩:=Z.tk;refine⟨f,fd,Tk,λ P w base=>(G P w base).imp λ vs H Q E h=>?_⟩;obtain⟨r,d,b,s,rfl,⟨R,t,hR,rfl⟩,hs,SO,k⟩:=h;have hl:xaJ xAl (Θ-t):=by rw [EE,K33.C.MG]
 rw [hl] at SO;have ht:=hR.le;have h:t+s≤Θ:=by lia
 show xg6 ⟨r,d,R,t,s,rfl,hR,hs,h,Sc H' QT kp⟩ (wC hR.by' h) (k H' ⟨R,t+s,QT,by rw [Gz]⟩ kp)
def OX.tr (a:xi9)(b:OX r H' Xe):xsZ Xe:=λ c o e n=>b c o (a c o e n) n
def OX.s (a:xi9)(b:C' H' Xe):xsZ Xe:=λ c o e n=>b c o (a c o e n)
def OX.of (a:UV):xi9:=λ c o e _=>a c o e
def OX.up (a:xi9)(n:Ξ):xsZ (upd H' l o):=λ c o e z=>by show xgp n (a c o e z)
inductive Sa (C:LF) (vs:LT) (H:Hp) (Q:VK) (LX:XK):Prop
 |mk (r d:LF) (b:xaH) (L:Id) (b':xaH) (h0:vs=[xkz]) (h1:xm9) (h2:SE [] 0 b L b') (h3:∀l H',Ξ->xap=xhb->xkK H' b'->xi9->xao):Sa C vs H Q LX
def Od:P3 ["reader","lengths","ahead","told"] Jam rF:=On
def vf (F:Ζ "lengths_in_items" rF Jam)(Z:VM K mg C):xqQ Jam (Sa C):=by
 have X:=Z.Y.X;show xCr XF Z.tkB;have GT:=XF P w base;show xn1 T Z.T tm hm X.many;obtain⟨ta,hag⟩:=X.again;show xeL tl hle X.leastA Od (λ LS A outer st H vs Q E hr h=>?_)
 intro _;obtain⟨r,d,b,L',b',rfl,hR,hI,kQ⟩:=h;show xfo (xgc 1 Od.nd xgT (xa7 2 Od.nd ak (xqI dQ (xuT SZ) xDt (xeX 3 Od.nd (xwQ Uf Tk GT hr xfs) (xpI bG xaz (xaO 7 hag ta) (xi4 Hy HU d9 SZ (xAt il xeW (xb1 (xwQ Uf Tk GT hr xfs) (xaO 3 hle tl)))) (xeX 2 Od.nd xaz (aB (dn Fk FK FV bx SZ xeW)))))) SZ)) dx0 t0 Sw hR.ob;obtain⟨_,Vj⟩:=hR.ls;have no:∀t,W1 xH6:=λ t=>xq7
 refine xbt
 show xa8 (xj1 (xdD l nl));have NP:xeF r:=xe6 Sw;have Pe:xnb:=xe6 Vj;have s0:=xje [];show xlq;show TD xbt (Ψ (λ m σ H2=>∃ah L v3 b,m=272-L.length/\xfm 400/\SE L ah b L' b'/\σ=[SC r,xhl,SL ah,v3]/\xjn=xhb/\xkK H2 b/\xsZ H2) ⟨_,0,[],none,b,rfl,Z9,hI,rfl,ad,hR.same s0,.of s0⟩)
 rintro m σ H2 ⟨ah,L,v3,b,rfl,hL4,hI,rfl,N3,Ni,kp⟩;refine⟨_,rfl,l,_,rfl,Φ N3,_,_,rfl,rfl,_,rfl,xeg hc hc⟩
 rotate_left
 ·have Ng:xgR 272:=by
   show xa3 L.length 272 q q
   ·show xiW (by show xcY) hc
   ·exact q
  refine xAo;cases hI with
  |done _=>exact kQ l H2 nl N3 Ni kp
  |one|rep=>lia
 clear g1;have LU:L.length<272:=by show xdA (EA hc) Es;lia
 clear hc;refine xbV xqr;show xa0 SD t2 OS Ni.ob xom
 show xgs ⟨_,rfl,r,SD,_,rfl,OS,xjo,r,d,b,3,rfl,Ni,Z9,by cases hI<;>lia,λ H3 M4 Mq=>xcZ⟩;have Sy:=xaW N3 NP;have Mq:=xLe;refine xkh _ _ (xeg h7 h7)
 ·have h7:xq4=7:=ME.mp (EA h7);refine⟨_,rfl,xfa Sy,_,rfl,(by show xdy 1),PP l4 n4⟩;have s4:=xaR [xAE] n4;have SU:(xbi H3 l4 [xAE]) l4=Υ [xAE]:=ad;have M3:=M4.same s4;have Vn:=xez Sy;show xiU OR (Mq.s s4) (xbi H3 l4 [xAE]) H4;obtain⟨dx4,t4,Q7⟩:=M3.ob;have n4r:l4≠r:=aG SU Q7 (by show Ε);obtain⟨h6,hI2⟩:6≤b.length-3/\SE (L++xFN (xwz 3 6) 3 ah) ah (b.drop 9) L' b':=by
   cases hI with
   |rep _ h _ q=>show xar (by lia) q
   |done=>lia
   |one _ _ q=>show xab h7 q
  refine⟨_,rfl,r,dx4,_,rfl,Q7,xjo,r,d,_,6,rfl,M3,Z9,by show LE EE h6,Sc H5 Yf Qj⟩;rw [Gz] at Yf;have hb6:xwz 3 6<64:=by
   have:=NZ ((b.drop 3).take 6)
   rwa [EH,EE,Fp h6] at this
  show xas (xwz 3 6) z6 ⟨_,_,rfl,rfl,l4,_,_,rfl,rfl,xlm SU n4r,by lia,by lia,bF (by show xmV (1*_);lia),PP l6 n6⟩;have e1:xi1 (Ty z6) 3=z6+3:=rfl
  try dsimp only
  rw [e1,K33.C.Uv];have s6:=xaR (xFN z6 3 xAE) n6;refine⟨l,l6,_,_,rfl,rfl,xd6 (xlm Vn NP),ad,bF (by rw [Es,Ff];lia),_,?_,ah,_,_,_,rfl,?_,hI2,rfl,by rw [ad,EG,List.map_replicate],(Yf.same s6).upd NP Pe,((OR.tr Qj).s s6).up nl⟩
  ·rw [Et,Ff];exact GZ LU (GQ (Km _))
  ·rw [Et,Ff];lia
 ·have h7:xq4≠7:=No (h7 (xCc z))
  have hI2:SE (L++[xq4]) xq4 (b.drop 3) L' b':=by
   cases hI with
   |one _ _ _ q=>exact q
   |done=>lia
   |rep _ _ q=>show xab q h7
  show xas xq4 y ⟨_,rfl,_,rfl,xfa Sy,_,rfl,l,_,_,rfl,rfl,Sy,bC (by show xcY),_,?_,y,_,_,_,rfl,?_,hI2,rfl,by rw [ad,EG];rfl,M4.upd NP Pe,Mq.up nl⟩
  ·show LE Et (GZ LU xtm)
  ·rw [Et];show _+1≤_;lia
structure Zg (K:Frag)(mg:π)(C G:LF):Prop where
 Z:VM K mg C
 Y:Rds K mg
 items:UF "lengths_in_items" rF Jam
 table:UF "take_table" gs Jam
 place:∃f fd,xhq "place" "BitReader.place" oj
 M:xKD mg G
 mG:mg "CodeReader"=SC G
 init:∃f fd,xfW K "CodeReader.__init__" K33.sCInit f/\xmM xJq/\xjL G
 thing:∃f fd,xj6 G "thing" "CodeReader.thing" qZ xJA f fd
 codesin:UF "codes_in" jG Jam
 thingin:UF "thing_in" kG xDS
def qK {A B:Id}(h:A.map vN=xff):A=B:=by
 have:=xLB (λ v=>match v with|V.int i=>i.toNat|_=>0) h;simpa [GG,Function.comp_def] using this
def Nz:P3 ["reader","begin","lengths"] Jam gs:=On
inductive Wr (C:LF) (vs:LT) (H:Hp) (Q:VK) (LX:XK):Prop
 |mk (r d:LF) (b:xaH) (L:Id) (b':xaH) (h0:vs=[xkz]) (h1:xm9) (h2:SE [] 0 b L b') (h3:xmn) (h4:∀l H',Ξ->xap=xhb->xkK H' b'->xi9->xao):Wr C vs H Q LX
def zm (F:Ζ "take_table" gs Jam)(D:Zg K mg C G):Η 33 Jam (Wr C):=by
 show Ι It D.items Pl D.place;have X:=D.Z.Y.X;have T:=D.Z.T;have GP:=pJ (P:=P) (w:=w) (base:=base) Pl.F T;show xeL tm hm X.many Nz (λ LS A outer st H vs Q E hr h=>?_)
 intro _;obtain⟨r,d,b,L,b',rfl,hR,hI,hL,k⟩:=h;have Md:xba:=SB;refine xbV (xc5 1 Nz.nd (xfJ Uf T.cl Pl GP) (jb (af (xuo Nz.nd (xaK (vf It D.Z) It xbj)))) (xiQ (xhN c8 xHx xDt iE aA) XV))
 show xn7 R t hRa rfl hR;obtain⟨dx,hp⟩:=hRa.ob;have no:∀{m:Str} t,¬xAz m->¬m="held"->xlP xoB m:=λ t h1 h2=>xGv h1 h2
 show xcc ⟨_,rfl,r,dx,_,rfl,hp,xjo Z8 Z8,r,d,R,_,rfl,hRa,?_⟩ ⟨_,rfl,r,d,_,_,_,rfl,hR,hI,λ l H2 nl N3 Ni kp=>?_⟩ ⟨_,rfl,l,_,rfl,Φ N3,_,_,rfl,rfl,_,rfl,xDr (xa9 (xd8 H2 nl N3 Ni kp))⟩;show xdF xbJ Es hL;show xab this (by decide)
inductive QH (C G:LF) (vs:LT) (H:Hp) (Q:VK) (LX:XK):Prop
 |mk (r:LF) (d:LF) (b:xaH) (L:Id) (b':xaH) (h0:vs=[xkz]) (h1:xm9) (h2:SE [] 0 b L b') (h3:xmn) (h4:xvZ) (h5:∀p dp ep H',xid->υ dp->υ ep->xkK H' b'->xCf H' p dp ep L->xi9->xbf xad):QH C G vs H Q LX
def oY (k:xi9)(n:xx5 a)(hr:∃o,H' r=IO):υ a:=by
 cases e:XL with
 |none=>rfl
 |some o=>
  by_cases z:a=r
  ·obtain⟨o',h⟩:=hr;show xbb h n n
  ·show ρ (xmo e z) n n
def rk (F:Ζ "codes_in" jG Jam)(D:Zg K mg C G):Η 36 Jam (QH C G):=by
 obtain⟨_,_,Ta⟩:=D.table;show xj4 bI MI D.init;have GT:=zm (P:=P) (w:=w) (base:=base) Ta D;show xbo uH (λ LS A outer st H vs Q E hr h=>?_);obtain⟨r,d,b,L,b',rfl,hR,hI,hl,hG,k⟩:=h;have SX:xah 33:=SB;show xcR (af (jb (xbU (fF MI (K33.C.ok_cinit FI D.M) hr Z7 D.mG bI .nil a7 (xbe (aD GT SX Ta xbj)))))) ⟨_,rfl,r,d,b,L,b',rfl,hR,hI,hl,λ l H1 nl h1l hR1 kp x dx nx ndx _=>?_⟩;have s1:=xuM G ndx;show xa0 N4 t1 Md hR1.ob ⟨x,dx,l,L,rfl,ad,xcb h1l,hG,λ dp ep H2 Sv W4 hC Qk=>xhA⟩;have kk:xsZ H2:=λ c o e' n=>xpr (xcb (xat e' n)) (ae (xat e' n) nx)
 have nn:∀{a},xgW a->υ a:=λ n=>oY kp n (xa1 Md)
 exact k x dp ep H2 (nn nx) (nn (xkb Sv)) (nn (xkb W4)) ((hR1.same s1).keep λ c o e hc=>xpr e (by
  rintro rfl;show xcv hc
  ·show xbb Md nx nx
  ·obtain⟨_,hd1⟩:=hR1.ls;show xbb hd1 nx nx)) hC kk
inductive Qv (C G:LF) (vs:LT) (H:Hp) (Q:VK) (LX:XK):Prop
 |mk (p dp ep r d:LF) (b:xaH) (L:Id) (q s:Nat) (h0:vs=[xkz,xad]) (h1:xCf H p dp ep L) (h2:xvZ) (h3:xm9) (h4:C10.Due L b (.thing q s)) (h5:xbC (xkK H' xCb->xi9->xtg q)):Qv C G vs H Q LX
def qQ (F:Ζ "thing_in" kG xDS)(D:Zg K mg C G):Η 33 xDS (Qv C G):=by
 show xiE Th D.thing Z D.Z;have GT:=K33.C.WW (P:=P) (w:=w) (base:=base) Th.F D.M.R ⟨Z.Y.X,Z.Y.whole,Z.size,Z.ones,Z.bits,Z.take,Z.left,D.place,Z.T⟩;show xbo vE (λ LS A outer st H vs Q E hr h=>?_);obtain⟨p,dp,ep,r,d,b,L,q,s,rfl,hC,hG,⟨R,t,hR,rfl⟩,hD,k⟩:=h;show xbD dx hp hC.ob (xwD (jb (xbU (xBc D.M.R.cl Th GT hr xbj))));exact⟨_,rfl,p,dx,_,rfl,hp,K33.C.fC_no _ _ Z8 Z8,_,rfl,p,dp,ep,r,d,L,R,t,_,_,rfl,hC,hG,hR,hD,λ H' QT kp=>k H' ⟨R,t+s,QT,by rw [Gz]⟩ kp⟩
universe K33.Ck
namespace K33.M
open BP C9 C10 W17
inductive VL (L:Id) (e:Nat):Id->xaH->Id->Ο xaH
 |done {S:Id} {b:xaH}:xzD e->xo8 e S b S b
 |sg {S T:Id} {q s:Nat} {b b':xaH}:xtc e->xsw L b q s->xaq q->xo8 e (S++[q]) xCb T b'->xo8 e S b T b'
 |cp {S T:Id} {q s:Nat} {b b':xaH}:xtc e->xsw L b q s->256≤q->8≤(xCb).length->ω (xwz s 8)->xf5 (xwz s 8)->xsk (q-256+3)≤e->xo8 e (K33.Ck.cpy S (xwz s 8) (q-256+3)) ((xCb).drop 8) T b'->xo8 e S b T b'
def VL.le (h:xo8 e S b T b'):xG5 e:=by
 cases h with
 |done h=>exact EL h
 |sg h=>exact EZ h
 |cp h=>exact EZ h
universe K33.M
namespace K33.Ck
open PySem L2 QQ W17 W16 BP K33.M
seal PE PA PS PSs PT PW PG PI
inductive RI (C:LF) (vs:LT) (H:Hp) (Q:VK) (LX:XK):Prop
 |mk (o r d x:LF) (W:Id) (b b':xaH) (n:Nat) (L T:Id) (b1:xaH) (h0:vs=[xga,xkz,xdH,xbk]) (h1:xm9) (h2:xhp=xkU) (h3:xhc n) (h4:xkB) (h5:SE [] 0 b L b1) (h6:xmn) (h7:xvZ) (h8:xo8 xtS W b1 T b') (h9:∀l H',Ξ->xap=xaf xIX->xkK H' b'->xi9->xao):RI C vs H Q LX
def _root_.K33.C.Nj.but2 (h:xCf H p d e L)(h':RB C H r g b)(s:xi9):xCf H' p d e L:=by
 obtain⟨R,t,h',_⟩:=h';exact h.but h' s
def va (F:Χ "read" "ShareWay.read" lW)(D:Zg K mg C G):Η 37 Jad (RI C):=by
 have Z:=D.Z;have Y:=D.Y;have X:=Z.Y.X;show xCr XF Z.tkB;have GT:=XF P w base;have TR:=Z.T;show Ι La Y.lay Ao Y.ahead;show Ι Ci D.codesin Ti D.thingin;have GA:=jH (P:=P) (w:=w) (base:=base) Ao X;have GL:=xh (P:=P) (w:=w) (base:=base) La Y;have GC:=rk (P:=P) (w:=w) (base:=base) Ci D;show xn1 GI (qQ (P:=P) (w:=w) (base:=base) Ti D) tl hle X.least;show xnh tf hfi X.first (F.ok MU λ LS A outer st H vs Q E hr h=>?_) _;obtain⟨o,r,d,x,W,b,b',n,L,T,b1,rfl,hR,hx,MO,hW,hI,hl,hG,hk,k⟩:=h;have SX:xah 33:=SB;have XS:xah 32:=SB;have Qh:xah 31:=SB;have Md:xba:=SB;show xfo (xgc 4 MU.nd (xcs GA Ao (xeH 3)) (xaQ 5 MU.nd xwm (xaQ 6 MU.nd (xb1 xcr XV) (xa7 7 MU.nd (xaK GC Ci xdb) (xqI dQ xwm xkw (xeX 8 MU.nd (aD GI SX Ti (xbP 1 7)) (xpI dQ (pv 8) (xaO 256 hfi tf) (aB (dn Fk FK FV bx xan (xeH 8))) (xeX 9 MU.nd (xun Qh xfs) (aB (aD GL XS La (xcl 4 (xcl 9 (aa (xb1 (xgi (pv 8) (xaO 256 hfi tf)) (xaO 3 hle tl)) (xeH 6)))))))))) (aV bh xan (aP xcr) bQ))))) dx0 t0 Sw hR.ob;obtain⟨_,Vj⟩:=hR.ls;have no:∀t,W1 xH6:=λ t=>xq7
 refine xbt
 show xa8 ⟨_,rfl,x,W,rfl,hx,xdD l nl⟩;have NP:xeF r:=xe6 Sw;have Pe:xnb:=xe6 Vj;have s0:=xje xlG;have h0l:(xfb xlG) l=xkU:=ad;have hR0:=hR.same s0;have kp0:xsZ (xfb xlG):=.of s0;show xas (xfb xlG) H0 xbt
 show xa8 ⟨_,rfl,l,_,rfl,Φ h0l,Β⟩
 try dsimp only
 show ST Es xbt
 show xa8 ⟨_,rfl,_,rfl,_,_,rfl,rfl,Β⟩;have e0:xBB+xai=M2 (W.length+n):=rfl
 try dsimp only
 rw [e0];generalize he:xtS=e at*;refine xbt
 show xa8 ⟨_,rfl,r,d,b,L,b1,rfl,hR0,hI,hl,hG,λ p dp ep H1 np Sv W4 hR1 XB NA=>Β⟩;have h1l:=xrG _ h0l NP;have NQ:xau l:=ae h0l np;have nldp:xeF dp:=ae h0l Sv;have nlep:xeF ep:=ae h0l W4;have NA:=kp0.tr NA;clear kp0 hR0 h0l s0 hI;show TD xbt (Ψ (λ m σ H2=>∃v8 v9 S b,m=e-S.length/\xo8 e S b T b'/\σ=[SC o,SC r,xo9,SC x,xhl,SL W.length,SL e,xd3,v8,v9]/\xjn=xi5/\xkK H2 b/\xCf H2 p dp ep L/\xsZ H2) ⟨_,none,none,W,b1,rfl,hk,rfl,h1l,hR1,XB,NA⟩)
 rintro m σ H2 ⟨v8,v9,S,b,rfl,hk,rfl,N3,Ni,TH,kp⟩;have hle2:=hk.le;refine⟨_,rfl,l,_,rfl,Φ N3,_,rfl,_,_,rfl,rfl,_,rfl,xeg h h⟩
 ·clear g1;show xaD h' xbJ Es h';have LU:xtc e:=Int.ofNat_lt.1 h';clear h h';show xcR xqr xom
  cases hk with
  |done h=>show xab LU (xFh (EL h.symm))
  | @sg _ _ q s _ _ _ hD hq hk=>
   show xgs ⟨_,rfl,_,rfl,p,dp,ep,r,d,b,L,q,s,rfl,TH,hG,Ni,hD,λ H3 M4 Mq=>xcZ⟩;show xjM Sy (xaW N3 NP) ⟨_,rfl,_,_,rfl,rfl,_,rfl,xw9 (Ez (by omega)) h⟩ ⟨_,rfl,xfa Sy,_,rfl,l,_,_,rfl,rfl,Sy,bC (by show xcY),_,?_,_,_,_,_,rfl,hk,rfl,by rw [ad,EG];rfl,M4.upd NP Pe,?_,(xLe).up nl⟩
   ·show LE Et (GZ LU xtm)
   ·refine(TH.but2 Ni Mq).keep λ c o' e' hc=>?_
    show Re (by show xrw hc rfl rfl;exact NQ.symm;exact nldp.symm;exact nlep.symm) e'
  | @cp _ _ q s _ _ _ hD hq h8 MN O6 hb3 hk=>
   show xgs ⟨_,rfl,_,rfl,p,dp,ep,r,d,b,L,q,s,rfl,TH,hG,Ni,hD,λ H3 M4 Mq=>xcZ⟩;obtain⟨OF,t3,NL⟩:=M4.ob;show xjM Sy (xaW N3 NP) ⟨_,rfl,_,_,rfl,rfl,_,rfl,xAH xbJ (by lia) xb8⟩ xom
   show xgs ⟨_,rfl,r,OF,_,rfl,NL,xjo,r,d,_,8,rfl,M4,Z9,h8,λ H4 M3 OR=>xcZ⟩;have e1:Ty q-256+3=M2 (q-256+3):=by omega
   have Vn:=xjy Sy NP;refine⟨_,rfl,_,rfl,_,rfl,_,_,rfl,rfl,_,_,rfl,rfl,_,rfl,?_⟩
   try dsimp only
   show ST e1 ⟨l,S,_,_,e,rfl,Vn,by lia,MN,O6,hb3,_,?_,_,_,_,_,rfl,hk,rfl,ad,M3.upd NP Pe,?_,((xLe).tr OR).up nl⟩
   ·show LE cS (GZ LU (GQ (Km _)))
   ·refine((TH.but2 Ni Mq).but2 M4 OR).keep λ c o' e' hc=>?_
    show Re (by show xrw hc rfl rfl;exact NQ.symm;exact nldp.symm;exact nlep.symm) e'
 ·cases hk with
  |sg q1=>show xiW (by rw [Es];omega) h
  |cp q1=>show xiW (by rw [Es];omega) h
  |done TC=>
   show xa8 Β;have ec:cutV xnm (some xBB) none=Κ xIX:=by rw [ft,<-Hs]
   refine⟨_,rfl,_,rfl,_,rfl,l,_,rfl,K'.of N3,PP l9 n9⟩
   try dsimp only
   rw [ec];have s9:=xcQ xIX n9;show xay dx9 t9 Xs Ni.ob (k l9 _ (oY kp n9 (xa1 Xs)) ad (Ni.same s9) (kp.s s9))
universe K33.Ck
namespace L2
open PySem
def uj (hK:X.K=K)(he:xl4 e)(hb:xJk f X.env xAu=xAu):xal (xB0 e pos) (CJ K ta f):=by subst hK;exact az he hb
def Bq (hK:X.K=K)(ha:xli)(hb:xre b)(hs:tR b):xal (xvr a b) (UE (Zp K) ta tb):=by subst hK;exact aR a6 ha hb hs
universe L2
namespace K33.Ck
open PySem L2 QQ W17 W16 BP K33.M
seal PE PA PS PSs PT PW PG PI
abbrev mE:LP:=top 106
abbrev gq:LP:=top 107
inductive XE (R W:Id):xi3 (Id->Ο Nat)
 |raw:XE R W 0 R.length R Θ
 |run {v t:Nat} {T:Id}:Zi R v 0 [] t T->XE R W 1 v T t
 |cpy {v t:Nat} {S:Id}:xo7 (xEu v) 0 W t S->XE R W 2 v xIW t
 |shr {v t:Nat} {L S:Id} {b1:xaH}:SE [] 0 xu0 L b1->xmn->xvZ->xo8 (xEu v) W b1 S xAl->t≤Θ->XE R W 3 v xIW t
inductive Yu (C:LF) (u:Nat) (vs:LT) (H:Hp) (Q:VK) (LX:XK):Prop
 |mk (o r d x:LF) (R W T:Id) (n t:Nat) (h0:vs=[xga,xkz,xdH,xbk]) (h1:xjK H 0) (h2:xhp=xkU) (h5:xhc n) (h6:xkB) (h7:XE R W u n T t) (h8:∀l H',Ξ->xap=xce->xjK H' t->xi9->xao):Yu C u vs H Q LX
structure RdG (P:LI)(w:LJ)(K:Frag)(mg:π)(base:LM)(C Cu:LF)(u:Nat):Prop where
 cl:Cls K Cu
 read:∃f fd,Meth K Cu "read" f/\xmM Jad/\Η 37 Jad (Yu C u)
structure U8 (K:Frag)(mg:π)(C G C0 C1 C2 C3:LF):Prop where
 D:Zg K mg C G
 r0:∃f fd,xH8 C0 "RawWay.read" jx Jad f fd
 r1:∃f fd,xH8 C1 "RunWay.read" kq Jad f fd
 r2:∃f fd,xH8 C2 "CopyWay.read" hV Jad f fd
 r3:∃f fd,xH8 C3 "ShareWay.read" lW Jad f fd
def U8.ok (Z:U8 K mg C G C0 C1 C2 C3)(c0:Cls K C0)(c1:Cls K C1)(c2:Cls K C2)(c3:Cls K C3)(hu:u<4):RdG P w K mg base C (cs C0 C1 C2 C3 u) u:=by
 have D:=Z.D;show xB4 u
 ·show xxV M Z.r0 ⟨c0,_,_,M.m,M.b,((rT M.F D.Z).mono Z9).imp λ vs H Q E h=>?_⟩;obtain⟨o,r,d,x,R,W,T,n,t,rfl,hR,hx,MO,hW,hk,k⟩:=h;cases hk;exact⟨o,r,d,_,R,_,rfl,hR,MO,Tl,λ l H' nl hl QT kp=>xd8 H' nl (by show WF Fy hl hl) QT kp⟩
 ·show xxV M Z.r1 ⟨c1,_,_,M.m,M.b,((rm M.F D.Y D.Z).mono Z9).imp λ vs H Q E h=>?_⟩;obtain⟨o,r,d,x,R,W,T,n,t,rfl,hR,hx,MO,hW,hk,k⟩:=h;cases hk with
  |run q=>exact⟨o,r,d,_,R,T,n,t,rfl,hR,q,MO,k⟩
 ·show xxV M Z.r2 ⟨c2,_,_,M.m,M.b,((pj M.F D.Y D.Z).mono Z9).imp λ vs H Q E h=>?_⟩;obtain⟨o,r,d,x,R,W,T,n,t,rfl,hR,hx,MO,hW,hk,k⟩:=h;cases hk with
  |cpy q=>exact⟨o,r,d,x,R,W,_,n,_,rfl,hR,hx,q,MO,hW,k⟩
 ·show xxV M Z.r3 ⟨c3,_,_,M.m,M.b,(va M.F D).imp λ vs H Q E h=>?_⟩;obtain⟨o,r,d,x,R,W,T,n,t,rfl,hR,hx,MO,hW,hk,k⟩:=h;cases hk with
  | @shr _ _ L S b1 q1 q2 q3 q4 q5=>
   refine⟨o,r,d,x,W,_,_,n,L,S,b1,rfl,⟨R,0,hR,rfl⟩,hx,MO,hW,q1,q2,q3,q4,λ l H' nl hl QT kp=>xd8 H' nl hl ?_ kp⟩;obtain⟨R',t',QT,e⟩:=QT;obtain⟨dx,hp⟩:=hR.ob;have nrd:d≠r:=xro hR.ls (by show Ε);have eR:R'=R:=qK (HO.lst.inj (Fb (QT.ls.symm.trans (xat hR.ls nrd))));subst eR;have e':=xjS e;rw [EE,EE,K33.C.MG] at e';have ht:=QT.le;obtain rfl:t=t':=by lia
   exact QT
 ·lia
inductive RF (Mc:LF) (vs:LT) (H:Hp) (Q:VK) (LX:XK):Prop
 |mk (a h x dx:LF) (R W T:Id) (u v y t:Nat) (h0:vs=[Tm,xD6,xbk]) (h1:XL=xkT) (h2:xm2) (h3:H h=xeJ Mc (fH u v y)) (h4:xhp=xkU) (h5:xkB) (h6:xhc v) (h7:u<4) (h8:XE R W u v T t) (h9:Θ-t<8) (h10:xxt%2^(Θ-t)=0) (Qe:∀l H',Ξ->UV->xap=xce->xao):RF Mc vs H Q LX
def PD:P3 ["body","head","window","reader","text"] ["body","head","window"] mE:=On
def uQ (F:Ζ "text_in" mE ["body","head","window"])(Z:U8 K mg C G C0 C1 C2 C3)(W:VJ K mg B D G' CW C0 C1 C2 C3)(T:CH K mg Mc):
  Η 38 ["body","head","window"] (RF Mc):=by
 have D:=Z.D.Z;have Y:=Z.D.Y;show xj4 bI MI D.init;show Ι N D.need Wy W.ways;show Ι Ae D.atend L D.left;show Ι O D.ones Ba D.bits;show xbo PD (λ LS A outer st H vs Q E hr h=>?_);obtain⟨a,h,x,dx,R,Wn,T',u,v,y,t,rfl,ha,hb,hh,hx,hW,hv,hu,hk,h1,h2,k⟩:=h;have Xu:xah 6:=SB;have NL:xrL:=SB;have Md:xba:=SB;have GI:=wj (P:=P) (w:=w) (base:=base) FI N D.Y D.T;have GW:=tF (P:=P) (w:=w) (base:=base) Wy.F W;have GA:=wB (P:=P) (w:=w) (base:=base) Ae.F Ba O L D.T D.Y.X;obtain⟨cl,_,_,mR,bR,GR⟩:=Z.ok (P:=P) (w:=w) (base:=base) W.raw.W.cl W.run.W.cl W.cpy.W.cl W.shr.W.cl hu;show xcR (xc5 3 PD.nd (fF MI GI Xu Z7 D.m bI .nil a7 xbj) (jb (af (xrI PD.nd (eE (Bq (K:=K) rfl (ou GW Md Z7 Wy.m Wy.F.kp Wy.b .nil a7) (uj (K:=K) rfl SZ rfl) xnj) cl mR GR hr bR .nil a7 (xcl 3 (aa (uj (K:=K) rfl SZ rfl) xeW)))))) (xiQ (xql (bz xaz D.T.cl Ae GA NL)) xan)) (ar λ R1 g1=>xa9 (λ p dp np Sv W4=>?_))
 have s0:=xkd C np Sv;show xa8 ⟨p,dp,a,R,rfl,ad,xhW ha,hb,λ d H2 nd hR kp=>xcC Β⟩;have s2:xkS:=λ c o e=>xat xqB xn3
 refine ar λ R2 g2=>xcC (λ l os ds H3 nl no hl ho s3=>?_)
 have hh3:=xzH hh;have M4:xkM H3 p 0:=hR.keep λ c o e _=>xcf e
 refine⟨_,rfl,h,Mc,dx,_,_,rfl,hh3,T.cl,T.nW,Dn _ _ _,l,_,_,_,rfl,rfl,xze,xIf u (gx4 hu),?_⟩;show xgs ⟨os u,ds u,[],rfl,ho u hu,rfl,_,rfl,_,rfl,h,Mc,dx,_,_,rfl,hh3,T.cl,T.nC,DK _ _ _,_,rfl,os u,p,d,x,R,Wn,T',v,t,rfl,M4,xzH hx,hv,hW,hk,λ l' H4 nl' h4 M3 OR=>xcZ⟩;have s4:xco H4:=λ c o e=>xjy (xzH e) xn3
 show xbD dp4 Q9 M3.ob (ar λ R1 g1=>⟨_,rfl,p,dp4,_,rfl,Q9,xq7,p,d,R,t,rfl,M3,h1,h2,PP H5 s5⟩)
 refine xEM;exact bi (xzY (k l' H5 (none_of (s2.trans s3) nl') (s4.trans s5) (xam h4)))
def x3 (g:Good ps)(h:Pk (xug 0) xcA R):∃e,e<8/\Θ=xcA+e/\xu0=xsG++xxB e/\xxt%2^e=0:=by
 have hl:=h.len;have hle:xcA≤Θ:=by lia
 refine⟨Θ-xcA,by lia,by lia,?_,?_⟩
 ·have hn:xxt=num (xsG++xxB (Θ-xcA)):=by
   rw [dF,L8,fG,vy g,h.num,Nat.zero_mod,HP]
  have hlen:xaN xsG (xxB (Θ-xcA))=Θ:=by
   rw [Et,dt,L8];lia
  refine C10.Ux (by rw [K33.C.MG,hlen]) ?_;unfold K33.C.bt;show xaD LU (NZ (xsG++xxB (Θ-xcA))) hlen LU;rw [fG,hn];exact HF LU
 ·rw [h.num,Nat.mul_mod_left]
def eI (hb:xm2)(hn:n<2^s)(e:xAl=xtX s++r)(ht:t≤Θ):t+s≤Θ/\xm0 s=n/\(xu0).drop (t+s)=r:=by
 have hl:=xjS e;rw [EE,K33.C.MG,Et,L8] at hl;have h1:t+s≤Θ:=by lia
 refine Ψ h1 ?_
 ·rw [wC hb h1,e,ie hn]
 ·rw [<-Gz,e,d7]
theorem oG (hb:xm2):∀{rs} {t} {S},(∀q∈rs,ω xbl/\xhc xbl/\xaq xa5)->t≤Θ->xAl=xrj (pR rs) z->Zi R (xsk (xHY).length) t S (t+xl0 rs) (S++xHY)
 | [],t,S,_,_,_=>by
  rw [xcd (exp []) [],Fw];exact .done rfl
 |q::rs,t,S,hq,ht,e=>by
  obtain⟨h1,h2,h3⟩:=hq q ER;rw [jd,bK,bK,Eu,Eu] at e;obtain⟨a1,a2,a3⟩:=xxC (show xbl-1<2^6 by show _<64;lia) e ht;obtain⟨b1,b2,b3⟩:=xxC (show xa5<2^8 from h3) a3 a1;have ee:exp (q::rs)=xEK xa5++xHY:=rfl;have e6:xm0 6+1=xbl:=by show xaF a2
  have ih:=oG hb (S:=S++xEK xa5) (λ x hx=>hq x xzp) b1 b3;rw [Et,Ff,Eu] at ih;rw [ee,jd,b8,b8,Et,Ff];refine .run (by lia) b1 (by show xaF e6) ?_;rw [e6,b2,show t+(6+(8+xl0 rs))=t+14+xl0 rs by lia,<-FD];exact ih
theorem qW (B)(b):∀n,K33.Ck.cpy B b n=K33.cpy B b n
 |0=>rfl
 |n+1=>by rw [K33.Ck.cpy,K33.cpy,qW B b n]
theorem iC (hb:xm2):∀{Pp} {t} {S},GR S Pp->t≤Θ->xAl=xrj (pP Pp) z->xo7 (xFY S Pp) t S (t+xxI) (runP S Pp)
 | [],t,S,_,_,_=>.done rfl
 |x::Pp,t,S,g,ht,e=>by
  obtain⟨gx,gr⟩:=g;show xaD hl gr.len gn hl;have er:runP S (x::Pp)=runP (app S x) Pp:=rfl;cases x with
  |sg s=>
   rw [eK,xcd (pcP xkp) [(0,1),(s,8)],HW,HW,FJ,bK,bK,Eu,Eu] at e;obtain⟨a1,a2,a3⟩:=xxC (show 0<2^1 by decide) e ht;obtain⟨b1,b2,b3⟩:=xxC (show s<2^8 from gx) a3 a1;have ih:=iC hb gr b1 b3;rw [er,eK,aQ];refine .sg (by show xtc _;have:(Pc.sg s).size=1:=rfl;lia) b1 a2 ?_;rw [b2,show t+(xnI xkp+xxI)=t+1+8+xxI by show xaF (xcd (xnI xkp) 9)];exact ih
  |cp b y=>
   obtain⟨g1,g2,g3,g4,g5⟩:=gx;rw [eK,xcd (pcP (xxs y)) [(1,1),(b,8),(y-3,4)],HW,HW,HW,FJ,bK,bK,bK,Eu,Eu,Eu] at e;obtain⟨a1,a2,a3⟩:=xxC (show 1<2^1 by decide) e ht;obtain⟨b1,b2,b3⟩:=xxC (show b<2^8 by show xaq _;lia) a3 a1;obtain⟨c1,c2,c3⟩:=xxC (show y-3<2^4 by show _<16;lia) b3 b1;have ih:=iC hb gr c1 c3;have ey:y-3+3=y:=by lia
   have e9:xeh (t+9) 4=y-3:=c2;have hsz:xLb b y=y:=rfl;rw [er,eK,aQ];refine .cp (by lia) (by show t+1+8+4≤_;exact c1) a2 (by rw [e9,ey];lia) (by show LE b2 g1) (by show LE b2 g3) ?_;rw [b2,e9,ey,qW,show t+(xnI (xxs y)+xxI)=t+1+8+4+xxI by show xaF (xcd (xnI (xxs y)) 13)];exact ih
theorem gv:∀{It:xsf} {L:Id} {a:Nat},(xGV It x)->L.length+xBT a≤272->SE (L++xsd a) (W13.nxtS a It) r L' b'->SE L a (xrj xjT r) L' b'
 | [],L,a,_,_,h=>by rwa [xcd (xHm []) [],Fw] at h
 |x::It,L,a,hk,hl,h=>by
  have hx:=hk x ER;have ep:W13.puts (x::It)=x.puts++xjT:=by simp [W13.puts]
  rw [ep,eF,Eu];cases x with
  |one l=>
   have h6:l≤6:=hx;have h8:l<2^3:=by show _<8;lia
   rw [xcd (xHm (.one l::It)) (l::xsd l)] at h hl;rw [EK] at hl;show ST (xaA (xMP (.one l)) (dig l 3) (by simp [W13.Itm.puts,bitsP])) (.one (by lia) (by rw [Et,L8];lia) (by show xaF (ie h8)) ?_);rw [ie h8,d7];show xg6 (gv (λ y hy=>hk y xwp) (by rw [Et];show _+1+_≤_;lia) ?_) Eu h
  |rep n=>
   obtain⟨h3,h66⟩:xbv 3/\n≤66:=hx;rw [xcd (xHm (.rep n::It)) (xpJ n++xsd a)] at h hl;rw [Et,Ff] at hl;rw [xaA (xMP (.rep n)) (dig 7 3++dig (n-3) 6) (by simp [W13.Itm.puts,bitsP]),Eu];have e1:num ((dig 7 3++(dig (n-3) 6++(xrj xjT r))).take 3)=7:=ie (by decide) _;have e2:num (xAM (dig 7 3++(dig (n-3) 6++(xrj xjT r))) 3 6)=n-3:=by rw [d7,ie (show n-3<2^6 by show _<64;lia)]
   refine .rep (by lia) (by rw [Et,Et,L8,L8];lia) e1 ?_;rw [e2,xcd (xjm 9) (3+6),<-Gz,d7,d7,show n-3+3=n by lia];show xg6 (gv (λ y hy=>hk y xwp) (by rw [Et,Ff];lia) ?_) Eu h
def xU (g:xvZ)(hq:xpo)(hs:xrO)(c):C10.Due L (xwu q s s++c) (.thing q s):=by
 have hl:xaJ (xwu q s s) s:=L8 _ _;have hn:num (xwu q s s)=xvb q s:=C10.ZP g hq hs;refine⟨by rw [Et,hl];lia,?_,xuK⟩
 ·show LE (KD hl) ⟨by show LE hl hq,by show LE hl hs,by rw [hl,hn]⟩
 ·rw [FU (by show LE hl (EZ hj))];have elj:xaJ ((xwu q s s).take j) j:=by rw [EH,hl];lia
  refine⟨q,s,hq,by show LE elj hj,?_⟩;rw [elj,C10.Sn _ (by show LE hl (EZ hj)),hl,hn]
theorem jU:∀{Pp} {S},Zh L Pp->GR S Pp->xo8 (xFY S Pp) S (xrj xts z) (runP S Pp) z
 | [],S,_,_=>.done rfl
 |x::Pp,S,k,g=>by
  obtain⟨gx,gr⟩:=g;show xaD hl gr.len gn hl;have er:runP S (x::Pp)=runP (app S x) Pp:=rfl;obtain⟨k1,k2,_⟩:=k.at ER gx;have ih:=jU (z:=z) (⟨k.good,k.len,k.six,λ y hy=>k.has y xwp⟩:Zh L Pp) gr;rw [er,sZ,eF,Eu];cases x with
  |sg s=>
   show ST (xaA (bitsP (cP L xkp)) (xwu s xxb xxb) (by simp [cP,bitsP])) (.sg (by have:(Pc.sg s).size=1:=rfl;lia) (xU k.good k1 k2 _) gx ?_);rw [xcd (th xkp) s,d7];exact ih
  |cp b y=>
   obtain⟨g1,g2,g3,g4,g5⟩:=gx;rw [xaA (bitsP (cP L (xxs y))) (xwu (253+y) (xc4 (253+y)) (xc4 (253+y))++dig b 8) (by simp [cP,bitsP]),Eu];have hsz:xLb b y=y:=rfl;have e1:num (xAM (xwu (253+y) (xc4 (253+y)) (xc4 (253+y))++(dig b 8++(xrj xts z))) (xc4 (253+y)) 8)=b:=by rw [d7,ie (show b<2^8 by show xaq _;lia)]
   have e2:253+y-256+3=y:=by lia
   refine .cp (q:=253+y) (s:=xc4 (253+y)) (by lia) (xU k.good k1 k2 _) (by lia) (by rw [d7,Et,L8];lia) (by show LE e1 g1) (by show LE e1 g3) (by show xaF e2) ?_;rw [e1,e2,qW,d7,d7];exact ih
theorem pO:∀T N,cL (xHX s (s,8)) N=N*256^T.length+val T
 | [],N=>by show N=_;rw [tV,JT,Nat.pow_zero];lia
 |s::T,N=>by
  show cL (xHX s (s,8)) (N*2^8+s)=_;rw [pO T,fq,EK];show(N*256+s)*256^T.length+val T=_;rw [IV,Gn,F5 256,FD,<-Gm]
def zv (h:xpp)(t:xll)(r:Pk (xug 0) xcA R):XE R W u T.length T xcA/\Θ-xcA<8/\xxt%2^(Θ-xcA)=0:=by
 obtain⟨gd,_⟩:=h.good t;obtain⟨e,he,hl,hbt,hv⟩:=x3 gd r;have ee:Θ-xcA=e:=by lia
 refine⟨?_,by show LE ee he,by show LE ee hv⟩;have h0:0≤Θ:=xac;show xB4 u
 ·obtain rfl:ps=xoN:=h;have ht:=dS T;have hlen:R.length=T.length:=by show xbu r.len
  have hv':xxt=val T:=by
   rw [r.num,show Θ-tots xoN=0 by lia,Nat.pow_zero,Nat.mul_one];show cL (xHX s (s,8)) 0=_;rw [pO,Nat.zero_mul,F6]
  obtain rfl:R=T:=sA r.byt t.tb hlen hv';show LE ht .raw
 ·obtain rfl:ps=pf true T:=h;have q:=oG r.byt (S:=[]) (wP t.le t.tb) h0 hbt;rw [mq,FJ,F6,JT,F6] at q;exact .run q
 ·show xdt Pp w h;obtain⟨g,er,_⟩:=dC t.wb t.tb w;have q:=iC r.byt g h0 hbt;rw [er,F6,Et] at q;have:=XE.cpy q
  rwa [JA] at this
 ·obtain⟨Pp,L,It,b,w,sl,wi,rfl⟩:=h;obtain⟨g,er,_⟩:=dC t.wb t.tb w;have h1:xFz:=by
   cases Pp with
   |nil=>
    show xdA (xjS (xaA W (W++T) er)) Et;show xbu t.one
   |cons=>exact HV xac
  have k:=sl.tok g h1;have hd:=W13.Pw wi;rw [IE,FJ,<-k.len,Fy] at hd;have q:=jU (z:=xxB e) k g;rw [er,Et] at q;have hI:SE [] 0 xu0 L (xrj xts (xxB e)):=by
   rw [hbt,eF,Eu];refine gv (W13.O8 k.six wi) (by rw [<-hd,k.len];exact EL rfl) ?_;rw [FJ,<-hd];exact .done (EL k.len.symm)
  have ez:(xu0).drop (tots (xjT++xts))=xxB e:=by rw [hbt,<-dt,JA]
  have:=XE.shr (W:=W) (v:=T.length) hI k.len k.good (by show LE ez q) (by lia)
  rwa [JA] at this
 ·exact h.elim
inductive OJ (cK:LF) (vs:LT) (H:Hp) (Q:VK) (E:XK):Prop
 |mk (x z:LF) (W R:Id) (h0:vs=[xbk,.ref z]) (h1:xhp=xkT) (h2:H z=xkU) (h3:(∃T,PB W T R/\xll/\∀l H',Ξ->UV->xap=xce->xao)\/(xeC W/\xkB/\xeC R/\sld (xwG R.length 2)≠R/\(∃a b r,R=xbm++r/\xaq a/\xb6/\xph/\xtL (b+2))/\xbC (UV->xjg cK))):OJ cK vs H Q E
def M0:P3 ["row","before","block","window","head"] ["row","before"] gq:=On
structure Tbk (K:Frag)(mg:π)(CK Mc C G C0 C1 C2 C3:LF):Prop where
 H:Yq K mg CK Mc
 Z:U8 K mg C G C0 C1 C2 C3
 ahead:UF "need_ahead" dJ xj9
 win:UF "need_window" eg xvk
 nhead:UF "need_head" iL xGC
 headof:UF "head_of" gO Jal
 bsize:UF "block_size" dP xwg
 ends:UF "ends_in_check" lU Jal
 wcheck:UF "with_check" dW Jal
 textin:UF "text_in" mE ["body","head","window"]
def yG (hi:i<4)(h1:ω n)(h2:xhc n):xaq (64*i+n-1):=by omega
theorem rO:∀(It:xsf) (a:Nat),(xGV It x)->9*xBT a≤66*xqi
 | [],_,_=>xac
 |x::It,a,hk=>by
  have hx:=hk x ER;have ep:W13.puts (x::It)=x.puts++xjT:=by simp [W13.puts]
  rw [ep,aQ];cases x with
  |one l=>
   have ih:=rO It l λ y hy=>hk y xwp
   show 9*(xBT l+1)≤66*(3+_);lia
  |rep n=>
   obtain⟨_,h66⟩:xbv 3/\n≤66:=hx;have ih:=rO It a λ y hy=>hk y xwp
   rw [xcd (xHm (.rep n::It)) (xpJ n++xsd a),Et,Ff];show _≤66*(9+_);lia
def Np.low (h:xpp)(t:xll):8≤xcA/\(xwd 2->9≤xcA):=by
 have h1:=t.one;show xB4 u
 ·obtain rfl:ps=xoN:=h;show LE dS ⟨by lia,λ _=>by lia⟩
 ·obtain rfl:ps=pR xkr:=h
  suffices 14≤xl0 xkr from⟨by lia,λ _=>by lia⟩
  have e:=mq T;cases z:xkr with
  |nil=>rw [z] at e;rw [<-xaA [] T e] at h1;cases h1
  |cons q rs=>rw [jd,b8,b8];lia
 ·show xdt Pp w h;have Yg:=mV w (by show LE Et (GQ h1))
  suffices 9≤xxI from⟨by lia,λ _=>this⟩
  cases Pp with
  |nil=>cases Yg
  |cons x Pp=>
   rw [eK,aQ];cases x with
   |sg s=>exact EY 9 _
   |cp b y=>show 9≤13+_;lia
 ·obtain⟨Pp,L,It,b,w,sl,wi,rfl⟩:=h;obtain⟨_,_,_,_,tok,hk,hd⟩:=o7 t w sl wi;have hl:=rO It 0 hk;rw [hd,tok.len] at hl;show LE aQ ⟨by lia,λ _=>by lia⟩
 ·exact h.elim
def PB.parts (h:PB W T R)(t:xll):∃i ps Rb,i<4/\Np i W T ps/\Pk (xug 0) xcA Rb/\R=sld (xfV (xhP (64*i)-1)++Rb)/\ω Rb.length/\xhc Rb.length:=by
 have hf:=(h.facts t).2;obtain⟨i,ps,Rb,hi,hm,hp,hr,rfl⟩:=h;refine⟨i,ps,Rb,hi,hp,hr,rfl,?_,?_⟩
 ·have h1:=hr.len;have h2:=(Np.low hp t).1;lia
 ·rw [i6,Et] at hf;have:xaJ (xfV (xhP (64*i)-1)) 3:=rfl;lia
def m9 (F:xk7 "take_block" "take_block" gq dV f fd)(Z:Tbk K mg CK Mc C G C0 C1 C2 C3)(Wa:VJ K mg B D G' CW C0 C1 C2 C3)(Er:xuI K cM cH cK cT):
  xi2 P w K P w 39 f fd ["row","before"] (OJ cK):=by
 show xiE N Z.H.need GN (bL (P:=P) (w:=w) (base:=base) N Z.H.N);show Ι Ah Z.ahead Wn Z.win;show Ι Nh Z.nhead Ho Z.headof;show Ι Bs Z.bsize En Z.ends;show Ι Wc Z.wcheck Ti Z.textin;obtain⟨t3,h3⟩:=Z.H.three;show xnh t2 h2 Z.H.twoB (F.okE M0 λ LS A outer st H vs Q E hr h=>?_) _;obtain⟨x,z,W,R,rfl,hB,hW,hh⟩:=h;obtain⟨hwb,YR,hb,a,b,r,hR,ha,MN,O6,QS⟩:xeC W/\xkB/\xeC R/\∃a b r,R=xbm++r/\xaq a/\xb6/\xph/\xtL (b+2):=by
  rcases hh with⟨T,pb,tw,k⟩|⟨h1,h2,h3,_,h4,_⟩
  ·obtain⟨i,ps,Rb,hi,hp,V9,eR,OU,Mu⟩:=xKE;have ht1:=tw.one;have YS:=tw.le;exact⟨tw.wb,tw.wl,xFi.1,_,Rb.length,Rb++xiM (xfV (xhP (64*i)-1)++Rb),by rw [eR];show xaP sld Eu,yG hi ht1 YS,OU,Mu,by show Τ Et⟩
  ·show xav h1 h2 h3 h4
 have SX:xah 33:=SB;have Xu:xah 6:=SB;have Q7:xah 4:=SB;have Xt:xah 8:=SB;refine xgc 2 M0.nd (aD GN Q7 N xbj) (xaQ 3 M0.nd (aD (gU Ah Wn N Z.H.N) Xu Ah xdb) (xa7 4 M0.nd (xhd (pV Nh Ho Bs Z.H Er) SX Nh.m Nh.F.kp Nh.b c6 xeW) (xsx (xnz (aD (uO En Wc Z.H.Y) Xt En xeW)) (gR c6 xlX Z7 Er.mK Er.xK eM)) (xaK (uQ Ti Z.Z Wa Z.H.T) Ti (aa (xxN XV (xaO 3 h3 t3) (xS qP (xaO 2 h2 t2))) (xbP 4 3)))))
 have Y8:R.length=b+5:=by rw [hR,Et,QS];exact Iw 3 _
 show xfx g ⟨_,rfl,x,_,rfl,hB,hb,λ l hn=>xdL⟩ g;have s1:=xaR xiB hn;have Vh:(xfb xiB) l=xkT:=ad;show xas (xfb xiB) H1 (xfT g ⟨_,rfl,_,W,rfl,.inr (xd9 z (xcb hW)),hwb,YR,λ lw H2 s2 nw Yb=>xdL⟩)
 clear g;have hl2':=xbQ Vh;have NK:=xdP;show xfx g ⟨_,rfl,l,a,b,r,rfl,hR▸hl2',ha,O6,MN,QS,λ p dx H3 np s3 MR=>xdL⟩ g;have YH:=NK.trans s3;have NM:=xcf hl2';refine xfT g ⟨_,rfl,l,R,rfl,NM,hb,by lia,λ H4 s4=>xEM⟩
 have SI:=YH.trans s4;rcases hh with⟨T,pb,tw,k⟩|⟨_,_,_,hc,_,k⟩
 rotate_left
 ·show LE (F7 hc) (cU (xdp SI))
 obtain⟨i,ps,Rb,hi,hp,V9,eR,OU,Mu⟩:=xKE;have ht1:=tw.one;have YS:=tw.le;generalize hX:xfV (xhP (64*i)-1)++Rb=X at*;have hXl:X.length=Rb.length+3:=by rw [<-hX,Et];exact Iw 3 _
 subst eR;obtain⟨rfl,rfl⟩:a=xhP (64*i)-1/\b=Rb.length:=(by
  have e:xn6=xfV (xhP (64*i)-1)++(Rb++xiM X):=by unfold sld;rw [<-hX,Eu]
  have:=e.symm.trans hR;show xar (Hx this).1.symm (Hx (Hx this).2).1.symm)
 rw [Ez (by rw [tQ])];show xlK (bi xdL) g;refine⟨_,rfl,_,rfl,_,rfl,_,rfl,l,_,rfl,K'.of (xez NM),PP l5 n5⟩;have ec:xl5 (Κ xn6) 3 (-2)=xyP:=by
  rw [yW _ (by show xaF i6),tQ,<-hX];rfl
 rw [ec];have s5:=xaR xyP n5;have hx:=zv hp tw V9;rw [show(xhP (64*i)-1)/64=i by lia,show(xhP (64*i)-1)%64+1=T.length by lia] at MR;exact⟨_,rfl,_,rfl,l5,p,lw,dx,Rb,W,T,i,T.length,_,_,rfl,ad,V9.byt,xam (xez MR),xam (xez (xcf Yb)),tw.wl,YS,hi,hx.1,Δ hx,xbI hx,λ l' H' n' s6 h'=>k l' _ (none_of (SI.trans s5) n') ((SI.trans s5).trans s6) h'⟩
universe K33.Ck
namespace K33.Ck
open PySem L2 QQ W17 W16 BP
seal PE PA PS PSs PT PW PG PI
abbrev xI:LP:=top 112
abbrev mv:LP:=top 113
abbrev rn:LP:=xD8 0
abbrev xu:LP:=xD8 1
abbrev Bg:LP:=xD8 2
abbrev rP:LP:=xD8 4
noncomputable def four (n:Nat):Id:=two (n/65536%65536)++two (n%65536)
def tailR (n c:Nat):Id:=sld (xdI++xmj++xqw)
def pc (n):xdv xmj:=λ b h=>xnv h (gL xqD b) (gL xqD b)
def AR:¬(xB5 xfY):=Z8
def BY:¬(xsg xfY):=Z8
def BE:¬(xmh xfY):=Z8
def BI:¬(xsg xlJ):=Z8
def BJ:¬(xmh xlJ):=Z8
def BV:¬(xmh xyb):=Z8
noncomputable def fO (b m:Nat) (ck g:LF):xev:=[("blocks",xd1),("many_signs",xjq),("signs_check",.ref ck),("group",.ref g)]
def k8 (b m)(ck g):xG4 g (xr3 ck (xtQ m b []))=xls:=by
 show(xG4 g (xr3 ck (xda (xB5 xfY) (xfY,xd1) [("many_signs",xjq)])))=_;rw [EI AR];show(xG4 g (xda (xsg xfY) (xfY,xd1) (xda (xsg xlJ) (xlJ,xjq) [("signs_check",.ref ck)])))=_;rw [EI BY,EI BI];show(xda (xmh xfY) (xfY,xd1) (xda (xmh xlJ) (xlJ,xjq) (xdh (xmh xyb) xyb ck [xvp "group" g])))=_;rw [EI BE,EI BJ,EI BV];rfl
def Ch (b m)(ck g):xcO xls "blocks"=xmX:=by
 rw [<-k8,ao,EI BE,ao,EI BY,ao,EI AR,ao,xag]
def yJ (b m)(ck g):xcO xls "many_signs"=SL m:=by
 rw [<-k8,ao,EI BJ,ao,EI BI,ao,xag]
def AX (b m)(ck g):xcO xls "signs_check"=SC ck:=by
 rw [<-k8,ao,EI BV,ao,xag]
def DM (b m)(ck g):xcO xls "group"=SC g:=by rw [<-k8,ao,xag]
def iS (b m)(ck g){x:Str}(h1:xdJ (xmh x))(h2:xdJ (xsg x))(h3:xdJ (xB5 x))(h4:xdJ (x="blocks")):xlP xls x:=by
 rw [<-k8,ao,xoq,ao,xmx,ao,EI h3,ao,EI h4];rfl
def fg (b m)(ck g):(xls).length<1000:=by show xcE 4
def Az (b m b')(ck g):xIn b' xls=xwZ b' m:=by
 show(xgo (xfY="blocks"))=_;show Τ xag
def Ap (b m m')(ck g):xec "many_signs" m' xls=xwZ b m':=by
 show(xda (xB5 xfY) (xfY,xd1) (xgo (xB5 xlJ)))=_;rw [EI AR,xag];rfl
def wy (b m)(ck g g'):xG4 g' xls=fO b m ck g':=by
 show(xda (xmh xfY) (xfY,xd1) (xda (xmh xlJ) (xlJ,xjq) (xdh (xmh xyb) xyb ck (xgo (xmh (xcm "group"))))))=_;rw [EI BE,EI BJ,EI BV,xag];rfl
structure MK (C CK:LF)(H:Hp)(p ck g:LF)(S:Id)(b:Nat)(G:Id):Prop where
 ob:∃dx,xbh=xb2 (xuZ b ck g)
 ch:∃dk,H ck=xjP CK dk (fC 16 (xlM S))
 gr:H g=Υ xkc
 byt:xeT S
def MK.keep (h:MK C CK H p ck g S b G)(s:∀c o,χ=IO->c=p\/c=ck\/c=g->xaL=IO):MK C CK H' p ck g S b G:=
 ⟨h.ob.elim λ dx z=>xdx (xci z xbF),h.ch.elim λ dx z=>xdx (xzl z xbF),xzl h.gr xsv,h.byt⟩
structure Vr (K:Frag)(mg:π)(CK CO:LF):Prop where
 Y:VS K mg CK
 initd:∃f fd t,(∃dV,xJR sCInit dV f fd)/\xuO K xBM [xbq 16]/\xjL CK
 cl:Cls K CO
 nB:xAQ CO "blocks"
 nM:xAQ CO "many_signs"
 nC:xAQ CO "signs_check"
 nG:xAQ CO "group"
 m:mg "Course"=SC CO
 gb:xcK "GROUP_BLOCKS" 4
 four:UF "in_four_bytes" xI xnH
 tailof:UF "tail_of" mv xBQ
 init:∃f fd,xfW K "Course.__init__" rn f/\xAk/\xjL CO
 win:∃f fd,xqA CO "window" "Course.window" xu
 go:∃f fd,xj6 CO "go_on" "Course.go_on" Bg xvB f fd
 tail:∃f fd,xqA CO "tail" "Course.tail" rP
inductive WE (vs:LT) (H:Hp) (Q:VK) (LX:XK):Prop
 |mk (n:Nat) (h0:vs=[xdH]) (h1:∀l H',Ξ->UV->xap=xaf xmj->xao):WE vs H Q LX
def Bp:P3 xnH xnH xI:=On
def zt (F:Ζ "in_four_bytes" xI xnH)(Z:xrc K CK CO):Η 2 xnH WE:=by
 show xiE Tw Z.Y.two GT (rg (P:=P) (w:=w) (base:=base) Tw);show xbo Bp (λ LS A outer st H vs Q E hr h=>?_);show xa0 n rfl k h (xei (xe1 (xaK GT Tw (xbe (xgI ii (xgI io Uf)))) (xaK GT Tw (xbe (xgI ii Uf)))));have e1:xai/2^Int.toNat 16=M2 (n/65536):=by
  show xai/65536=_;exact Ik (Nat.ToInt.div_congr rfl rfl)
 have e2:∀m:Nat,xI0 m 65535=M2 (m%65536):=λ m=>eu m 16
 refine⟨_,rfl,_,_,rfl,rfl,(by show xnE (xcU≤16)),_,_,rfl,rfl,?_⟩
 try dsimp only
 rw [e1,e2];refine xfj rfl xqD xAJ;have s1:=xcQ (two (n/65536%65536)) n1;have Qe:(xbG H l1 (two (n/65536%65536))) l1=xaf (two (n/65536%65536)):=ad;show xas (xbG H l1 (two (n/65536%65536))) H1 ⟨_,rfl,_,_,rfl,rfl,?_⟩
 try dsimp only
 show ST e2 (xfj rfl xqD (PP l2 n2));have s2:=xcQ (two (n%65536)) n2;have Rj:(xbG H1 l2 (two (n%65536))) l2=xaf (two (n%65536)):=ad;have h21:=xbQ Qe;have NK:=xdP;show xas (xbG H1 l2 (two (n%65536))) H2 ⟨l1,l2,_,_,rfl,rfl,h21,Rj,(by show xdy 4),xe7⟩;exact xpm (xpY NK) (NK.trans xgd) (by rw [ad,<-EG];rfl)
inductive RG (vs:LT) (H:Hp) (Q:VK) (LX:XK):Prop
 |mk (n c:Nat) (h0:vs=[xdH,xh7]) (h1:c<65536) (h2:∀l H',Ξ->UV->xap=xaf (tailR n c)->xao):RG vs H Q LX
def xk:P3 xBQ xBQ mv:=On
def uK (F:Ζ "tail_of" mv xBQ)(Z:xrc K CK CO):Η 8 xBQ RG:=by
 show Ι Tw Z.Y.two Fo Z.four;show Ι Hr Z.Y.headrow Wc Z.Y.withcheck;show xbo xk (λ LS A outer st H vs Q E hr h=>?_);show xdT n c hc k h;have Md:xba:=SB;have OS:xah 2:=SB;show xut (xaK (eN Wc Z.Y) Wc (xbe (xe1 (xe1 (xaK (gm Hr Z.Y) Hr xHK) (aD (zt Fo Z) OS Fo xbj)) (xcs (rg Tw) Tw xdb)))) ⟨0,0,rfl,Z9,Z9,λ l1 H1 n1 s1 Qe=>?_⟩;show TD (xby _ rfl n (λ l2 H2 n2 s2 Rj=>?_)) ⟨l1,l2,_,_,rfl,rfl,xbQ Qe,Rj,(by show xdy 7),PP l3 n3⟩;rw [<-EG];have s3:=xcQ (xdI++xmj) n3;have h33:(xbG H2 l3 (xdI++xmj)) l3=xaf (xdI++xmj):=ad;have Tf:=xy1 s3;show xas (xbG H2 l3 (xdI++xmj)) H3 (xfR c hc (PP l4 n4));have s4:=xcQ xqw n4;have SU:(xbG H3 l4 xqw) l4=xaf xqw:=ad;have h43:=xez h33;have s04:=xJL;show xas (xbG H3 l4 xqw) H4 ⟨l3,l4,_,_,rfl,rfl,h43,SU,(by show xdy 9),PP l5 n5⟩;rw [<-EG];have s5:=xcQ (xdI++xmj++xqw) n5;have Yi:(xji l5 (xdI++xmj++xqw)) l5=xaf (xdI++xmj++xqw):=ad;have W2:=s04.trans s5;show xas (xji l5 (xdI++xmj++xqw)) H5 ⟨l5,_,rfl,Yi,xes,(by show xnE (xb0 9)),λ l H6 nl s6 hl=>xd8 H6 (xpY W2) (W2.trans s6) hl⟩;show xbO hb hb hb
 ·show xbO hb hb hb
  ·exact cg Z9 Z9 b hb
  ·exact pc n b hb
 ·exact gL hc b hb
def yV (S T):xlM (S++T)=crc 16 45 (xlM S) T:=by
 unfold chk crc;rw [HH]
theorem cu (x)(v):∀l,xbg (putF x v l) (l.length+1)
 | []=>Tl
 |(y,u)::l=>by
  unfold putF
  split
  ·simp
  ·have:=cu x v l;show xCG
def fOC:HO.ins CO dx xls≠HO.ins CK dk (fC n s):=by
 intro z;injection z with _ _ z
 have:=xjS z;simp [fO,fC] at this
def MK.ne (h:xp9 H p g S b G):p≠ck/\xau g/\g≠ck:=by
 obtain⟨dx,hp⟩:=h.ob;show xbE dk hk h.ch ⟨aG hp hk fOC,xro h.gr (by show Ε),aG h.gr hk (by show Ε)⟩
inductive Uc (CO CK:LF) (vs:LT) (H:Hp) (Q:VK) (LX:XK):Prop
 |mk (p dx:LF) (h0:vs=xaV) (h1:xbh=xeJ CO []) (h2:∀(ck g:LF) (H':Hp),υ ck->υ g->xp9 H' p g [] 0 []->xc1 (∀b o,xb7=IO->xgx->xde=IO)):Uc CO CK vs H Q LX
def zS:xdc rn:=On
def ju (F:xfW K "Course.__init__" rn f)(Z:xrc K CK CO):xhw 4 (Uc CO CK):=by
 obtain⟨_,_,W⟩:=Z.Y.Z.whole;obtain⟨_,_,t16,⟨_,FI⟩,B16,MI⟩:=Z.initd;show xaE zS (λ LS A outer st H vs Q E hr h=>?_);show xdT p dx hp k h;show xcc (xoc ak (xxQ xHN (xc9 (bX MI (xKC W Z.Y.Z.T Z.Y.Z.X) SB Z7 Z.Y.Z.T.m B16 (.cons (a:=V.int 16) xa4 .nil) a7)) xHM)) ⟨_,rfl,p,CO,dx,[],rfl,hp,Z.cl,Z.nB,(by show xcE 0),?_⟩ ⟨_,rfl,p,CO,dx,_,rfl,ad,Z.cl,Z.nM,(by show xcE 1),?_⟩;have Ml:(xeq (xeq H xt9) (xEJ xlH xt9)) p=xeJ CO (xtQ 0 0 []):=ad;have Qk:∀c o,χ=IO->xaj->(xeq (xeq H xt9) (xEJ xlH xt9)) c=IO:=λ c o e n=>by rw [ai n,ai n];exact e
 show xcF no2 (∀c,W1 ((xeq (xeq H xt9) (xEJ xlH xt9)) c)->υ c) (λ c e=>by
  by_cases n:c=p
  ·show xbx n ad e e
  ·rw [ai n,ai n] at e;exact e) (xeq (xeq H xt9) (xEJ xlH xt9)) H2;intro x dk nx SJ X7;have s0:=xuM CK SJ;have Tg:p≠x:=ae Ml nx;refine⟨x,dk,16,45,rfl,kO,ad,λ H3 hx Mq=>xhA⟩;have MR:=xaW (xhW Ml) Tg;have k13:∀c o,χ=IO->xaj->H3 c=IO:=λ c o e n=>xaW (xhW (xpr e n)) (ae (xpr e n) nx)
 clear Mq s0;have Mu:=cu "many_signs" xh4 (xIn 0 []);have OU:=cu "blocks" xh4 [];have NM:=cu "signs_check" xbk (xtQ 0 0 []);have hl0:xaJ ([]:xev) 0:=rfl;refine⟨_,rfl,p,CO,dx,_,rfl,MR,Z.cl,Z.nC,Z5,?_⟩;have Q9:(xeq H3 (xr3 x (xtQ 0 0 []))) p=xeJ CO (xr3 x (xtQ 0 0 [])):=ad;have hx4:(xeq H3 (xr3 x (xtQ 0 0 []))) x=xjP CK dk (fC 16 (2^16-1)):=by show Re Tg.symm hx
 have k14:∀c o,χ=IO->xaj->(xeq H3 (xr3 x (xtQ 0 0 []))) c=IO:=λ c o e n=>by show Re n (k13 _ _ e n)
 show xas (xeq H3 (xr3 x (xtQ 0 0 []))) H4 (xeY (by show xdy 0) g ng);have s5:=xaR [] ng;have hg5:(xqd g []) g=Υ []:=ad;have Q8:=xam Q9;have hx5:=xam hx4;have Xm:xau g:=xeb Q9 ng;have hgH:υ g:=by
  cases e:H g with
  |none=>rfl
  |some o=>show ρ (k14 _ _ e Xm) ng ng
 show xas (xqd g []) H5 ⟨_,rfl,p,CO,dx,_,rfl,Q8,Z.cl,Z.nG,Z5,?_⟩;refine k x g _ (no2 x nx) hgH ⟨xdx (LD ad (xvK l (xGm CO dx l) (k8 0 0 x g))),⟨dk,by show Re Tg.symm hx5⟩,by show Re Xm hg5,λ z hz=>by simp at hz⟩ λ c o e n=>?_
 show Re n (xam (k14 _ _ e n))
inductive Wt (CO CK:LF) (vs:LT) (H:Hp) (Q:VK) (LX:XK):Prop
 |mk (p ck g:LF) (S G:Id) (b:Nat) (h0:vs=xaV) (h1:xp9 H p g S b G) (h2:∀l,Ξ->xrJ (xfb xkc)):Wt CO CK vs H Q LX
def AE:xdc xu:=On
def nJ (F:Χ "window" "Course.window" xu)(Z:xrc K CK CO):xhm (Wt CO CK):=by
 have T:=Z.Y.Z.X.R.X;show xaE AE (λ LS A outer st H vs Q E hr h=>?_);obtain⟨p,ck,g,S,G,b,rfl,⟨⟨dx,hp⟩,_,hg,_⟩,k⟩:=h;refine xei (xGN Gg xs2);exact⟨_,rfl,p,CO,dx,_,_,rfl,hp,Z.cl,Z.nG,DM _ _ _ _,g,_,rfl,Φ hg,k⟩
inductive Ub (CO CK:LF) (vs:LT) (H:Hp) (Q:VK) (LX:XK):Prop
 |mk (p ck g:LF) (S G:Id) (b:Nat) (h0:vs=xaV) (h1:xp9 H p g S b G) (h2:∀l H',Ξ->UV->xap=xaf xxf->xao):Ub CO CK vs H Q LX
def yP:xdc rP:=On
def pF (F:Χ "tail" "Course.tail" rP)(Z:xrc K CK CO):xhw 9 (Ub CO CK):=by
 show Ι To Z.tailof Va Z.Y.Z.value;have CT:=Z.Y.Z.T;show xaE yP (λ LS A outer st H vs Q E hr h=>?_);obtain⟨p,ck,g,S,G,b,rfl,⟨⟨dx,hp⟩,⟨dk,hk⟩,hg,hb⟩,k⟩:=h;have Md:xba:=SB;show xut (xaK (uK To Z) To (xc6 Α (xfJ Α CT.cl Va (oF Va.F CT)))) ⟨_,rfl,p,CO,dx,_,_,rfl,hp,Z.cl,Z.nM,yJ _ _ _ _,_,rfl,p,CO,dx,_,_,rfl,hp,Z.cl,Z.nC,AX _ _ _ _,ck,dk,_,rfl,hk,xzx _,ck,dk,16,_,rfl,hk,?_⟩;exact xfQ _ (gi kO hb) k
noncomputable def Yj (b:Nat) (G T:Id):Id:=xir ((b+1)%4) 0 [] (G++T)
inductive Yx (CO CK:LF) (vs:LT) (H:Hp) (Q:VK) (LX:XK):Prop
 |mk (p ck g a:LF) (S G T:Id) (b:Nat) (h0:vs=[xad,Tm]) (h1:xp9 H p g S b G) (h2:XL=xce) (h3:xeC T) (h4:xb0 (xhP G.length)) (h5:∀(g':LF) (H':Hp),υ g'->xp9 H' p g' (S++T) (b+1) (Yj b G T)->xc1 (∀c o,χ=IO->xaj->xox->xaL=IO)):Yx CO CK vs H Q LX
def CM:P3 xvB xvB Bg:=On
def xE (F:Χ "go_on" "Course.go_on" Bg)(Z:xrc K CK CO):Η 6 xvB (Yx CO CK):=by
 have T:=Z.Y.Z.X.R.X;obtain⟨X,CT,⟨_,_,W⟩,⟨_,_,R⟩,⟨_,_,N⟩,⟨_,_,Yw⟩,_,⟨_,_,Ad⟩,_⟩:=Z.Y.Z;show xnh tg hgb Z.gb (F.ok CM λ LS A outer st H vs Q E hr h=>?_) _;obtain⟨p,ck,g,a,S,G,T',b,rfl,hC,ha,hT,hl,k⟩:=h;obtain⟨Vs,Xm,ngk⟩:=hC.ne;obtain⟨⟨dx,hp⟩,⟨dk,hk⟩,hg,hb⟩:=hC;have YN:xau a:=xro ha (by show Ε);have nak:a≠ck:=aG ha hk (by show Ε);refine xoc (xhU Α) (xxQ (xc9 (xb1 Α (xxZ SZ))) (aB (bf Α CT.cl Ad (we Ad.F N R W Yw CT X) hr xdb)) (xpI bG (aq bv Α (xaO 4 hgb tg)) ak xHM (af (xc9 (xe1 Α SZ)))))
 have e1:xqO+1=xg5 b:=Kk _;have e2:Ty S.length+xlW (T'.map vN)=M2 (S.length+T'.length):=by show xcY
 show xfl ⟨_,rfl,p,CO,dx,_,_,rfl,hp,Z.cl,Z.nB,Ch _ _ _ _,_,_,rfl,rfl,_,rfl,p,CO,dx,_,rfl,hp,Z.cl,Z.nB,fg _ _ _ _,Β⟩
 try dsimp only
 rw [e1,Az];have MJ:(xeq H (xuZ (b+1) ck g)) p=xeJ CO (xuZ (b+1) ck g):=ad;have k1:∀c o,χ=IO->xaj->(xeq H (xuZ (b+1) ck g)) c=IO:=λ c o e n=>by show Re n e
 show xas (xeq H (xuZ (b+1) ck g)) H1 (xcx ⟨_,rfl,p,CO,dx,_,_,rfl,MJ,Z.cl,Z.nM,yJ _ _ _ _,_,rfl,a,_,rfl,Φ (k1 _ _ ha YN),_,_,rfl,rfl,_,rfl,p,CO,dx,_,rfl,MJ,Z.cl,Z.nM,fg _ _ _ _,Β⟩)
 clear g1
 try dsimp only
 rw [e2,Ap];have Ml:(xeq H1 (xwZ (b+1) xyn)) p=xeJ CO (xwZ (b+1) xyn):=ad;show xcF k2 (∀c o,χ=IO->xaj->(xeq H1 (xwZ (b+1) xyn)) c=IO) (λ c o e n=>by show Re n (k1 _ _ e n)) (xeq H1 (xwZ (b+1) xyn)) H2;clear k1 MJ;refine xbt
 have Rc:=k2 _ _ hk Vs.symm;show xa8 ⟨_,rfl,p,CO,dx,_,_,rfl,Ml,Z.cl,Z.nC,AX _ _ _ _,ck,dk,_,rfl,Rc,xzx _,_,rfl,ck,dk,a,16,45,_,T',rfl,kO,gi kO hb,Rc,k2 _ _ ha YN,hT,λ H3 YX Mq=>Β⟩;rw [<-yV] at YX;have MR:=xaW Ml Vs;have k3:∀c o,χ=IO->xaj->xox->H3 c=IO:=λ c o e n m=>xaW (k2 _ _ e n) m
 clear Mq Rc Ml k2;have hg3:=xjz hg Xm ngk;have ha3:=xjz ha YN nak;have hbb:xeT (S++T'):=λ x hx=>xnv hx xoU (hT x)
 have eL:xaN S T'=xyn:=Et;have hgH:∀l,W1 (H3 l)->Ξ:=λ l nl=>by
  cases e:H l with
  |none=>rfl
  |some o=>
   by_cases n:l=p
   ·show xbx n MR nl nl
   ·by_cases m:l=ck
    ·show xbx m YX nl nl
    ·show ρ (xjz e n m) nl nl
 have fin:∀l L H4,W1 (H3 l)->H4=xeq (xcB H3 xpD) (fO (b+1) xyn ck l)->L=Yj b G T'->xkA H4:=λ l L H4 nl e4 eL'=>by
  subst e4 eL';have NQ:xau l:=xe6 MR;have nlk:xeF ck:=xe6 YX;refine xpm (hgH l nl) ⟨xdx (by rw [ad,eL]),⟨dk,by rw [ai Vs.symm,ai nlk.symm];exact YX⟩,by rw [ai NQ,ad],hbb⟩ λ c o e n m=>?_
  rw [ai n,xlC (xjz e n m) nl];exact xjz e n m
 have e4:xg5 b%4=M2 ((b+1)%4):=Ik (xMd rfl);refine⟨_,rfl,p,CO,dx,_,_,rfl,MR,Z.cl,Z.nB,Ch _ _ _ _,_,_,rfl,rfl,(by show xdG 4),?_⟩
 try dsimp only
 show ST e4 (xuA _ (xeg h h))
 ·have h0:(b+1)%4=0:=by
   have:V.int (M2 ((b+1)%4))=xkq:=xbJ;injection this with this
   exact Int.ofNat_eq_zero.mp this
  refine xeY (by show xdy 0) l nl;have Nu:(xcB H3 []) p=_:=(xlC MR nl).trans MR;show xg6 ⟨_,rfl,p,CO,dx,_,rfl,Nu,Z.cl,Z.nG,fg _ _ _ _,?_⟩ wy (fin l [] _ nl rfl (by show xaP Yj (EU h0)))
 ·have h0:¬(b+1)%4=0:=No (h (Ez (by show Τ z)))
  refine⟨_,rfl,p,CO,dx,_,_,rfl,MR,Z.cl,Z.nG,DM _ _ _ _,_,rfl,g,a,_,_,rfl,rfl,hg3,ha3,bF (by rw [Es,Es];exact xdC hl),xe7⟩;have Nu:(xcB H3 (xkc++T'.map vN)) p=_:=(xlC MR nl).trans MR;refine⟨_,rfl,p,CO,dx,_,rfl,Nu,Z.cl,Z.nG,fg _ _ _ _,?_⟩;rw [wy,<-EG];exact fin l (G++T') _ nl rfl (by show xaP Yj (EI h0))
abbrev qO:LP:=xAd 0
abbrev Cm:LP:=xAd 1
abbrev qR:LP:=xAd 2
abbrev qF:LP:=xAd 3
abbrev qr:LP:=xAd 4
abbrev wa:LP:=xAd 5
abbrev kb:LP:=top 127
def BH:¬(xCW xfZ):=Z8
def AS:¬(xtn xfZ):=Z8
def AH:¬(xl2 xfZ):=Z8
def AD:¬(xtn xlL):=Z8
def By:¬(xl2 xlL):=Z8
def Cs:¬(xl2 xyz):=Z8
noncomputable def fP (co wt:LF) (bg fn:Bool):xev:=[("course",.ref co),("waiting",.ref wt),("begun",.bl bg),("finished",.bl fn)]
def ko (co wt)(bg fn):xFO fn (xEW "begun" bg (xF9 wt (xjQ "course" co [])))=xhI:=by
 show(xFO fn (xEW "begun" bg (xdh (xCW xfZ) xfZ co [xvp "waiting" wt])))=_;rw [EI BH];show(xFO fn (xdh (xtn xfZ) xfZ co (xdh (xtn xlL) xlL wt [("begun",V.bl bg)])))=_;rw [EI AS,EI AD];show(xdh (xl2 xfZ) xfZ co (xdh (xl2 xlL) xlL wt (xda (xl2 xyz) (xyz,V.bl bg) [("finished",V.bl fn)])))=_;rw [EI AH,EI By,EI Cs];rfl
def pM (co wt)(bg fn):xcO xhI "course"=SC co:=by
 rw [<-ko,ao,EI AH,ao,EI AS,ao,EI BH,ao,xag]
def ig (co wt)(bg fn):xcO xhI "waiting"=SC wt:=by
 rw [<-ko,ao,EI By,ao,EI AD,ao,xag]
def uI (co wt)(bg fn):NE (xcO xhI "begun") (.bl bg):=by
 rw [<-ko,ao,EI Cs,ao,xag]
def se (co wt)(bg fn):NE (xcO xhI "finished") (.bl fn):=by rw [<-ko,ao,xag]
def d4 (co wt)(bg fn){x:Str}(h1:xdJ (xl2 x))(h2:xdJ (xtn x))(h3:xdJ (xCW x))(h4:xdJ (x="course")):xlP xhI x:=by
 rw [<-ko,ao,xoq,ao,xmx,ao,EI h3,ao,EI h4];rfl
def dj (co wt)(bg fn):(xhI).length<1000:=by show xcE 4
def pi (co wt SH)(bg fn):xF9 SH xhI=xxY SH bg fn:=by
 show(xdh (xCW xfZ) xfZ co (xgo (xCW xlL)))=_;rw [EI BH,xag];rfl
def wO (co wt)(bg fn Xc):xEW "begun" Xc xhI=xxY wt Xc fn:=by
 show(xdh (xtn xfZ) xfZ co (xdh (xtn xlL) xlL wt (xgo (xtn xyz))))=_;rw [EI AS,EI AD,xag];rfl
def vI (co wt)(bg fn fn'):xFO fn' xhI=xA9 fn':=by
 show(xdh (xl2 xfZ) xfZ co (xdh (xl2 xlL) xlL wt (xda (xl2 xyz) (xyz,V.bl bg) (xgo (xl2 (xcm "finished"))))))=_;rw [EI AH,EI By,EI Cs,xag];rfl
structure CP (K:Frag)(mg:π)(C:LF):Prop where
 cl:xgw
 nC:xcH "course"
 nW:xcH "waiting"
 nB:xcH "begun"
 nF:xcH "finished"
 m:mg "Presser"=xgr
 mark:∃d,mg "MARK"=xmP/\∀H,xna d [xAb,vN 66,vN 1]
inductive spUn (C:LF) (vs:LT) (H:Hp) (Q:VK) (LX:XK):Prop
 |mk (p dx co wt:LF) (bg:Bool) (h0:vs=xaV) (h1:xbh=xb2 (xA9 false)) (h2:xkA H):spUn C vs H Q LX
def C6:xdc Cm:=On
def Am (F:Χ "need_unfinished" "Presser.need_unfinished" Cm)(T:CP K mg C):xhm (spUn C):=by
 show xaE C6 (λ LS A outer st H vs Q E hr h=>?_);obtain⟨p,dx,co,wt,bg,rfl,hp,k⟩:=h;refine xwD (xsx xHD aO);exact⟨_,rfl,p,C,dx,_,_,rfl,hp,T.cl,T.nF,se _ _ _ _,false,rfl,bi k⟩
noncomputable def mk (bg:Bool):Id:=xbZ bg [] [184,66,1]
inductive Wz (C:LF) (vs:LT) (H:Hp) (Q:VK) (LX:XK):Prop
 |mk (p dx co wt:LF) (bg fn:Bool) (h0:vs=xaV) (h1:xbh=xb2 xhI) (h2:∀l H',Ξ->H' p=xb2 (xy2 fn)->xap=xaf xoj->(∀c o,χ=IO->xaj->xaL=IO)->xao):Wz C vs H Q LX
def zk:xdc qR:=On
def sQ (F:Χ "mark_once" "Presser.mark_once" qR)(T:CP K mg C)(X:xie):xhm (Wz C):=by
 show xa0 dM mM hM T.mark (F.ok zk λ LS A outer st H vs Q E hr h=>?_)
 intro _;obtain⟨p,dx,co,wt,bg,fn,rfl,hp,k⟩:=h;show TD (xgL (aH xHD (xbU xgT) aA) (xiQ xs3 (xGM Gg (xbe (xxa dM Z7 mM))))) ⟨_,rfl,p,C,dx,_,_,rfl,hp,T.cl,T.nB,uI _ _ _ _,bg,rfl,?_⟩;cases bg with
 |true=>
  refine cU (xeY (by show xdy 0) l nl);exact xpm nl (by show xiC hp nl hp) ad λ c o e _=>xgd _ _ e
 |false=>
  refine bi ⟨_,rfl,p,C,dx,_,rfl,hp,T.cl,T.nB,xlp,?_⟩;rw [wO];have MJ:(xch H (xy2 fn)) p=xb2 (xy2 fn):=ad;refine xfQ dM (.inr (hM _)) xe7;have NQ:p≠l:=ae MJ nl;refine xpm (by show xoF NQ.symm nl nl) (by show Re NQ MJ) ad λ c o e n=>?_
  rw [xlC (by show Re n e) nl,ai n];exact e
def nb (A:Id):Nat:=A.length/64
noncomputable def wn (A:Id) (i:Nat):Id:=(A.take (64*i)).drop (i/4*256)
structure X3 (C CO CK:LF)(H:Hp)(p co ck:LF)(A:Id)(bg:Bool):Prop where
 ob:∃dx wt g,xbh=xb2 (xA9 false)/\H wt=xaf (A.drop (64*xoC))/\xmL H g (A.take (64*xoC)) xoC (wn A xoC)
 byt:xeT A
def fX (t:xhK H)(kp:∀c o,χ=IO->(∀C dx fs,o≠ .ins C dx fs)->(∀xs,o≠ xv2)->xaL=IO):xua:=by
 show xa0 ps h z t ⟨ps,xat h (by intro _ _ _ z;cases z) (by intro _ z;cases z),z.imp id λ z9=>by obtain⟨c',oc,vs,t,e,hc,r⟩:=z9;exact⟨c',oc,vs,t,e,xat hc (by intro _ _ _ z;cases z) (by intro _ z;cases z),r⟩⟩
structure Yo (K:Frag)(mg:π)(B D G CW C0 C1 C2 C3 c CK Mc CO C:LF):Prop where
 Bk:Bks K mg B D G CW C0 C1 C2 C3 c CK Mc
 Cr:xrc K CK CO
 T:CP K mg C
 bs:xcK "BLOCK_SIGNS" 64
 putblock:∃f fd,Zm K mg "put_block" iF Jae f fd
 init:∃f fd,xfW K "Presser.__init__" qO f/\xAk/\xjL C
 un:∃f fd,xhq "need_unfinished" "Presser.need_unfinished" Cm
 mark:∃f fd,xhq "mark_once" "Presser.mark_once" qR
 next:∃f fd,xuq "next_block" "Presser.next_block" qF xJO f fd
 feed:∃f fd,xuq "feed" "Presser.feed" qr xvB f fd
 finish:∃f fd,xhq "finish" "Presser.finish" wa
inductive T8 (C CO CK:LF) (vs:LT) (H:Hp) (Q:VK) (LX:XK):Prop
 |mk (p dx:LF) (h0:vs=xaV) (h1:xbh=xxH) (h2:∀(co ck:LF) (H':Hp),υ co->υ ck->X3 C CO CK H' p co ck [] false->xc1 (∀b o,xb7=IO->xgx->xde=IO)):T8 C CO CK vs H Q LX
def zE:xdc qO:=On
def wJ (F:xfW K "Presser.__init__" qO f)(Z:Yo K mg B D G' CW C0 C1 C2 C3 c CK Mc CO C):xhw 6 (T8 C CO CK):=by
 have T:=Z.T;show xj4 bI MI Z.Cr.init;show xaE zE (λ LS A outer st H vs Q E hr h=>?_);show xdT p dx hp k h;refine xoc (xry (ju FI Z.Cr) hr Z.Cr.m bI a7) (xxQ xHM xs3 xs3)
 intro x dk nx SJ X7;have s0:=xuM CO SJ;have Tg:p≠x:=xqP nx;refine xc8 x dk ad (λ ck g H1 Tj ng hC NA=>xhA);have MJ:=xrG _ (xhW hp) Tg;have k1:∀b o,xb7=IO->H1 b=IO:=λ b o e=>xrG _ xqB xs6
 have QU:υ ck:=xka Tj;clear NA s0;refine⟨_,rfl,p,C,dx,[],rfl,MJ,T.cl,T.nC,(by show xcE 0),?_⟩;have Ml:(xch H1 xk1) p=xb2 xk1:=ad;have k2:∀b o,H1 b=IO->xgx->(xch H1 xk1) b=IO:=λ b o e n=>by show Re n e
 show xas (xch H1 xk1) H2 (xeY (by show xdy 0) wt nwt);have s3:=xaR [] nwt;have Xq:(xbi H2 wt []) wt=Υ []:=ad;have MR:=xcf Ml;have YI:xau wt:=xeb Ml nwt;show xas (xbi H2 wt []) H3 ⟨_,rfl,p,C,dx,_,rfl,MR,T.cl,T.nW,(by show xcE 1),?_⟩;have OU:=cu "course" xbk [];have Mu:=cu "waiting" (.ref wt) xk1;have NM:=cu "begun" xKd (xF9 wt xk1);have hl0:xaJ ([]:xev) 0:=rfl;show TD ⟨_,rfl,p,C,dx,_,rfl,ad,T.cl,T.nB,Z5,?_⟩ ⟨_,rfl,p,C,dx,_,rfl,ad,T.cl,T.nF,Z5,?_⟩;rw [dZ,dZ,ko];obtain⟨Vs,Xm,ngk⟩:=hC.ne;have Qd:xau ck:=No (by show xbb hp QU QU)
 have hgp:xau g:=No (by
  have:=hC.gr;show xq6 MJ)
 have k3:∀b o,H1 b=IO->xgx->(xch H3 (xwK x wt)) b=IO:=λ b o e n=>by show Re n (xcf (k2 _ _ e n))
 refine k x ck _ nx QU ⟨⟨dx,wt,g,ad,by show Re YI Xq,hC.keep λ c o e hc=>xjz e ?_⟩,λ z hz=>by simp at hz⟩ λ b o e n=>xjz (k1 _ _ e) n
 show xrw hc rfl rfl
 ·exact Tg.symm
 ·exact Qd
 ·exact hgp
inductive Wv (Tb C CO CK:LF) (vs:LT) (H:Hp) (Q:VK) (LX:XK):Prop
 |mk (p dx co wt ck g a:LF) (bg fn:Bool) (S G T:Id) (b:Nat) (h0:vs=[xad,Tm]) (h1:xbh=xb2 xhI) (h2:xmL H g S b G) (h3:XL=xce) (h4:TW T G) (h5:xhK H) (h6:∀(l g':LF) (R:Id) (H':Hp),Ξ->υ g'->PB G T R->xap=xkT->xmL H' g' (S++T) (b+1) (Yj b G T)->(∀c o,xcp Tb->χ=IO->xt7->xox->xaL=IO)->xua->xao):Wv Tb C CO CK vs H Q LX
def Uq:P3 (xnV "signs" "block") xJO qF:=On
def tD (F:Χ "next_block" "Presser.next_block" qF)(Z:Yo K mg B D G' CW C0 C1 C2 C3 c CK Mc CO C)(hC:xm8)(Vl:xmD)(hK:xoy):Η 41 xJO (Wv Tb C CO CK):=by
 have T0:=Z.T;obtain⟨_,_,Pb⟩:=Z.putblock;obtain⟨_,FP⟩:=Pb.F;show Ι Wi Z.Cr.win Go Z.Cr.go;show xaE Uq (λ LS A outer st H vs Q E hr h=>?_);obtain⟨p,dx,co,wt,ck,g,a,bg,fn,S,G,T,b,rfl,hp,SS,ha,tw,hT,k⟩:=h;have Md:xba:=SB;have Xu:xah 6:=SB;show xcR (xa7 2 Uq.nd (xhd (oS FP Z.Bk hC Vl hK) hr Pb.m Pb.kp Pb.b a7 (xtG 1 (xfJ Α Z.Cr.cl Wi (nJ Wi.F Z.Cr)))) (aB (bf Α Z.Cr.cl Go (xE Go.F Z.Cr) Xu xdb)) XV) xbt
 show xbD Vp OD SS.ob ⟨_,rfl,_,rfl,p,C,dx,_,_,rfl,hp,T0.cl,T0.nC,pM _ _ _ _,co,Vp,_,rfl,OD,iS _ _ _ _,co,ck,g,S,G,b,rfl,SS,PP lw YJ⟩;have s1:=xaR xkc YJ;show xcF hw1 ((xjb lw xkc) lw=Υ xkc) ad (xjb lw xkc) H1;have NX:=xB9;show xa8 ⟨a,.ref lw,T,G,rfl,xkG,.inr (xd9 lw hw1),tw,NX,λ l R H2 nl pb hl sT UO=>Β⟩;have k2:∀{e} {o},H e=IO->(∀ps,o≠ xpZ)->H2 e=IO:=λ h hn=>xpq (NX.ne (xcb h) hn) (xcb h)
 have Ml:=k2 hp (by intro ps z;cases z);have Rr:xmL H2 g S b G:=by
  show xbE dk hk SS.ch ⟨⟨Vp,k2 OD (by intro ps z;cases z)⟩,⟨dk,k2 hk (by intro ps z;cases z)⟩,k2 SS.gr (by intro ps z;cases z),SS.byt⟩
 have Q2:=k2 ha (by intro ps z;cases z);have Vu:=tw.le;have YR:=tw.wl;refine xbt
 show xbD ZN Ph Rr.ob ⟨_,rfl,p,C,dx,_,_,rfl,Ml,T0.cl,T0.nC,pM _ _ _ _,co,ZN,_,rfl,Ph,iS _ _ _ _,_,rfl,co,ck,g,a,S,G,T,b,rfl,Rr,Q2,tw.tb,Z5,λ g' H3 ng' Vk Mq=>Β⟩;clear g1;obtain⟨dk2,Rc⟩:=Rr.ch;have hTb3:xhK H3:=fX UO λ e o h hn _=>xaW h (aG h Ph (xra _ _)) (aG h Rc (xra _ _))
 have NM:=xaW hl (aG hl Ph (by show Ε)) (aG hl Rc (by show Ε));exact xa9 (xd8 g' R H3 (xkb nl) (xkb (jw UO sT ng')) pb NM Vk (λ c o n e n1 n2=>xaW (xpq n xbr) n1 n2) hTb3)
noncomputable def blk (F:Id) (i:Nat):Id:=(F.drop (64*i)).take 64
def Bl (F:Id)(i:Nat)(R:Id):Prop:=PB (wn F i) xxD R
def gy (F:Id)(i):F.take (64*i)++xxD=F.take (64*(i+1)):=by
 unfold blk;rw [xaA (64*(i+1)) (64*i+64) (Nat.mul_succ 64 _),Ld]
def my (h:64*i≤F.length):xbg (wn F i) 192:=by
 unfold wn;rw [EE,EH];lia
def tE {F:Id}(h:64*(i+1)≤F.length):Yj i (wn F i) xxD=wn F (i+1):=by
 unfold Yj wn;by_cases z:(i+1)%4=0
 ·rw [EU z,Gu];show xaF EH
 ·rw [EI z,<-gy,G1 (by show xaF EH),xaA ((i+1)/4) (i/4) (Nat.succ_div_of_mod_ne_zero z)]
def sr {F:Id}(h:64*(i+1)≤F.length):xaJ xxD 64:=by
 unfold blk;rw [EH,EE];lia
def wg {F:Id}(h:64*(i+1)≤F.length)(hb:xeT F):TW xxD (wn F i):=
 ⟨λ x hx=>xoU (Ft xDo),by show xpu (sr h),by show xpu (sr h),λ x hx=>xoU xHQ,my (Nat.le_of_add_right_le h)⟩
inductive WG (Tb C CO CK:LF) (vs:LT) (H:Hp) (Q:VK) (LX:XK):Prop
 |mk (p a co ck:LF) (A:Id) (bg:Bool) (T:Id) (h0:vs=[xad,Tm]) (h1:X3 C CO CK H p co ck A bg) (h2:XL=xce) (h3:xeC T) (h4:xb0 (xaN A T)) (h5:xhK H) (h6:∀(l:LF) (Rs:xeo) (H':Hp),Ξ->xoC+Rs.length=nb (A++T)->(∀j R,xfd Rs R->Bl (A++T) (xoC+j) R)->xap=xaf (xzd xoj)->X3 C CO CK H' p co ck (A++T) true->(∀e o,xis e->H e=IO->xpd->e≠co->e≠ck->H' e=IO)->xua->xao):WG Tb C CO CK vs H Q LX
def Oc:P3 ["self","text","signs","told","begin"] xvB qr:=On
def zH (F:Χ "feed" "Presser.feed" qr)(Z:Yo K mg B D G' CW C0 C1 C2 C3 c CK Mc CO C)(hC:xm8)(Vl:xmD)(hK:xoy):Η 42 xvB (WG Tb C CO CK):=by
 have T0:=Z.T;have X:=Z.Cr.Y.Z.X.R.X;show Ι Un Z.un Mo Z.mark;obtain⟨_,_,Nx⟩:=Z.next;obtain⟨tb,Y0⟩:=Z.bs;show Ι W Z.Cr.Y.Z.whole Ri Z.Cr.Y.Z.isrow;show xoY Nr Z.Cr.Y.Z.needrow (F.ok Oc λ LS A outer st H vs Q E hr h=>?_) _;obtain⟨p,a,co,ck,A',bg,T,rfl,hP,ha,OE,hlen,hT,k⟩:=h;have Md:xba:=SB;have Q7:xah 4:=SB;refine xmg (xfJ Uf T0.cl Un (Am Un.F T0)) (xaQ 2 Oc.nd (xe1 Α (aD (bL Nr Z.Cr.Y.Z.X.R) Q7 Nr xdb)) (xaQ 3 Oc.nd (xfJ Uf T0.cl Mo (sQ Mo.F T0 X)) (xc5 4 Oc.nd ak (xqI pk (xgi xHx xan) (xaO 64 Y0 tb) (xeN (xi4 Hy HU d9 xaz (bf Uf T0.cl Nx (tD Nx.F Z hC Vl hK) hr (xbe (xxN XV xan (xb1 xan (xaO 64 Y0 tb)))))) (xrI Oc.nd (xb1 xan (xaO 64 Y0 tb))))) (xiQ (xc9 (aV bh XV (aP xan) bQ)) xaz))))
 obtain⟨⟨dx,wt,g,hp,hw,SS⟩,hA⟩:=id hP;show xfl ⟨_,rfl,p,dx,_,rfl,hp,xim,p,dx,co,wt,bg,rfl,hp,Β⟩;refine xcx ⟨_,rfl,p,C,dx,_,_,rfl,hp,T0.cl,T0.nW,xjA,_,rfl,a,T,rfl,ha,OE,xAJ⟩
 have s1:=xaR xnm n1;show xcF Qe ((xtM xnm) l1=xce) ad (xtM xnm) H1;have hn64:64*xdz≤A'.length:=by unfold nb;exact LA _ 64
 show xa8 ⟨wt,l1,_,_,rfl,rfl,xcb hw,Qe,bF (by rw [Es,Es,EE];rw [Et] at hlen;omega),xdD l2 n2⟩;have e2:Κ (A'.drop (64*xdz))++xnm=Κ (xtB A' T (64*xdz)):=by rw [<-EG,G1 hn64]
 rw [e2];have s2:=xcQ (xtB A' T (64*xdz)) n2;have Rj:(xbG H1 l2 (xtB A' T (64*xdz))) l2=xaf (xtB A' T (64*xdz)):=ad;show xiU X5 xdP (xbG H1 l2 (xtB A' T (64*xdz))) H2;clear s1 s2 n1 n2 Qe;have Ml:=X5 _ _ hp;have Rr:xmL H2 g ((xrm).take (64*xdz)) xdz (wn xrm xdz):=by
  have e:(xrm).take (64*xdz)=A'.take (64*xdz):=FU hn64;have e':wn xrm xdz=wn A' xdz:=by show xaP wn e
  rw [e,e'];exact SS.keep λ c o z _=>X5 _ _ z
 have hF:xno y xrm y:=λ y hy=>xnv hy (hA y) (OE y)
 have hnF:xdz≤nb xrm:=by show xaP nb Et;lia
 show xcF hFl (64*nb xrm≤xaN A' T/\xaN A' T<64*nb xrm+64) (by unfold nb;show xar (LA _ _) (Nat.lt_mul_div_succ _ Z9)) xrm F';show xas xdz n0 (xcx ⟨_,rfl,p,dx,_,rfl,Ml,xim,p,dx,co,wt,bg,false,rfl,Ml,λ l3 H3 n3 MR NM Mq=>Β⟩)
 clear g1;show xlq;obtain⟨Vp,Ph⟩:=Rr.ob;obtain⟨dk,U3⟩:=Rr.ch;have npc:xau co:=No (by show xzB z Ml Ph Ph Ph;injection Ph with _ _ z;cases(xKL z))
 have Vs:xau ck:=No (by show xzB z Ml U3 U3 U3;injection U3 with _ _ z;have:=xjS z;cases this)
 have Xm:xau g:=aG Rr.gr Ml (by show Ε);have nl2p:xau l2:=aG Rj Ml (by show Ε);have nH3:υ l3:=none_of X5 n3;refine xcx (Ψ (λ m σ H4=>∃j Rs g4,m=xs9-(n0+j)/\σ=[xd3,xbA,SC l2,SC l3,SL (64*j)]/\n0+j≤xs9/\Rs.length=j/\xJs (69*j)/\(∀i R,Ν Rs R->Bl F' (n0+i) R)/\H4 l3=xaf (xzd xoj)/\H4 l2=xaf (xG7 n0)/\
   H4 p=xb2 xKM/\xmL H4 g4 (F'.take (64*(n0+j))) (n0+j) (wn F' (n0+j))/\(∀e o,xis e->H e=IO->xpd->e≠co->e≠ck->H4 e=IO)/\xhK H4) ⟨xs9-n0,0,[],g,rfl,rfl,hnF,rfl,xac,λ i R e=>by simp at e,by show xbc NM,xaW Rj nl2p,MR,Rr.keep λ e o z hz=>xaW z (by show xrw hz rfl rfl;exact npc;exact Vs;exact Xm),
   λ e o _ z n _ _=>xaW (X5 _ _ z) n,fX (hT.same X5) λ e o z hn _=>xaW z (xlf Ml (xra _ _))⟩)
 rintro m σ H4 ⟨j,Rs,g4,rfl,rfl,hj,Y8,hR69,Y7,ZC,XY,Q9,U4,fr4,hT4⟩;refine⟨_,rfl,l2,_,rfl,Φ XY,_,rfl,_,_,rfl,rfl,_,_,rfl,rfl,_,rfl,xeg hc hc⟩
 ·clear g1;have hj1:64*(n0+j+1)≤F'.length:=by
   show xdF (EA hc) Es EE;lia
  have hjb:n0+j+1≤xs9:=Z5;refine xbV xqr;have tw:=wg (i:=n0+j) hj1 hF;have e64:M2 (64*j)+64=M2 (64*j+64):=Z5;refine xfT g2 ⟨_,rfl,xfa ZC,_,rfl,p,dx,_,rfl,Q9,xim,_,rfl,_,rfl,_,rfl,_,rfl,_,_,rfl,rfl,_,rfl,l2,_,rfl,K'.of XY,PP ls nls⟩
  try dsimp only
  rw [e64,mn _ Z5 (by rw [Es,EE];lia),xaA (64*j+64-64*j) 64 (HQ _ 64),<-Hs,Gz,<-G6,show 64*n0+64*j=64*(n0+j) by lia];have s5:=xcQ (xD7 (n0+j)) nls;have hls:(xji ls (xD7 (n0+j))) ls=xaf (xD7 (n0+j)):=ad;have e5:xji ls ((xG7 (n0+j)).take 64)=xji ls (xD7 (n0+j)):=rfl;rw [e5];clear e5;generalize xji ls (xD7 (n0+j))=H5 at*;have VE:=hT4.same s5;refine⟨p,dx,co,wt,ck,g4,ls,true,false,_,_,_,n0+j,rfl,xam Q9,U4.keep λ e o z _=>xam z,hls,tw,VE,λ l6 g6 R H6 n6 ng6 pb UI Za YO hT6=>?_⟩;have hR:=xFi;have U2:=xam ZC;have ZD:=xam XY;show xn1 Q8 (xam Q9) dxo4 ZH U4.ob;obtain⟨dk4,hck4⟩:=U4.ch;have nlst:∀{e} {xs},H5 e=xdg->H6 e=xdg:=No (YO _ _ (VE.ne z (by intro ps y;cases y)) z (xlf (xam ZH) (by show xf0 y y)) (xlf (xam hck4) (by show xf0 y y)))
  have Pg:=nlst U2;have hl26:=nlst ZD;have YT:=YO _ _ (VE.ne Q8 (by intro ps y;cases y)) Q8 npc.symm Vs.symm;show xgs ⟨l3,l6,_,_,rfl,rfl,Pg,UI,bF (by
   have Xv:xbg xoj 3:=by cases bg<;>decide
   rw [Es,Es,Et];lia),xcZ⟩;have n36:l3≠l6:=ae U2 n6;have nl23:l2≠l3:=by
   intro z;show xbx z Rj n3 n3
  have e66:M2 (64*j)+64=M2 (64*(j+1)):= xej;refine⟨_,rfl,_,_,rfl,rfl,xs9-(n0+(j+1)),xF5 hjb,j+1,Rs++[R],g6,rfl,?_,hjb,by show xCG,?_,xcW i R',?_,?_,?_,?_,λ e o n z n1 n2 n3'=>?_,?_⟩
  ·try dsimp only
   show Τ e66
  ·rw [JI,Et,show [R].flatten=R by simp];have:=hR.2;exact IF hR69 hR.2
  ·show xa3 i Rs.length h h
   ·show WF (Fs h) e (Y7 i R' e)
   ·rw [E4 h] at e;have hi0:i-Rs.length=0:=by
     rcases Iz (i-Rs.length) with q|q
     ·exact q
     ·show xjt (Fu (by show xCG))
    show xjt hi0;have:i=j:=(Fa (xxX hi0) h).trans Y8;show LE this pb
  ·rw [ad,JI,<-Eu,EG (l₁:=xzd xoj)];simp
  ·show Re nl23 hl26
  ·show Re (aG YT Pg (by show Ε)) YT
  ·rw [show n0+(j+1)=n0+j+1 by lia,<-gy,<-tE hj1];refine Za.keep λ e o z hz=>?_
   show xx4 ZF Za.ob ZK Za.ch;show Re (by
    show xrw hz rfl rfl
    ·exact aG ZF Pg (by show xf0 y y)
    ·exact aG ZK Pg (by show xf0 y y)
    ·exact xeb U2 ng6) z
  ·show xiC z nH3 (YO _ _ n (xam (fr4 _ _ n z n1 n2 n3')) n2 n3')
  ·exact fX hT6 λ e o z _ hn=>by
    show Re (xlf Pg xra) z
 ·have hnb:n0+j=xs9:=by
   have h1:¬(Ty 64≤xgQ (Κ (xG7 n0))-M2 (64*j)):=xzJ xwU
   rw [Es,EE] at h1;lia
  show xa8 Β;refine⟨_,rfl,_,rfl,_,rfl,l2,_,rfl,K'.of XY,PP lw YJ⟩
  try dsimp only
  rw [ft,<-Hs,Gz,show 64*n0+64*j=64*xs9 by lia];obtain⟨dxo4,ZH⟩:=U4.ob;show xqz dk4 hck4 U4.ch s5 (xcQ xAm YJ);have ZG:=xam ZH;have YW:(xji lw xAm) lw=xaf xAm:=ad;have Q8:=xam Q9;have VE:=hT4.same s5;have hCo5:=U4.keep (H':=xji lw xAm) λ e o z _=>xam z
  have U2:=xam ZC;have Vo:∀e o,xis e->H e=IO->xpd->e≠co->e≠ck->(xji lw xAm) e=IO:=λ e o n z n1 n2 n3=>xam (fr4 _ _ n z n1 n2 n3)
  show xas (xji lw xAm) H5 ⟨_,rfl,p,C,dx,_,rfl,Q8,T0.cl,T0.nW,xlp,?_⟩;rw [pi];have NQ:∀{e} {xs},H5 e=xdg->xpd:=No (xlf Q8 (by show xf0 y y))
  refine xa9 (k l3 Rs _ nH3 Z5 Y7 (by show Re (NQ U2) U2) ⟨⟨dx,lw,g4,ad,by show Re (NQ YW) YW,?_⟩,hF⟩ (λ e o n z n1 n2 n3=>by show Re n1 (Vo _ _ n z n1 n2 n3)) (fX VE λ e o z hn _=>by show Re (xlf Q8 (xra _ _)) z))
  ·show xaC hnb (hCo5.keep λ e o z hz=>by
    show Re (by show xrw hz rfl rfl;exact npc;exact Vs;exact NQ hCo5.gr) z)
def LB (A R:Id):Prop:=(A.length%64=0/\R=[])\/(A.length%64≠0/\PB (wn A xoC) (A.drop (64*xoC)) R)
def tZ (hb:xeT A)(h:A.length%64≠0):TW (A.drop (64*xoC)) (wn A xoC):=
 ⟨λ x hx=>xoU (Ft hx),by rw [EE];unfold nb;exact by show xaC J7 (JS h),by rw [EE];unfold nb;exact by show xaC J7 (EZ xqD),λ x hx=>xoU xHQ,my (by unfold nb;exact LA _ 64)⟩
inductive Yz (Tb C CO CK:LF) (vs:LT) (H:Hp) (Q:VK) (LX:XK):Prop
 |mk (p co ck:LF) (A:Id) (bg:Bool) (h0:vs=xaV) (h1:X3 C CO CK H p co ck A bg) (h2:xb0 A.length) (h3:xhK H) (h4:∀(l:LF) (R:Id) (H':Hp),Ξ->LB A R->xap=xaf (xoj++R++tailR A.length (xlM A))->(∀e o,xis e->H e=IO->xpd->e≠co->e≠ck->H' e=IO)->xua->xao):Yz Tb C CO CK vs H Q LX
def WM:xr1 (xjY "told") wa:=On
def BK (F:Χ "finish" "Presser.finish" wa)(Z:Yo K mg B D G' CW C0 C1 C2 C3 c CK Mc CO C)(hC:xm8)(Vl:xmD)(hK:xoy):xhw 42 (Yz Tb C CO CK):=by
 have T0:=Z.T;have X:=Z.Cr.Y.Z.X.R.X;show Ι Un Z.un Mo Z.mark;show Ι Nx Z.next Ta Z.Cr.tail;show xaE WM (λ LS A outer st H vs Q E hr h=>?_);obtain⟨p,co,ck,A',bg,rfl,⟨⟨dx,wt,g,hp,hw,SS⟩,hA⟩,hlen,hT,k⟩:=h;have Md:xba:=SB;have Xs:xah 9:=SB;show xgk (xmg (xfJ Uf T0.cl Un (Am Un.F T0)) (ac xs3
  (xa7 1 WM.nd (xfJ Uf T0.cl Mo (sQ Mo.F T0 X)) (xeA c8 xHy ak (xi4 Hy HU d9 SZ (bf Uf T0.cl Nx (tD Nx.F Z hC Vl hK) hr xs2))) (xe1 SZ (bz Α Z.Cr.cl Ta (pF Ta.F Z.Cr) Xs))))) ⟨_,rfl,p,dx,_,rfl,hp,xim,p,dx,co,wt,bg,rfl,hp,Β⟩;obtain⟨Vp,OD⟩:=SS.ob;obtain⟨dk,Qd⟩:=SS.ch;have npc:xau co:=No (by show xzB z hp OD OD OD;injection OD with _ _ z;cases(xKL z))
 have Vs:xau ck:=No (by show xzB z hp Qd Qd Qd;injection Qd with _ _ z;have:=xjS z;cases this)
 have Xm:xau g:=xro SS.gr (by show Ε);have YI:xau wt:=xro hw (by show Ε);show xfl ⟨_,rfl,p,C,dx,_,rfl,hp,T0.cl,T0.nF,xlp,Β⟩;rw [vI];have MJ:(xch H xCt) p=xb2 xCt:=ad;have k1:∀e o,H e=IO->xpd->(xch H xCt) e=IO:=λ e o z n=>by show Re n z
 have no1:∀e,W1 ((xch H xCt) e)->υ e:=λ e z=>by
  by_cases n:e=p
  ·show xbx n MJ z z
  ·show xoF n z z
 show xas (xch H xCt) H1 (xcx ⟨_,rfl,p,dx,_,rfl,MJ,xim,p,dx,co,wt,bg,true,rfl,MJ,λ l3 H3 n3 MR NM Mq=>Β⟩)
 clear g1;have k3:∀e o,H e=IO->xpd->H3 e=IO:=λ e o z n=>xaW (k1 _ _ z n) n
 have nH3:=no1 _ n3;have X1:xmL H3 g (A'.take (64*xdz)) xdz (wn A' xdz):=SS.keep λ e o z hz=>xjz z (by show xrw hz rfl rfl;exact npc;exact Vs;exact Xm)
 have Xq:=xjz hw YI;have Y3:xhK H3:=fX hT λ e o z hn _=>xjz z (xlf hp (xra _ _))
 clear Mq k1 MJ no1;refine xbt
 have J:∀R S G b g5 H5,LB A' R->S=A'->xmL H5 g5 S b G->xza 100->H5 l3=xaf (xoj++R)->H5 p=xb2 (xy2 true)->(∀e o,xis e->H e=IO->xpd->e≠co->e≠ck->H5 e=IO)->xhK H5->R1 [xd3,SC l3] H5:=by
  intro R S G b g5 H5 hLB eS hC5 hR Tr Q8 Vo VE;subst eS;refine Β;show xbD dxo5 ZG hC5.ob ⟨_,rfl,_,rfl,p,C,dx,_,_,rfl,Q8,T0.cl,T0.nC,pM _ _ _ _,co,dxo5,_,rfl,ZG,iS _ _ _ _,co,ck,g5,_,G,b,rfl,hC5,λ lt H6 nt YG LU=>?_⟩;refine⟨l3,lt,_,_,rfl,rfl,YG _ _ Tr,LU,bF (by
   have Xv:xbg xoj 3:=by cases bg<;>decide
   rw [Es,Es,Et];show xmV (_+11);lia),xe7⟩
  have s67:=xje (Κ (xoj++R)++Κ xxf);refine xd8 R _ ?_ hLB (by rw [ad,<-EG]) (λ e o n z n1 n2 n3=>s67 _ _ (YG _ _ (Vo _ _ n z n1 n2 n3))) ((VE.same YG).same s67);have n5:W1 (H5 l):=xpY YG;cases e:H l with
  |none=>rfl
  |some o=>
   exfalso;by_cases z1:l=p
   ·show xbx z1 Q8 n5 n5
   ·by_cases z2:l=co
    ·show xbx z2 ZG n5 n5
    ·by_cases z3:l=ck
     ·obtain⟨_,hk5⟩:=hC5.ch;show xbx z3 hk5 n5 n5
     ·by_cases z4:l=Tb
      ·obtain⟨ps,h,_⟩:=VE;show xbx z4 h n5 n5
      ·show ρ (Vo _ _ z4 e z1 z2 z3) n5 n5
 clear g1;refine⟨_,rfl,p,C,dx,_,_,rfl,MR,T0.cl,T0.nW,xjA,wt,_,rfl,Φ Xq,_,_,rfl,rfl,_,rfl,xeg hc hc⟩
 ·have h0:A'.length%64≠0:=by
   show xdF (EA hc) Es EE;unfold nb at this;omega
  show xjM tw (tZ hA h0) ⟨_,rfl,xfa NM,_,rfl,p,dx,_,rfl,MR,xim,_,rfl,p,C,dx,_,_,rfl,MR,T0.cl,T0.nW,xjA,?_⟩ ⟨p,dx,co,wt,ck,g,wt,true,true,_,_,_,xdz,rfl,MR,X1,Xq,tw,Y3,λ l6 g6 R H6 n6 ng6 pb UI Za YO hT6=>?_⟩;have hR:=xFi.2;have ZI:=X1.ob;have ZL:=X1.ch;show xx4 ZI ZI ZL ZL;have Pg:=YO _ _ (Y3.ne NM (by intro ps y;cases y)) NM (aG NM ZI (by show xf0 y y)) (aG NM ZL (by show xf0 y y));show xjM YT (YO _ _ (Y3.ne MR (by intro ps y;cases y)) MR npc.symm Vs.symm) ⟨l3,l6,_,_,rfl,rfl,Pg,UI,bF (by
   have Xv:xbg xoj 3:=by cases bg<;>decide
   rw [Es,Es];lia),?_⟩ (J R _ _ _ g6 _ (xcz h0 pb) (E9 _ _) (Za.keep λ e o z hz=>?_) (xdC hR) (by rw [ad,EG]) (by show Re (aG YT Pg (by show Ε)) YT) (λ e o n z n1 n2 n3'=>?_) (fX hT6 λ e o z _ hn=>by show Re (xlf Pg xra) z))
  ·show xx4 ZF Za.ob ZK Za.ch;show Re (by
    show xrw hz rfl rfl
    ·exact aG ZF Pg (by show xf0 y y)
    ·exact aG ZK Pg (by show xf0 y y)
    ·exact xeb NM ng6) z
  ·show xiC z nH3 (YO _ _ n (xjz z n1) n2 n3')
 ·have h0:A'.length%64=0:=by
   have h1:¬(xcU<xlW (Κ (A'.drop (64*xdz)))):=xzJ xwU
   rw [Es,EE] at h1;unfold nb at h1;omega
  refine J [] _ _ _ g H3 (.inl (xck h0)) (EV (by unfold nb;lia)) X1 Z9 (by show LE Fw NM) MR (λ e o _ z n _ _=>xjz z n) Y3
def WH (T Z:Id):Prop:=∃(Rs:xeo) (R:Id),Rs.length=nb T/\(∀j R,xfd Rs R->Bl T j R)/\LB T R/\Z=xzd [184,66,1]++R++xCn T
inductive QA (Tb:LF) (vs:LT) (H:Hp) (Q:VK) (LX:XK):Prop
 |mk (a:LF) (T:Id) (h0:vs=xbK) (h1:XL=xce) (h2:xeC T) (h3:xl9) (h4:xhK H) (h5:∀(l:LF) (Y:Id) (H':Hp),Ξ->WH T Y->xap=Υ xpN->(∀e o,xis e->H e=IO->H' e=IO)->xua->xao):QA Tb vs H Q LX
def OB:P3 ["text","presser","bale"] xHh kb:=On
theorem oE (hb:xeT F):∀(Rs:xeo) i,i+Rs.length≤nb F->(∀j R,xfd Rs R->Bl F (i+j) R)->xJs (69*Rs.length)
 | [],_,_,_=>xac
 |R::Rs,i,h,hR=>by
  rw [EK] at h;have h1:=oE hb Rs (i+1) Z5 λ j R' e=>by
   have:=hR (j+1) R' (by show xAC);show LE (show i+1+j=i+(j+1) by lia) this
  have h0:Bl F i R:=hR 0 R rfl;have h2:=(h0.facts (wg (by unfold nb at h;lia) hb)).2;rw [Gd,Et,EK];lia
def LB.len (h:LB A R)(hb:xeT A):xza 69:=by
 rcases h with⟨_,rfl⟩|⟨h0,h⟩
 ·decide
 ·exact(h.facts (tZ hb h0)).2
def rq (F:Ζ "pressed" kb xHh)(Z:Yo K mg B D G' CW C0 C1 C2 C3 c CK Mc CO C)(hC:xm8)(Vl:xmD)(hK:xoy):Η 43 xHh (QA Tb):=by
 have T0:=Z.T;show xj4 bI MI Z.init;show Ι Fe Z.feed Fi Z.finish;show xbo OB (λ LS A outer st H vs Q E hr h=>?_);obtain⟨a,T,rfl,ha,hb,hl,hT,k⟩:=h;have Vv:xah 7:=SB;show xcR (xaQ 1 OB.nd (xry (wJ FI Z) Vv T0.m bI a7) (xaQ 2 OB.nd (xBc T0.cl Fe (zH Fe.F Z hC Vl hK) hr xbj) (xbU (xe1 XV (bz SZ T0.cl Fi (BK Fi.F Z hC Vl hK) hr))))) xbt
 intro p dp np Sv W4;have s0:=xkd C np Sv;show xa8 (xc8 p dp ad (λ co ck H1 Xo Tj hP NA=>xcC Β));have s1:xou:=λ e o z=>xrG _ (xhW z) (ae z np)
 have ncoH:=xka Xo;have QU:=xka Tj;clear NA s0;refine xbt
 obtain⟨⟨N4,wt1,gg1,MJ,_,_⟩,_⟩:=id hP;show xa8 ⟨_,rfl,p,N4,_,rfl,MJ,xim,_,rfl,p,a,co,ck,[],false,T,rfl,hP,xkG,hb,hl,xB9,λ l Rs H2 nl Y8 Y7 Mu hP2 fr2 UO=>Β⟩;obtain⟨⟨SD,wt2,gg2,Ml,_,_⟩,_⟩:=id hP2;have hRl':Rs.length=nb T:=by
  have:nb ([]:Id)=0:=rfl;rw [this,F6] at Y8;exact Y8
 have hRs':∀j R,xfd Rs R->Bl T j R:=λ j R e=>by
  show xg4 (Y7 j R e) (xaA (nb ([]:Id)+j) j (F6 j))
 refine⟨_,rfl,_,rfl,p,SD,_,rfl,Ml,xim,p,co,ck,T,true,rfl,hP2,hl,UO,λ l5 R H5 nl5 hLB Tr Vo VE=>?_⟩;have NQ:∀{e} {xs},H2 e=xdg->xpd/\e≠co/\e≠ck/\xis e:=No (by
  obtain⟨⟨_,_,_,h,_,SS⟩,_⟩:=hP2;show xx4 OD SS.ob Qd SS.ch;show xav (xlf h (by show xf0 y y)) (xlf OD (by show xf0 y y)) (xlf Qd (by show xf0 y y)) (UO.ne z (by intro ps y;cases y)))
 obtain⟨m1,m2,m3,m4⟩:=NQ Mu;have ZD:=Vo _ _ m4 Mu m1 m2 m3;have hfl:=oE hb Rs 0 Z5 λ j R e=>by show LE F6 (hRs' j R e)
 have TQ:=hLB.len hb;have hnb:nb T≤15:=by unfold nb;lia
 have ht11:xaJ (xCn T) 11:=rfl;refine⟨l,l5,_,_,rfl,rfl,ZD,Tr,bF (by
  rw [Es,Es,Et,Et,Et,ht11];show xmV (3+_+(0+_+11));lia),PP l6 n6⟩
 have s6:=xaR (Κ (xzd (mk false))++Κ (mk true++R++xCn T)) n6;have frA:∀e o,xis e->H e=IO->H5 e=IO:=λ e o n z=>by
  have n1:xpd:=ae z np;have n2:e≠co:=ae z ncoH;have n3:e≠ck:=ae z QU;exact Vo _ _ n (fr2 _ _ n (xcb z) n1 n2 n3) n1 n2 n3
 refine k l6 _ _ (jw VE frA n6) ⟨Rs,R,hRl',hRs',hLB,rfl⟩ ?_ (λ e o n z=>xd6 (frA _ _ n z)) (VE.same s6);rw [ad,<-EG];show some (HO.lst (Κ (xzd [184,66,1]++([]++R++xCn T))))=_;rw [FJ,<-Eu]
universe K33.Ck
namespace HT
open PySem PySem.Spec PyProof.Rows
def Oo {lo hi:xb9}{Q:Ρ}(ht:xBy t items)(hs:xEy vl vu .none)(pl:xGz lo)(pu:xGA hi)
  (hw:xe5=0/\xmA=items.size) (h:Q xfr s):xeD (getItem xfr xyS):=by
 show xn7 os YU SQ hds hs;have hTs:s.TypeIs xyS "slice":=⟨os,YU,SQ⟩;unfold getItem
 try with_reducible refine Gf ?_
 first|show xaa xeR|skip
 show xdu (xLV Z9 ?_) (Hb (name:=xLZ) ht.typeIs Gh
  (Io Gh ht.typeIs entry_tuple_getitem ?_ (xMm _)))
 show xg3 (xLO>>=_);show xdu (tupleItemsOf_ ht ?_) (wpAny_typeOf hTs ?_);show xjw (EU Z9) (eA hs pl pu ?_);have hyes:Pi (M2 xe5==0&&xb4==1&&xGs (xmA-xe5)):=by
  rw [hw.1,hw.2];simp
 show xth (M2 xe5==0&&xb4==1&&xGs (xmA-xe5));show xjw (EU hyes) ?_;show xgY Builtin.Tuple.tupleIsExact (wpAny_typeOf ht.typeIs xeR);show xjw (EU (by rfl)) (IM ?_)
 first|exact xDO h|exact EM (xa9 h)
universe HT
namespace L2
open PySem PySem.Spec PyProof.Rows QQ
def C8 (K:Frag):V->xb9->xb9->Hp->xe3:=λ x lo hi H Q=>∃a xs,x=Tm/\xna a xs/\xuL=0/\xnO (xBC hi)/\Q Tm H
def zP:Xd X (C8 X.K):=by
 intro LQ s σ H x v vl vu lo hi sl Q I rx hs pl pu h;obtain⟨a,xs,rfl,hx,h1,h2,q⟩:=h;cases rx;show xsN r ht hz hx;have hlen:xMF:=by show LE EO r.length.symm
 refine⟨"tuple",_,Gh.lookup,ht.typeIs,?_⟩;exact HT.Oo ht hs pl pu (by show LE hlen ⟨h1,h2⟩) (xby Tm H I q)
def Ai (K:Frag):R2:=λ x y H Q=>∃(p q:LF) (ns ms:xkk),x=xad/\y=xwB/\xna p xeI/\xna q xyj/\ns.length=ms.length/\xdK (! xa2 ns ms)
def yK {X:Cx}(hu:xsP 64<cLine):xe9 .NotEq (Ai X.K):=by
 intro LQ s σ H x y v u Q I rx ry h;obtain⟨p,q,ns,ms,rfl,rfl,ha,hb,hl,k⟩:=h;cases rx;cases ry;show xsN rv pl hz ha;obtain⟨OZ,rv2,pl2,Q5⟩:=I.tuple hb;show xwy l1;have l2:=rv2.length;rw [Es] at l1 l2;refine SeqAt.RcNeAt.tuples (e:=xed j (ns[j]?=ms[j]?)) (show s.heap.IsTuple p its.toArray from pl) (show s.heap.IsTuple q OZ.toArray from pl2) (by omega) (Sc j h1 h2) _ _ _ _ ?_
 ·have j1:xCU j:=by simp at h1;omega
  have j2:j<ms.length:=by omega
  obtain⟨u1,e1,r1⟩:=xGQ j (x:=V.int ns[j]) (by simp [j1]);obtain⟨u2,e2,r2⟩:=rv2.get (i:=j) (x:=V.int ms[j]) (by simp [j2]);have g1:its.toArray[j]=u1:=by
   obtain⟨_,z⟩:=ED.mp e1;show xtD
  have g2:OZ.toArray[j]=u2:=by
   obtain⟨_,z⟩:=ED.mp e2;show xtD
  rw [g1,g2];have e:=Br (A:=X.A.in1) (s:=s) r1 r2 rfl rfl;have ee:eqV (V.int ns[j]) (V.int ms[j])=xa2 ns[j]? ms[j]?:=by
   rw [Ex j1,Ex j2];show(ns[j]==ms[j])=_;show xbc Jo
  show WF ee e e
 ·refine⟨.bl _,H,I,?_,k⟩;show Value.bool _=Value.bool _;congr 1;congr 1;rw [EO,EO,<-l1,<-l2,<-hl,Nat.min_self,Jo];simp only [JF,List.all_eq_true,Ji,decide_eq_true_eq,beq_self_eq_true,and_true];refine⟨No (G2 (xdr j)),λ z j _=>by rw [z]⟩;show xa3 j ns.length q q
  ·exact z j q
  ·rw [Fu q,Fu (by omega)]
universe L2
namespace K33.Ck
open PySem L2 QQ W17 W16 BP
seal PE PA PS PSs PT PW PG PI
abbrev rc:LP:=xaM 35 3
abbrev qM:LP:=xD8 3
abbrev iw:LP:=top 117
abbrev iB:LP:=top 118
abbrev m6:LP:=top 119
abbrev iD:LP:=top 120
structure Yp (K:Frag)(mg:π)(C Mc CO:LF):Prop where
 H:Yq K mg C Mc
 R:xrc K C CO
 tuple:xgZ "tuple"
 mark:∃d,mg "MARK"=xmP/\∀H,xna d [xAb,vN 66,vN 1]
 signs:xcK "BLOCK_SIGNS" 64
 tbytes:xcK "TAIL_BYTES" 11
 headof:UF "head_of" gO Jal
 bsize:UF "block_size" dP xwg
 nmark:UF "need_mark" iw xHi
 nexth:UF "next_head" iB xGo
 partat:UF "part_at" m6 xFM
 nlast:UF "need_last" iD ["bale","end"]
 ctwin:∃f fd,xhq "twin" "Check.twin" rc
 otwin:∃f fd,xqA CO "twin" "Course.twin" qM
abbrev mk3:Id:=[184,66,1]
inductive PX (cM:LF) (vs:LT) (H:Hp) (Q:VK) (E:XK):Prop
 |mk (a:LF) (B:Id) (h0:vs=xbK) (h1:XL=xfy) (h2:xgK=xu9->xqZ) (h3:xgK≠xu9->xbC (UV->xjg cM)):PX cM vs H Q E
def P4:P3 ["bale","begin"] xHi iw:=On
def pG (F:Ζ "need_mark" iw xHi)(Z:Yp K mg C Mc CO)(Er:xuI K cM cH cK cT):xi2 P w K P w 31 f fd xHi (PX cM):=by
 have X:=Z.H.N.X;show xa0 d hm hd Z.mark (F.F.okE P4 λ LS A outer st H vs Q E hr h=>?_)
 intro _;obtain⟨a,B,rfl,ha,k1,k2⟩:=h;show xw1 hu;show xcR (xeX 1 P4.nd (bM kP Z7 Z.tuple PyProof.Rows.boot_tuple (xbe (xw8 Uf bQ (xDE cF Jh (xbe (xDj xqx Z7 hm)))))) (xeA (yK hu) SZ (aV (Xd.or Bh zP) (xDj xqx Z7 hm) bQ (aP (xDE cF Jh xdb))) (gR c6 xlX Z7 Er.mM Er.xM eM))) (xfT g ⟨_,rfl,d,_,rfl,.inr (hd H),_,rfl,a,_,rfl,K'.of ha,xe7⟩)
 have ec:xuV xff none (xgQ ([xAb,vN 66,vN 1]:LT))=xDv:=by rw [xcd (xlW ([xAb,vN 66,vN 1]:LT)) (M2 3),dU,G6]
 rw [ec];have s1:=xcQ xgK nl;show xlK (xef l _ (.inl ⟨xCH,λ t nt=>xdL⟩)) g;have s2:=xhz xDv nt;have ht:xc3 ((xcn (xbG H l xgK) t xDv) t) xDv:=ad;show xiU NK xdP (xcn (xbG H l xgK) t xDv) H2;have hl:xbg xgK 3:=by show xni xhk
 have em:xFl=xu9:=by
  show xa3 B.length 3 q q
  ·rw [EV (EZ q)]
  ·rw [EH,Fp q,EV (by show xnE (3≤3)),EV (by show 3≤_;exact q)]
 refine⟨_,rfl,_,rfl,t,_,rfl,.inr xp4,_,rfl,?_⟩;have inj:∀{u v:Id},(u.map λ b=>xdj)=(v.map λ b=>xdj)->u=v:=λ h=>KZ (f:=λ b:Nat=>(b:Int)) (λ _ _ e=>Int.ofNat.inj e)|>.mp h
 have fin:∀(q:LF) (H3:Hp) (R:VK),xt1 H3->MD K H3 q (Κ xFl)->R (.bl (! xa2 xgK xu9)) H3->Ai K xfr xwB H3 R:=λ q H3 R s3 hq r=>by
  refine⟨t,q,xrt xgK,xrt xFl,rfl,rfl,?_,?_,?_,?_⟩
  ·show xaC jv (MD.of (xcf ht))
  ·show xaC jv hq
  ·rw [Es,Es,EH (l:=mk3)];exact(Fp hl).symm
  ·show LE (xaA (xa2 (xrt xgK) (xrt xFl)) (xa2 xgK xu9) (xMB ⟨No (by show xaC em (inj z)),No (by rw [em,<-z])⟩)) r
 have fin2:∀{A B':Prop},((xbC (UV->xjg cM))->A)->((xqZ)->B')->xbZ (! xa2 xgK xu9) A B':=λ a b=>by
  by_cases e:xgK=xu9
  ·show LE (Ez e) (bi (b (k1 e)))
  ·show LE (F7 e) (cU (a (k2 e)))
 rw [Es];show xa3 xIF 3 q q
 ·refine .inl ⟨d,_,rfl,hd H2,?_,PP p np⟩
  ·rw [HT.Mz];rintro⟨_,z⟩;have z:min xIF 3=3:=z;omega
  ·show LE dU (fin p _ _ (am np) (MD.of (by rw [ad,G6];rfl)) (xa9 (fin2 (λ h=>xcX (NK.trans (am np))) λ h=>xcX (NK.trans (am np)))))
 ·have q3:xaJ xgK 3:=Fa hl q;refine .inr ⟨d,_,rfl,hd H2,rfl,?_,fin d H2 _ xKF (by show LE q3 (hd H2)) (xa9 (fin2 (λ h=>xcX NK) λ h=>xcX NK))⟩;rw [HT.Mz,q3];rfl
inductive PU (Mc cH:LF) (vs:LT) (H:Hp) (Q:VK) (E:XK):Prop
 |mk (x:LF) (a b c m:Nat) (h0:vs=[xbk,xjq]) (h1:xhp=xaf [a,b,c]) (h2:xno y [a,b,c] y) (h5:(c=xjv [a,b]/\xph/\(b=0->a=0)/\(xb6->m%64=0)/\(b=0->xqZ)/\(xb6->∀p dx H',UV->H' p=xeJ Mc (fH (a/64) (a%64+1) b)->xbf xad))\/(xcp (xjv [a,b])/\xbC (UV->xjg cH))):PU Mc cH vs H Q E
def P2:P3 ["row","many_signs","head"] xGo iB:=On
def pB (F:Ζ "next_head" iB xGo)(Z:Yp K mg C Mc CO)(Er:xuI K cM cH cK cT):xi2 P w K P w 33 f fd xGo (PU Mc cH):=by
 obtain⟨_,_,O⟩:=Z.headof;show xnh t64 MO Z.signs (F.F.okE P2 λ LS A outer st H vs Q E hr h=>?_) _;obtain⟨x,a,b,c,m,rfl,hx,UM,hh⟩:=h;refine xbV (xa7 2 P2.nd (xhd (kY O Z.H Er) hr O.m O.F.kp O.b c6 xbj) (xvX (xAs (xeK yO XV dO) (xm7 qc (aq bv SZ (xaO 64 MO t64))))) XV)
 rcases hh with⟨hc,hb,TJ,hm,k0,k1⟩|⟨hc,k⟩
 rotate_left
 ·exact⟨_,rfl,x,a,b,c,rfl,hx,UM,xcz hc k⟩
 refine⟨_,rfl,x,a,b,c,rfl,hx,UM,.inl ⟨hc,hb,TJ,Sc z H1 s1,λ z p dx H1 np s1 hp=>?_⟩⟩
 ·exact xkh _ _ (bi (xDT (k0 z _ s1)))
 ·have e:xk3%64=0:=Int.ofNat_inj.2 (hm z);refine xkh _ _ (cU ⟨_,rfl,_,_,rfl,rfl,(by show xdG 64),rfl,_,rfl,?_⟩)
  try dsimp only
  show xdM (xDT (k1 z p dx _ s1 hp))
inductive RU (cH:LF) (vs:LT) (H:Hp) (Q:VK) (E:XK):Prop
 |mk (x:LF) (B y z':Id) (p m a b c:Nat) (h0:vs=[xbk,vN p,xjq]) (h1:xhp=xfy) (hp:xf3 p) (hB:B.drop p++y=[a,b,c]++z') (h2:xno y [a,b,c] y) (hk:(c=xjv [a,b]/\xph/\(b=0->a=0)/\(xb6->m%64=0)/\∃n,n=xcI (b=0) 8 (b+2)/\(xnB p<n+3->xqZ)/\(n+3≤xnB p->∀t v H',UV->xc3 (H' t) [v,vN (p+(n+3))]->((b=0/\v=.non)\/(xb6/\∃h,v=xD6))->xbf xfr))\/(xcp (xjv [a,b])/\(xnB p<3->xqZ)/\(3≤xnB p->xbC (UV->xjg cH)))):RU cH vs H Q E
def Oh:P3 ["bale","place","many_signs","head_end","head","end"] xFM m6:=On
def uL (F:Ζ "part_at" m6 xFM)(Z:Yp K mg C Mc CO)(Er:xuI K cM cH cK cT):xi2 P w K P w 34 f fd xFM (RU cH):=by
 have X:=Z.H.N.X;show Ι Nh Z.nexth Bs Z.bsize;obtain⟨t3,h3⟩:=Z.H.three;show xnh t11 Qe Z.tbytes (F.F.okE Oh λ LS A outer st H vs Q E hr h=>?_) _;obtain⟨x,B,y,z',p,m,a,b,c,rfl,hx,hpB,hB,UM,hh⟩:=h;have Md:xba:=SB;refine xbV (xc5 3 Oh.nd (xGH (xaO 3 h3 t3)) (xhN dQ xzn xaz (xbU dO) aA) (xaQ 4 Oh.nd (xhd (pB Nh Z Er) hr Nh.m Nh.F.kp Nh.b c6 (aa (xxN Uf SZ xaz) xeW)) (xa7 5 Oh.nd (xGH (j7 (xeK g9 xan dO) (xaO 11 Qe t11) (xcs (qd Bs Z.H) Bs xzS))) (xhN dQ xzn xcr (xbU dO) aA) (dH (xbP 4 5)))))
 have e3:Ty p+3=xjH 3:=rfl;refine⟨_,rfl,_,_,rfl,rfl,?_⟩
 try dsimp only
 show ST e3 (xfT g ⟨_,rfl,x,_,rfl,Φ hx,_,rfl,_,_,rfl,rfl,_,rfl,xxc (λ h=>xdL)⟩)
 ·show xaD h xbJ Es h;rcases hh with⟨_,_,_,_,n,_,kN,_⟩|⟨_,kN,_⟩
  ·exact kN (by lia) _ xJ6
  ·exact kN (by lia) _ xJ6
 clear g;have Xa:xf3 (p+3):=by
  show xa3 B.length (p+3) q q
  ·show xiW (by show xcY) h
  ·exact q
 clear h;have ec:xl5 xff (Ty p) (xjH 3)=Κ [a,b,c]:=by
  rw [mn _ xdk (by show xdl Xa),Ga,<-Hs,<-G6];show xdA (xEx 3 hB) (FU (by show xaF EE));show Τ this
 refine⟨_,rfl,_,rfl,_,rfl,_,rfl,_,rfl,x,_,rfl,K'.of hx,xe7⟩
 try dsimp only
 rw [ec];have s1:=xcQ [a,b,c] nl;rcases hh with⟨hc,hb,TJ,hm,n,hn,kN,k⟩|⟨hc,_,k⟩
 rotate_left
 ·exact⟨_,rfl,l,a,b,c,m,rfl,ad,UM,xcz hc (λ H' s2=>k (by lia) _ xdP)⟩
 have lt:Pi (xft (xgQ xff) (xjH (n+3)))->xnB p<n+3:=λ h=>by
  show xaD h xbJ Es h;lia
 have ge:¬(Pi (xft (xgQ xff) (xjH (n+3))))->n+3≤xnB p:=λ h=>by
  show xa3 B.length (p+(n+3)) q q
  ·show xiW (by show xcY) h
  ·lia
 refine⟨_,rfl,l,a,b,c,m,rfl,ad,UM,.inl ⟨hc,hb,TJ,hm,Sc z H2 s2,λ z ph dx H2 s2 hph=>?_⟩⟩
 ·have hE:Ty p+11=xjH (n+3):=by rw [hn,EU z];rfl
  have hv:(b=0/\V.non=.non)\/(xb6/\∃h,V.non=xD6):=.inl (xck z);refine⟨_,rfl,_,rfl,rfl,_,rfl,cU (xfQ _ rfl ?_)⟩
  try dsimp only
  show ST hE ⟨_,rfl,x,_,rfl,Φ (xbQ (xcb hx)),_,rfl,_,_,rfl,rfl,_,rfl,aU (λ h=>kN (lt h) _ xdP) (λ h=>xfR _ (by show xgE) (λ t nt=>k (ge h) t _ _ (xy1 (am nt)) ad hv))⟩
 ·have hE:Ty p+M2 (b+5)=xjH (n+3):=by rw [hn,EI (Iy z)];rfl
  have hv:(b=0/\V.ref ph=.non)\/(xb6/\∃h,V.ref ph=xD6):=.inr (xee z ph);refine⟨_,rfl,_,rfl,rfl,_,rfl,bi ⟨_,rfl,ph,dx,_,_,b,rfl,hph,_,_,rfl,rfl,?_⟩⟩
  try dsimp only
  show ST hE ⟨_,rfl,x,_,rfl,Φ (xbQ (xcb hx)),_,rfl,_,_,rfl,rfl,_,rfl,aU (λ h=>kN (lt h) _ xdP) (λ h=>xfR _ (by show xgE) (λ t nt=>k (ge h) t _ _ (xy1 (am nt)) ad hv))⟩
inductive PY (vs:LT) (H:Hp) (Q:VK) (LX:XK):Prop
 |mk (a:LF) (h0:vs=[Tm,xh4]) (h1:XL=Υ []) (h2:xkA H):PY vs H Q LX
def qJ:P3 ["bale","end"] ["bale","end"] iD:=On
def qh (F:Ζ "need_last" iD ["bale","end"])(Z:Yp K mg C Mc CO):xew ["bale","end"] PY:=by
 have X:=Z.H.N.X;show xbo qJ (λ LS A outer st H vs Q E hr h=>?_);show xgX a rfl ha k;refine xwD (xeA c8 xzn SZ aO);exact⟨_,rfl,a,_,rfl,Φ ha,_,rfl,_,_,rfl,rfl,_,rfl,bi k⟩
inductive Uj (C:LF) (vs:LT) (H:Hp) (Q:VK) (LX:XK):Prop
 |mk (p dx:LF) (s:Nat) (h0:vs=xaV) (h1:xbh=xoa 16 s) (h2:∀x dk H',υ x->UV->H' x=xjP C dk (fC 16 s)->xbf xbk):Uj C vs H Q LX
def Ut:xr1 xJN rc:=On
def xn (F:Χ "twin" "Check.twin" rc)(Z:Chk K mg C):xhw 4 (Uj C):=by
 obtain⟨X,T,⟨_,_,W⟩,_,_,_,⟨_,_,_,FI,bI,M⟩,_⟩:=Z;show xaE Ut (λ LS A outer st H vs Q E hr h=>?_);obtain⟨p,dx,s,rfl,hp,k⟩:=h;show xcR (xa7 1 Ut.nd (fF M (xKC W T X) hr Z7 T.m bI .nil a7 xs2) xDD SZ) ⟨_,rfl,p,C,dx,_,_,rfl,hp,T.cl,T.nW,oH _ _,λ x dk nx SJ X7=>?_⟩;have s0:=xuM C SJ;refine⟨x,dk,16,45,rfl,kO,ad,λ H1 hx kp=>xhA⟩;have s1:xou:=λ b o e=>kp b o (s0 b o e) xs6
 show xg6 ⟨_,rfl,p,C,dx,_,_,rfl,xop,T.cl,T.nS,ku _ _,_,rfl,x,C,dk,_,rfl,hx,T.cl,T.nS,xW _ _,?_⟩ xz (xa9 (k x dk _ nx (λ c o e=>by show xgp nx xbr) ad))
def Df (b m)(ck Ym g):xr3 Ym xls=fO b m Ym g:=by
 show(xda (xsg xfY) (xfY,xd1) (xda (xsg xlJ) (xlJ,xjq) (xgo (xsg xyb))))=_;rw [EI BY,EI BI,xag];rfl
inductive Ua (CO CK:LF) (vs:LT) (H:Hp) (Q:VK) (LX:XK):Prop
 |mk (p ck g:LF) (S G:Id) (b:Nat) (h0:vs=xaV) (h1:xp9 H p g S b G) (h2:∀p' Ym g' H',υ p'->υ Ym->υ g'->xIp H' p' Ym g' S b G->UV->xbf (.ref p')):Ua CO CK vs H Q LX
def Ur:xr1 xJN qM:=On
def vR (F:Χ "twin" "Course.twin" qM)(Z:Yp K mg CK Mc CO):xhw 6 (Ua CO CK):=by
 have R:=Z.R;have CT:=R.Y.Z.T;show xj4 bI MI R.init;show Ι Tw Z.ctwin Wi R.win;show xaE Ur (λ LS A outer st H vs Q E hr h=>?_);obtain⟨p,ck,g,S,G,b,rfl,hC,k⟩:=h;have Q7:xah 4:=SB;have Md:xba:=SB;refine xbV (xc5 1 Ur.nd (xry (ju FI R) hr R.m bI a7) xDD (ac xDD
  (ac (xDC (bz Α CT.cl Tw (xn Tw.F R.Y.Z) Q7))
  (xiQ (xDC (xfJ Uf R.cl Wi (nJ Wi.F R))) SZ))))
 intro x dk nx SJ X7;have s0:=xuM CO SJ;refine xc8 x dk ad (λ ck1 g1 H1 Tj ng XB NA=>xhA);have s1:xou:=λ b o e=>NA b o (s0 b o e) xs6
 obtain⟨dx,hp⟩:=hC.ob;obtain⟨dck,Qd⟩:=hC.ch;obtain⟨N4,Q6⟩:=XB.ob;clear s0 NA SJ X7;have Tg:p≠x:=xqP nx;have MJ:=xop;refine⟨_,rfl,p,CO,dx,_,_,rfl,MJ,R.cl,R.nB,Ch _ _ _ _,_,rfl,x,CO,N4,_,rfl,Q6,R.cl,R.nB,fg _ _ _ _,?_⟩;show ST Az ⟨_,rfl,p,CO,dx,_,_,rfl,xdS Tg MJ,R.cl,R.nM,yJ _ _ _ _,_,rfl,x,CO,N4,_,rfl,ad,R.cl,R.nM,fg _ _ _ _,?_⟩;rw [Ap,dZ];have s2:xco (xcL H1 x CO N4 xHl):=λ c o e=>by show xgp nx xbr
 have Ya:(xcL H1 x CO N4 xHl) x=xjP CO N4 xHl:=ad;show xas (xcL H1 x CO N4 xHl) H2 ⟨_,rfl,p,CO,dx,_,_,rfl,xbQ hp,R.cl,R.nC,AX _ _ _ _,ck,dck,_,rfl,xbQ Qd,xzx _,ck,dck,_,rfl,xbQ Qd,λ c dc H3 nc s3 hc=>?_⟩;have ncx:xcp x:=xeb Ya nc;refine⟨_,rfl,x,CO,N4,_,rfl,xcf Ya,R.cl,R.nC,fg _ _ _ _,?_⟩;rw [Df];have s4:xco (xcL H3 x CO N4 xDQ):=λ c o e=>by show xgp nx (xzH e)
 have hx4:(xcL H3 x CO N4 xDQ) x=xjP CO N4 xDQ:=ad;show xcF hc4 ((xcL H3 x CO N4 xDQ) c=xjP CK dc (fC 16 (xlM S))) (xdS ncx hc) (xcL H3 x CO N4 xDQ) H4;have hC4:xp9 H4 p g S b G:=xw2 c o e (xez e)
 refine⟨_,rfl,p,dx,_,rfl,xez hp,iS _ _ _ _,p,ck,g,S,G,b,rfl,hC4,xe7⟩;have s5:=xje xkc;have Tr:(xcB H4 xkc) l=Υ xkc:=ad;have nlx:xeF x:=xe6 hx4;show xas (xcB H4 xkc) H5 ⟨_,rfl,x,CO,N4,_,rfl,xam hx4,R.cl,R.nG,fg _ _ _ _,?_⟩;show LE wy (xa9 (k x c l _ nx (none_of s2 nc) (xpY s4) ⟨⟨N4,ad⟩,⟨dc,xdS ncx (xam hc4)⟩,xdS nlx Tr,hC.byt⟩ λ c o e=>by show xgp nx (xam (xez e))))
abbrev mf:LP:=xwX 0
abbrev n8:LP:=xwX 1
abbrev nL:LP:=xwX 2
abbrev og:LP:=xwX 3
abbrev jB:LP:=xwX 4
abbrev kD:LP:=xwX 5
abbrev nO:LP:=xwX 6
structure CRe (K:Frag)(mg:π)(C:LF):Prop where
 cl:xgw
 nC:xcH "course"
 nW:xcH "waiting"
 nB:xcH "begun"
 nF:xcH "finished"
 m:mg "Reading"=xgr
structure TK (K:Frag)(mg:π)(B D Gx CW C0 C1 C2 C3 CK Mc CO C G Ce cM cH cK cT:LF):Prop where
 er:xuI K cM cH cK cT
 pr:Yp K mg CK Mc CO
 bk:Tbk K mg CK Mc C G C0 C1 C2 C3
 wl:VJ K mg B D Gx CW C0 C1 C2 C3
 tt:CRe K mg Ce
 take:∃f fd,Zm K mg "take_block" gq ["row","before"] f fd
 init:∃f fd,xfW K "Reading.__init__" mf f/\xAk/\xjL Ce
 twin:∃f fd,xqA Ce "twin" "Reading.twin" n8
 mark:∃f fd,xqA Ce "read_mark" "Reading.read_mark" nL
 tail:∃f fd,xj6 Ce "read_tail" "Reading.read_tail" og xFG f fd
 block:∃f fd,xj6 Ce "read_block" "Reading.read_block" jB xJP f fd
 parts:∃f fd,xqA Ce "read_parts" "Reading.read_parts" kD
 thru:∃f fd,xj6 Ce "go_through" "Reading.go_through" nO Jaj f fd
structure M6 (Ce CO CK:LF)(H:Hp)(p co ck g wt:LF)(S:Id)(b:Nat)(G W:Id)(bg fn:Bool):Prop where
 ob:∃dx,xbh=xeJ Ce xhI
 cr:xmL H g S b G
 ws:H wt=xkU
def M6.ne (h:xnd H g S b G W bg fn):xau co/\xau ck/\xau g/\xau wt/\wt≠co/\wt≠ck:=by
 show xsj dx hp hw h;show xx4 OD hC.ob Qd hC.ch;refine⟨xg8,xg8,xro hC.gr (by show Ε),xro hw (by show Ε),aG hw OD (by show Ε),aG hw Qd (by show Ε)⟩
 ·show xzB z hp OD OD OD;injection OD with _ _ z;cases(xKL z)
 ·show xzB z hp Qd Qd Qd;injection Qd with _ _ z;have:=xjS z;cases this
def MK.off (h:xmL H g S b G)(s:∀c o,χ=IO->xaj->xaL=IO)(h1:xau co)(h2:xau ck)(h3:xau g):xmL H' g S b G:=h.keep λ c o e hc=>s c o e (by rcases hc with rfl|rfl|rfl<;>assumption)
inductive RT (Ce CO CK:LF) (vs:LT) (H:Hp) (Q:VK) (LX:XK):Prop
 |mk (p dx:LF) (h0:vs=xaV) (h1:xbh=xeJ Ce []) (h2:∀co ck g wt H',υ co->υ ck->xnd H' g [] 0 [] [] false false->xc1 (∀c o,χ=IO->xaj->xaL=IO)):RT Ce CO CK vs H Q LX
def wS:xdc mf:=On
def lK (F:xfW K "Reading.__init__" mf f)(T:CRe K mg Ce)(R:xrc K CK CO):xhw 6 (RT Ce CO CK):=by
 show xj4 bI MI R.init;show xaE wS (λ LS A outer st H vs Q E hr h=>?_);show xdT p dx hp k h;refine xoc (xry (ju FI R) hr R.m bI a7) (xxQ xHM xs3 xs3)
 intro x dk nx SJ X7;have s0:=xuM CO SJ;have Tg:p≠x:=xqP nx;refine xc8 x dk ad (λ ck g H1 Tj ng hC NA=>xhA);have MJ:=xrG _ (xhW hp) Tg;have k1:∀b o,xb7=IO->H1 b=IO:=λ b o e=>xrG _ xqB xs6
 have QU:υ ck:=xka Tj;clear NA s0;refine⟨_,rfl,p,Ce,dx,[],rfl,MJ,T.cl,T.nC,(by show xcE 0),?_⟩;have Ml:(xjj H1 xk1) p=xeJ Ce xk1:=ad;have k2:∀b o,H1 b=IO->xgx->(xjj H1 xk1) b=IO:=λ b o e n=>by show Re n e
 show xas (xjj H1 xk1) H2 (xj1 (PP wt nwt));have s3:=xaR [] nwt;have Xq:(xbi H2 wt []) wt=Υ []:=ad;have MR:=xcf Ml;have YI:xau wt:=xeb Ml nwt;show xas (xbi H2 wt []) H3 ⟨_,rfl,p,Ce,dx,_,rfl,MR,T.cl,T.nW,(by show xcE 1),?_⟩;have OU:=cu "course" xbk [];have Mu:=cu "waiting" (.ref wt) xk1;have NM:=cu "begun" xKd (xF9 wt xk1);have hl0:xaJ ([]:xev) 0:=rfl;show TD ⟨_,rfl,p,Ce,dx,_,rfl,ad,T.cl,T.nB,Z5,?_⟩ ⟨_,rfl,p,Ce,dx,_,rfl,ad,T.cl,T.nF,Z5,?_⟩;rw [dZ,dZ,ko];have k3:∀b o,H1 b=IO->xgx->(xjj H3 (xwK x wt)) b=IO:=λ b o e n=>by show Re n (xcf (k2 _ _ e n))
 refine k x ck g wt _ nx QU ⟨xdx ad,hC.off k3 Tg.symm (No (by show xbb hp QU QU)) (No (by have:=hC.gr;show xq6 MJ)),by show Re YI Xq⟩ λ b o e n=>xjz (k1 _ _ e) n
def DO (co co' wt)(bg fn):xjQ "course" co' xhI=fP co' wt bg fn:=by
 show(xgo (xfZ="course"))=_;show Τ xag
inductive RN (Ce CO CK:LF) (vs:LT) (H:Hp) (Q:VK) (LX:XK):Prop
 |mk (p co ck g wt:LF) (S:Id) (b:Nat) (G W:Id) (bg fn:Bool) (h0:vs=xaV) (h1:xnd H g S b G W bg fn) (h2:∀p' co' Ym g' SH H',υ p'->υ co'->υ Ym->xIx H' p' co' Ym g' SH S b G W bg fn->UV->xbf (.ref p')):RN Ce CO CK vs H Q LX
def Sk:xr1 xJN n8:=On
def vi (F:Χ "twin" "Reading.twin" n8)(Z:xnf):xhw 8 (RN Ce CO CK):=by
 have T:=Z.tt;have X:=Z.pr.H.N.X;show xj4 bI MI Z.init;show xoY Tw Z.pr.otwin (F.ok Sk λ LS A outer st H vs Q E hr h=>?_) _;obtain⟨p,co,ck,g,wt,S,b,G,W,bg,fn,rfl,⟨⟨dx,hp⟩,hC,hw⟩,k⟩:=h;have Vv:xah 7:=SB;have Xu:xah 6:=SB;refine xbV (xc5 1 Sk.nd (xry (lK FI T Z.pr.R) Vv T.m bI a7) (xDC (bz Α Z.pr.R.cl Tw (vR Tw.F Z.pr) Xu)) (ac (xDC (xGM Gg xs2))
  (ac xDD
  (xiQ xDD SZ))))
 intro x dk nx SJ X7;have s0:=xuM Ce SJ;refine xc8 x dk ad (λ co1 ck1 g1 wt1 H1 _ _ h1 NA=>xhA);have s1:xou:=λ b o e=>NA b o (s0 b o e) xs6
 obtain⟨N4,Q6⟩:=h1.ob;clear s0 NA SJ X7 h1;show xbD Vp OD hC.ob ⟨_,rfl,p,Ce,dx,_,_,rfl,xop,T.cl,T.nC,pM _ _ _ _,co,Vp,_,rfl,xcb OD,iS _ _ _ _,co,ck,g,S,G,b,rfl,xw2 c o e xbr,λ VI ck2 g2 H2 Xo Tj ng TH s2=>?_⟩;have nxo:VI≠x:=xeb Q6 Xo;have nxk:ck2≠x:=xeb Q6 Tj;have nxg:g2≠x:=xeb Q6 ng;refine⟨_,rfl,x,Ce,N4,_,rfl,xbQ Q6,T.cl,T.nC,xlp,?_⟩;rw [DO];have s3:xco (xcL H2 x Ce N4 (xwK VI wt1)):=λ c o e=>by show xgp nx (xbQ xbr)
 have hx3:(xcL H2 x Ce N4 (xwK VI wt1)) x=xjP Ce N4 (xwK VI wt1):=ad;have Vk:xIp (xcL H2 x Ce N4 (xwK VI wt1)) VI ck2 g2 S b G:=TH.off (λ c o e n=>by show Re n e) nxo nxk nxg;show xas (xcL H2 x Ce N4 (xwK VI wt1)) H3 ⟨_,rfl,p,Ce,dx,_,_,rfl,xcf hp,T.cl,T.nW,xjA,wt,_,rfl,Φ (xcf hw),xe7⟩;have s4:=xje xlG;have Ts:(xcB H3 xlG) l=xkU:=ad;have nlx:xeF x:=xe6 hx3;have hC4:=Vk.keep λ c o e _=>xez e
 have s4:=xJ3;show xcF hx4 ((xcB H3 xlG) x=_) (xdS nlx.symm hx3) (xcB H3 xlG) H4;have Tg:p≠x:=xqP nx;refine⟨_,rfl,x,Ce,N4,_,rfl,hx4,T.cl,T.nW,xlp,?_⟩;show ST pi ⟨_,rfl,p,Ce,dx,_,_,rfl,xdS Tg (xez hp),T.cl,T.nB,uI _ _ _ _,_,rfl,x,Ce,N4,_,rfl,ad,T.cl,T.nB,xlp,?_⟩;rw [wO,dZ];refine⟨_,rfl,p,Ce,dx,_,_,rfl,xdS Tg (xez hp),T.cl,T.nF,se _ _ _ _,_,rfl,x,Ce,N4,_,rfl,ad,T.cl,T.nF,xlp,?_⟩;rw [vI,dZ];exact xa9 (k x VI ck2 g2 l _ nx (xkb Xo) (xkb Tj) ⟨⟨N4,ad⟩,hC4.off (λ c o e n=>by show Re n e) nxo nxk nxg,by show Re nlx Ts⟩ λ c o e=>by show xgp nx (xez e))
inductive RS (Ce CO CK cM:LF) (vs:LT) (H:Hp) (Q:VK) (E:XK):Prop
 |mk (p co ck g wt:LF) (S:Id) (b:Nat) (G W:Id) (h0:vs=xaV) (h1:xnd H g S b G W false false) (h2:W.take 3≠xI4->xbC (UV->xjg cM)) (h3:W.take 3=xI4->W.length<3->xqZ) (h4:∀Y SH H',W=184::66::1::Y->xGL H' g SH S b G Y true false->xc1 (∀c o,χ=IO->xaj->xaL=IO)):RS Ce CO CK cM vs H Q E
def x8:xdc nL:=On
def u7 (F:Χ "read_mark" "Reading.read_mark" nL)(Z:xnf):xi2 P w K P w 32 f fd Jaa (RS Ce CO CK cM):=by
 have T:=Z.tt;have X:=Z.pr.H.N.X;obtain⟨_,_,Nm⟩:=Z.pr.nmark;show xa0 d hm hd Z.pr.mark (F.okE x8 λ LS A outer st H vs Q E hr h=>?_)
 intro _;obtain⟨p,co,ck,g,wt,S,b,G,W,rfl,hR,kE,k0,k⟩:=h;obtain⟨n1,n2,n3,n4,_⟩:=hR.ne;show xsj dx hp hw hR;show xcc (xmg (xhd (pG Nm Z.pr Z.er) hr Nm.m Nm.F.kp Nm.b c6 xs2) (af (xhN pk xHy (xuT (xDj xqx Z7 hm)) (xeN xs3 (xc9 (aV bh Α (aP (xuT (xDj xqx Z7 hm))) bQ))) aA))) ⟨_,rfl,p,Ce,dx,_,_,rfl,hp,T.cl,T.nW,xjA,wt,W,rfl,hw,Sc h3 H1 s1,kE⟩ ⟨_,rfl,p,Ce,dx,_,_,rfl,xop,T.cl,T.nW,xjA,wt,_,rfl,Φ (xcb hw),d,_,rfl,.inr (hd H1),_,_,rfl,rfl,_,rfl,xxc (λ h=>k0 h3 (Je (No (h (Ez ?_)))) _ s1)⟩
 rotate_left
 ·rw [Es];show Ty 3≤_;lia
 show xaD h xbJ Es h;have h:3≤W.length:=by
  have:Ty 3≤xBB:=h;lia
 show xfP Y Y (W=184::66::1::Y) ⟨W.drop 3,by
  show xdF (E9 3 W) h3 (EV h);exact this.symm⟩
 refine⟨_,rfl,p,Ce,dx,_,rfl,xop,T.cl,T.nB,xlp,?_⟩;show ST wO ⟨_,rfl,p,Ce,dx,_,_,rfl,ad,T.cl,T.nW,xjA,d,_,rfl,.inr (hd _),_,rfl,wt,_,rfl,K'.of (xdS n4 (xcb hw)),xe7⟩;have ec:cutV (Κ (184::66::1::Y)) (some (xgQ ([xAb,vN 66,vN 1]:LT))) none=xpN:=ft _ 3;rw [ec];have NQ:xau l:=No (by show xbb ad nl nl)
 refine⟨_,rfl,p,Ce,dx,_,rfl,xdS NQ.symm ad,T.cl,T.nW,xlp,?_⟩;rw [pi];have kp:∀c o,χ=IO->xaj->xjj (xcB (xjj H1 xKM) xpN) (xAf l true) c=IO:=λ c o e n=>by
  have h1:(xjj H1 xKM) c=IO:=xdS n xbr;rw [ai n,xlC h1 nl];exact h1
 exact k Y l _ rfl ⟨xdx ad,xGD n1 n2 n3,xdS NQ ad⟩ kp
inductive RQ (Ce CO CK cT:LF) (vs:LT) (H:Hp) (Q:VK) (E:XK):Prop
 |mk (p co ck g wt a:LF) (S R:Id) (b:Nat) (G W:Id) (h0:vs=[xad,Tm]) (h1:xnd H g S b G W true false) (h2:XL=xkT) (h3:R=xxf->xbC (xnd H' g S b G W true true->xc1 (∀c o,χ=IO->xaj->xaL=IO))) (h4:R≠xxf->xbC (UV->xjg cT)):RQ Ce CO CK cT vs H Q E
def yc:P3 xFG xFG og:=On
def uS (F:Χ "read_tail" "Reading.read_tail" og)(Z:xnf):xi2 P w K P w 31 f fd xFG (RQ Ce CO CK cT):=by
 have T:=Z.tt;show xoY Ta Z.pr.R.tail (F.okE yc λ LS A outer st H vs Q E hr h=>?_) _;obtain⟨p,co,ck,g,wt,a,S,R,b,G,W,rfl,hR,ha,k,kE⟩:=h;obtain⟨n1,n2,n3,n4,_⟩:=hR.ne;show xsj dx hp hw hR;show xw1 hu;refine xgL (xeA (rK hu) SZ (bz Α Z.pr.R.cl Ta (pF Ta.F Z.pr.R) SB) (gR c6 xlX Z7 Z.er.mT Z.er.xT eM)) (af xs3)
 show xbD Vp OD hC.ob ⟨_,rfl,_,rfl,p,Ce,dx,_,_,rfl,hp,T.cl,T.nC,pM _ _ _ _,co,Vp,_,rfl,OD,iS _ _ _ _,co,ck,g,S,G,b,rfl,hC,λ l H1 nl s1 hl=>?_⟩;have VC:=xkG;rw [jv] at VC hl;refine⟨a,l,_,_,rfl,rfl,K'.of VC,xze,_,rfl,?_⟩;rw [xaA (xa2 (xC3 b xdj) (xrt xxf)) (xa2 R xxf) (xMB ⟨No (KZ (λ _ _ z=>Int.ofNat_inj.1 z)|>.1 z),No (by rw [z])⟩)];by_cases e:R=xxf
 rotate_left
 ·show LE (F7 e) (cU (kE e _ s1))
 show ST (Ez e) (bi ⟨_,rfl,p,Ce,dx,_,rfl,xop,T.cl,T.nF,xlp,?_⟩);rw [vI];have kp:∀c o,χ=IO->xaj->(xjj H1 (xy2 true)) c=IO:=λ c o e n=>xdS n xbr
 exact k e _ ⟨xdx ad,xGD n1 n2 n3,xat hw n4⟩ kp
inductive Qy (Ce CO CK cK:LF) (vs:LT) (H:Hp) (Q:VK) (E:XK):Prop
 |mk (p co ck g wt a:LF) (S:Id) (b:Nat) (G W R:Id) (h0:vs=[xad,Tm]) (h1:xnd H g S b G W true false) (h2:XL=xkT) (h3:(∃T,PB G T R/\TW T G/\∀l g' H',Ξ->υ g'->xap=xce->xnd H' g' (S++T) (b+1) (Yj b G T) W true false->(∀c o,χ=IO->xt7->xox->xaL=IO)->xao)\/(xeC G/\G.length≤192/\xeC R/\sld (xwG R.length 2)≠R/\(∃a b r,R=xbm++r/\xaq a/\xb6/\xph/\xtL (b+2))/\xbC (UV->xjg cK))):Qy Ce CO CK cK vs H Q E
def QL:P3 (xnV "block" "text") xJP jB:=On
def rS (F:Χ "read_block" "Reading.read_block" jB)(Z:xnf):xi2 P w K P w 40 f fd xJP (Qy Ce CO CK cK):=by
 have T:=Z.tt;have R:=Z.pr.R;obtain⟨_,_,Tb⟩:=Z.take;obtain⟨_,FT⟩:=Tb.F;show Ι Wi R.win Go R.go;refine F.okE QL λ LS A outer st H vs Q E hr h=>?_
 intro _;obtain⟨p,co,ck,g,wt,a,S,b,G,W,Rb,rfl,hR,ha,hh⟩:=h;obtain⟨n1,n2,n3,n4,n5,n6⟩:=hR.ne;show xsj dx hp hw hR;have Md:xba:=SB;have Xu:xah 6:=SB;refine xbV (xa7 2 QL.nd (xhd (m9 FT Z.bk Z.wl Z.er) hr Tb.m Tb.kp Tb.b c6 (xtG 1 (xfJ Α R.cl Wi (nJ Wi.F R)))) (aB (bf Α R.cl Go (xE Go.F R) Xu xeW)) XV)
 show xbD Vp OD hC.ob ⟨_,rfl,_,rfl,p,Ce,dx,_,_,rfl,hp,T.cl,T.nC,pM _ _ _ _,co,Vp,_,rfl,OD,iS _ _ _ _,co,ck,g,S,G,b,rfl,hC,PP lw YJ⟩;have s1:=xaR xkc YJ;rcases hh with⟨T',pb,tw,k⟩|⟨h1,h2,h3,h4,h5,kE⟩
 rotate_left
 ·exact⟨a,lw,G,Rb,rfl,xkG,ad,.inr ⟨h1,h2,h3,h4,h5,λ H' s2=>kE _ xdP⟩⟩
 refine⟨a,lw,G,Rb,rfl,xkG,ad,.inl ⟨T',pb,tw,λ l H2 nl s2 hl=>?_⟩⟩;have s2:=xdP;show xn1 TH (xw2 c o e (xbQ e)) ZN Ph TH.ob;show xqz dk2 U3 TH.ch h1 tw.le;have h2:=tw.wl;refine⟨_,rfl,p,Ce,dx,_,_,rfl,xbQ hp,T.cl,T.nC,pM _ _ _ _,co,ZN,_,rfl,Ph,iS _ _ _ _,_,rfl,co,ck,g,l,S,G,T',b,rfl,TH,hl,tw.tb,by lia,λ g' H3 ng Vk kp=>?_⟩;have Mq:∀c o,χ=IO->xt7->xox->H3 c=IO:=λ c o e n m=>xat (xbQ e) n m
 exact xa9 (xd8 g' H3 (xkb nl) (none_of s2 ng) (xat hl (aG hl Ph (by show Ε)) (aG hl U3 (by show Ε))) ⟨xdx (xaW hp n1.symm n2.symm),Vk,xaW hw n5 n6⟩ Mq)
def nB (T:Id):Nat:=(T.length+63)/64
def WN (T:Id)(Rs:xeo):Prop:=Rs.length=xb5/\∀j R,xfd Rs R->Bl T j R
noncomputable abbrev tl (T:Id):Id:=xCn T
def WH.all (h:WH T Z):∃Rs,xgz/\Z=184::66::1::(xyK xfA):=by
 obtain⟨Rs,R,hl,Y7,hL,rfl⟩:=h;unfold nb at hl;rcases hL with⟨h0,rfl⟩|⟨h0,pb⟩
 ·exact⟨Rs,⟨by unfold nB;lia,Y7⟩,by show Τ Fw⟩
 ·refine⟨Rs++[R],⟨by rw [Et];show _+1=_;unfold nB;lia,xcW j R'⟩,by show xbc JI⟩;show xa3 j Rs.length h h
  ·show WF (Fs h) e (Y7 j R' e)
  ·rw [E4 h] at e;have hj:j-Rs.length=0:=xEI (xIs e).1;show xjt hj;obtain rfl:j=nb T:=by unfold nb;lia
   unfold Bl blk;show LE (EV (by rw [EE];unfold nb;show xaC J7 (EZ xqD))) pb
def sU (h:64*i<F.length)(hb:xeT F):TW xxD (wn F i):=by
 have hl:xaJ xxD (min 64 (F.length-64*i)):=by unfold blk;rw [EH,EE]
 exact⟨λ x hx=>xoU (Ft xDo),by lia,by omega,λ x hx=>xoU xHQ,my (EZ h)⟩
def rem (T:Id)(Rs:xeo)(j:Nat):Id:=xzE (Rs.drop j) xfA
def vU (h:xfd Rs R):xtP T j=R++xtP T (j+1):=by
 show xbM h' (xIs h);unfold rem;rw [Gb h',Gd,Eu]
inductive Sg (T:Id) (Rs:xeo):Bool->xti Id
 |next {ok:Bool} {j:Nat} {R L:Id}:xfd Rs R->xqX (j+1) L->xqX j (R++L)
 |tail:xFB true xb5 xfA
 |badT {r:Id}:xtL 8->xdI++r≠xfA->xCS xb5 (xdI++r)
 |badH {j a b c:Nat} {z:Id}:xeC [a,b,c]->xcp (xjv [a,b])->xCS j ([a,b,c]++z)
 |badB {j a b:Nat} {r z:Id}:j<xb5->xaq a->xb6->xph->xtL (b+2)->xeC r->sld (xgn (xbm++r) (xaN xbm r) 2)≠xbm++r->xCS j (xbm++(r++z))
def Sg.inv (h:xqX j L)(hN:xgz)(hb:xlk):(j=xb5/\∃r,L=xdI++r/\xtL 8/\(L=xfA->Pi ok)/\(L≠xfA->xot))\/(xot/\∃a b c z,L=[a,b,c]++z/\xeC [a,b,c]/\xcp (xjv [a,b]))\/
  (j<xb5/\∃a b r z,L=xbm++(r++z)/\xaq a/\xb6/\xph/\xtL (b+2)/\((xfd Rs (xbm++r)/\xqX (j+1) z)\/(xot/\xeC r/\sld (xgn (xbm++r) (xaN xbm r) 2)≠xbm++r))):=by
 cases h with
 |next e h=>
  show xaD hj (xIs e).1 hN.1 hj;have tw:=sU (i:=j) (show 64*j<T.length by unfold nB at hj;lia) hb;obtain⟨i,ps,Rb,hi,_,_,rfl,OU,Mu⟩:=(hN.2 j _ e).parts tw;have h1:=tw.one;have h2:=tw.le;refine .inr (.inr ⟨hj,64*i+xBO T j-1,Rb.length,Rb++xiM (xfV (64*i+xBO T j-1)++Rb),_,?_,yG hi h1 h2,OU,Mu,by show Τ Et,.inl ⟨?_,h⟩⟩)
  ·unfold sld;rw [Eu,Eu,Eu]
  ·rw [e];show xaP sld Eu
 |tail=>show xaT (xgB rfl ((xfA).drop 3) rfl xf2 (xnp z rfl z))
 |badT h1 h2=>show xaT ⟨rfl,_,rfl,h1,xnp z z h2,xf2⟩
 |badH h1 h2=>exact xvG ⟨rfl,_,_,_,_,rfl,h1,h2⟩
 |badB h0 h1 h2 h3 h4 h5 h6=>show xbB (.inr ⟨h0,_,_,_,_,rfl,h1,h2,h3,h4,.inr (xq3 h5 h6)⟩)
inductive Ms (T:Id) (Rs:xeo) (ok:Bool):Ο Id
 |good {L:Id}:xqX 0 L->xxM (mk3++L)
 |bad {m z:Id}:xot->m.length=3->m≠mk3->xxM (m++z)
structure Op (T:Id)(Rs:xeo)(ok bg fn:Bool)(j:Nat)(G W rest:Id):Prop where
 jn:j≤xb5
 gw:xwd (64*j)->G=wn T j
 st:τ fn->xbZ bg (xqX j (xoW W)) (j=0/\xxM (xoW W))
 ln:xaN W rest≤1900
 fi:Pi fn->Pi ok/\j=xb5/\W=[]/\rest=[]
def Fr (cM cH cK cT c:LF):Prop:=c=cM\/c=cH\/c=cK\/c=cT
inductive Qx (Ce CO CK cM cH cK cT:LF) (vs:LT) (H:Hp) (Q:VK) (E:XK):Prop
 |mk (p co ck g wt:LF) (T Y G rest:Id) (Rs:xeo) (ok:Bool) (j0:Nat) (h0:vs=xaV) (h1:xnd H g (xr7 j0) j0 G Y true false) (h2:xlk) (h3:xl9) (h4:xgz) (h5:j0≤xb5) (h6:xwd (64*j0)->G=wn T j0) (h7:xqX j0 (xoW Y)) (hl:xaN Y rest≤1900) (h8:∀l j fn g' SH G' W' H',Ξ->xap=xaf (xlT j (64*j0))->xGL H' g' SH xg1 j G' W' true fn->Op T Rs ok true fn j G' W' rest->(τ fn->rest≠ [])->j0≤j->(∀c o,χ=IO->xaj->xt7->xox->xaL=IO)->xao) (h9:xot->∀c H',Fr cM cH cK cT c->(∀c o,χ=IO->xaj->xt7->xox->xaL=IO)->xjg c):Qx Ce CO CK cM cH cK cT vs H Q E
def MQ:xr1 ["self","signs","place","part","row"] kD:=On
def qy (F:Χ "read_parts" "Reading.read_parts" kD)(Z:xnf):xi2 P w K P w 41 f fd Jaa (Qx Ce CO CK cM cH cK cT):=by
 have T0:=Z.tt;have R0:=Z.pr.R;show Ι Pa Z.pr.partat Ta Z.tail;show xoY Bl Z.block (F.okE MQ λ LS A outer st H vs Q E hr h=>?_) _;obtain⟨p,co,ck,g,wt,T,Y,G,rest,Rs,ok,j0,rfl,hR,hT,NX,hN,hj0,hG0,hY,hYl,k,kE⟩:=h;have hr34:xah 34:=SB;have hr10:xah 31:=SB;show xgk (xgc 1 MQ.nd xgT (xc5 2 MQ.nd ak (bJ PassesOwn.leaving (xnz Α)
   (xc5 3 MQ.nd (xhd (uL Pa Z.pr Z.er) hr34 Pa.m Pa.F.kp Pa.b c6 (aa Α (xtG 2 (az Α rfl)))) (xeA g9 xaz dO oW) (xaQ 4 MQ.nd (xxN Α XV xwo) (xeX 2 MQ.nd xwo (xpI g9 xwo dO (aB (eE Uf T0.cl Ta.m (uS Ta.F Z) hr10 Ta.b .nil c6 xzS)) (af (xi4 Hy HU d9 SZ (eE Uf T0.cl Bl.m (rS Bl.F Z) hr Bl.b .nil c6 xzS)))))))) (xiQ (xc9 (aV bh Α (aP XV) bQ)) SZ))) (xj1 (xdD l nl));have s0:=xje [];obtain⟨⟨dx0,Vg⟩,hC0,hw0⟩:=id hR;show xx4 hco0 hC0.ob hck0 hC0.ch;have NQ:xau l:=xe6 Vg;have YK:xeF co:=xe6 hco0;have nlk:xeF ck:=xe6 hck0;have YJ:xeF wt:=xe6 hw0;show xfl Β;have hnB:xEd (64*xb5)/\64*xb5<T.length+64:=by unfold nB;lia
 have hTn:xr7 xb5=T:=EV hnB.1;have hD0:xlT j0 (64*j0)=[]:=Gu (by show xni xhk);show TD xbt ((λ(J:∀j pl fn g4 G4 v3 v4 H4,H4 l=some (.lst (((T.take (64*j)).drop (64*j0)).map vN))->M6 Ce CO CK H4 p co ck g4 wt (T.take (64*j)) j G4 Y true fn->(∀c o,H c=some o->c≠p->c≠co->c≠ck->H4 c=some o)->j0≤j->Op T Rs ok true fn j G4 (Y.drop pl) rest->(fn=false->rest≠ [])->R1 [some (.ref p),some (.ref l),some (vN pl),v3,v4] H4)=>?_) (λ j pl fn g4 G4 v3 v4 H4 Ts M3 fr hjj op My=>Β))
 rotate_left
 ·obtain⟨n1,n2,n3,n4,n5,n6⟩:=M3.ne;show xsj dx hp hw M3;refine⟨_,rfl,p,Ce,dx,_,_,rfl,hp,T0.cl,T0.nW,xjA,_,rfl,_,rfl,wt,_,rfl,K'.of hw,PP lw nlw'⟩
  try dsimp only
  rw [ft,<-Hs];have s5:=xcQ xlS nlw';refine⟨_,rfl,p,Ce,dx,_,rfl,xam hp,T0.cl,T0.nW,xlp,?_⟩;rw [pi];have YI:xau lw:=xeb hp nlw';have kp:∀c o,H4 c=IO->xaj->xjj (xji lw xlS) (xxY lw true fn) c=IO:=λ c o e n=>xdS n (xam e)
  exact xa9 (xd8 j fn g4 lw G4 _ _ nl (xat Ts NQ) ⟨xdx ad,xGD n1 n2 n3,xdS YI ad⟩ op My hjj λ c o e a1 a2 a3=>xat (xrH _ e a1 a2 a3) a1)
 clear g1;refine Ψ (λ m σ H4=>∃(j pl:Nat) (fn:Bool) (g4:LF) (G4:Id) (v3 v4:xca),σ=[xd3,xhl,SL pl,v3,v4]/\xgu=xaf (xlT j (64*j0))/\xnd H4 g4 xg1 j G4 Y true fn/\(∀c o,χ=IO->xaj->xt7->xox->H4 c=IO)/\j0≤j/\j≤xb5/\(xwd (64*j)->G4=wn T j)/\pl≤Y.length/\
   ((τ fn/\m=xb5+1-j/\xqX j (xoW xlS))\/(Pi fn/\m=0/\Pi ok/\j=xb5/\xlS=[]/\rest=[]))) ⟨_,j0,0,false,g,G,none,none,rfl,by show LE hD0 ad,⟨⟨dx0,xhW Vg⟩,hC0.keep λ c o e _=>xqB,xhW hw0⟩,λ c o e _ _ _=>xqB,Tl,hj0,hG0,xac,.inl (xd9 rfl hY)⟩
 rintro m σ H4 ⟨j,pl,fn,g4,G4,v3,v4,rfl,Ts,M3,fr,hjj,hj,hG,Nu,hc⟩;obtain⟨n1,n2,n3,n4,n5,n6⟩:=M3.ne;show xsj dx hp hw (id M3);obtain⟨Vp,OD⟩:=hC.ob;rcases hc with⟨rfl,rfl,hd⟩|⟨rfl,rfl,hok,rfl,hd,TM⟩
 rotate_left
 ·exact⟨_,rfl,p,Ce,dx,_,_,rfl,hp,T0.cl,T0.nF,se _ _ _ _,true,rfl,bi (J _ pl _ g4 G4 v3 v4 H4 Ts M3 fr hjj ⟨hj,hG,nofun,by rw [hd,TM];exact xac,λ _=>xfC hok hd TM⟩ nofun)⟩
 show TD ⟨_,rfl,p,Ce,dx,_,_,rfl,hp,T0.cl,T0.nF,se _ _ _ _,false,rfl,xor⟩ (xbV xqr);have W8:xaJ xlS (Y.length-pl):=EE;have cut:∀{R r:Id},xza (Y.length-pl)->xoW xlS=R++r->xl5 xpN (Ty pl) (M2 (pl+R.length))=xiB/\xoW (Y.drop (pl+R.length))=r/\pl+R.length≤Y.length:=λ {R r} h e=>by
  have e1:(xlS).take R.length=R:=by
   have:=xEx R.length e
   rwa [FU (by show LE W8 h),K2] at this
  refine⟨?_,?_,by lia⟩
  ·rw [mn _ xdk (by show xcY),Ga,<-Hs,<-G6,e1]
  ·have:=congrArg (List.drop R.length) e
   rwa [G1 (by show LE W8 h),JA,Gz] at this
 have hYd:xaN xlS rest≤1900:=Ew (by rw [Et,Et,W8];lia) hYl;have Zt:∀{n},Y.length-pl<n->n≤xaN xlS rest->∀H5,C' H4 H5->R1 [xd3,xhl,SL pl,some .non,v4] H5:=λ h hn H5 s5=>J j pl false g4 G4 _ _ H5 (xam Ts) ⟨xdx (xam hp),xw2 c o e (xam e),xam hw⟩ (λ c o e a1 a2 a3=>xam (xrH _ e a1 a2 a3)) hjj ⟨hj,hG,λ _=>hd,hYd,nofun⟩ λ _ z=>by
  rw [Et,W8,z] at hn;show xab hn (Nat.not_le.2 h)
 have bad:xot->∀c H5,Fr cM cH cK cT c->C' H4 H5->E (.ref c) none H5:=λ e c H5 hc s5=>kE e c H5 hc λ c o e a1 a2 a3=>xam (xrH _ e a1 a2 a3)
 refine⟨_,rfl,p,Ce,dx,_,_,rfl,hp,T0.cl,T0.nW,xjA,_,rfl,_,rfl,p,Ce,dx,_,_,rfl,hp,T0.cl,T0.nC,pM _ _ _ _,co,CO,Vp,_,_,rfl,OD,R0.cl,R0.nM,yJ _ _ _ _,?_⟩;rcases hd.inv hN hT with⟨rfl,r,eL,Xt,kt,kf⟩|⟨hok,a,b,c,z,eL,UM,hc⟩|⟨hjn,a,b,r,z,eL,ha,MN,O6,QS,hh⟩
 ·
  have hLl:xaN xlS rest=11:=by rw [eL,Et,Xt];rfl
  refine⟨wt,Y,rest,r,pl,_,0,0,_,rfl,hw,Nu,eL,cg Z9 Z9,.inl ⟨rfl,Z9,xf2,(xho),8,rfl,λ h H5 s5=>xkh _ _ (cU (Zt h (EL hLl.symm) H5 s5)),λ h t v H5 s5 ht hv=>?_⟩⟩;obtain rfl:v=.non:=by rcases hv with⟨_,z⟩|⟨z,_⟩;exact z;cases z
  obtain⟨ec,ed,V1⟩:=cut (R:=xdI++r) (r:=[]) (by rw [Et,Xt];exact h) (by show LE Fw eL);have Qe:xaN xdI r=11:=by rw [Et,Xt];rfl
  rw [Qe] at ec ed V1;obtain⟨ed,erest⟩:=List.append_eq_nil_iff.1 ed;rw [hTn] at hC;show TD (xkh _ _ xhY) ⟨_,rfl,p,Ce,dx,_,_,rfl,xam hp,T0.cl,T0.nW,xjA,_,rfl,_,rfl,_,rfl,t,_,_,_,rfl,rfl,xp4,xic,_,rfl,wt,_,rfl,K'.of (xam hw),PP lr NP⟩;have ec:xl5 xpN (Ty pl) (M2 (pl+(8+3)))=Κ (xdI++r):=ec
  try dsimp only
  rw [ec];have s6:=xcQ (xdI++r) NP;have ht6:=xd6 ht;have Vz:(xbG H5 lr (xdI++r)) lr=xaf (xdI++r):=ad;have s6:=xJ7;show xas (xbG H5 lr (xdI++r)) H6 ⟨_,rfl,t,_,_,_,rfl,rfl,xGE,xic,?_⟩;show TD ⟨_,rfl,t,_,_,_,rfl,rfl,xGE,xib,rfl,_,rfl,xor⟩ ⟨_,rfl,p,dx,_,rfl,xd6 hp,xim,_,rfl,p,co,ck,g4,wt,lr,T,_,xb5,G4,Y,rfl,⟨xdx (xd6 hp),xw2 c o e (xd6 e),xd6 hw⟩,Vz,λ e H7 hR7 Zd=>?_,λ e H7 s7=>bad (kf (by show LE eL e)) _ _ (.inr (.inr xsv)) xFp⟩;exact⟨0,by lia,xb5,_,true,g4,G4,_,_,rfl,Zd _ _ (xd6 Ts) NQ,by show LE hTn hR7,λ c o e a1 a2 a3=>Zd _ _ (xd6 (xrH _ e a1 a2 a3)) a1,hjj,Tl,hG,V1,.inr ⟨rfl,rfl,kt (by show LE eL e),rfl,ed,erest⟩⟩
 ·
  exact⟨wt,Y,rest,z,pl,_,a,b,c,rfl,hw,Nu,eL,UM,.inr ⟨hc,λ h H5 s5=>xkh _ _ (cU (Zt h (by show LE eL (Lw 3 _)) H5 s5)),λ _ H5 s5=>bad hok _ _ (.inr xbF) s5⟩⟩
 ·
  have MO:64*j<T.length:=by lia
  have hlT:xaJ xg1 (64*j):=List.length_take_of_le (EZ MO);have TQ:xaN xbm r=b+5:=by rw [Et,QS];exact Iw 3 _
  have eL':xoW xlS=(xbm++r)++z:=by rw [eL,Eu]
  refine⟨wt,Y,rest,r++z,pl,_,a,b,_,rfl,hw,Nu,eL,cg ha (xkD O6),.inl ⟨rfl,O6,No (by lia),λ _=>by show xaF hlT,b+2,(EI (by lia)).symm,λ h H5 s5=>xkh _ _ (cU (Zt h (by rw [eL',Et,TQ];exact xdk) H5 s5)),λ h t v H5 s5 ht hv=>?_⟩⟩;show xfP h' h (v=xD6) (by rcases hv with⟨z,_⟩|⟨_,z⟩;lia;exact z)
  obtain⟨ec,ed,V1⟩:=cut (R:=xbm++r) (by show LE TQ h) eL';rw [TQ] at ec ed V1;have ec:xl5 xpN (Ty pl) (M2 (pl+(b+2+3)))=Κ (xbm++r):=ec;have Mu:∀{x},x∈xbm++r->x∈xbm\/x∈r:=xA6;have QT:∃a' b' r',xbm++r=LW a' b'++r'/\xaq a'/\ω b'/\xhc b'/\r'.length=b'+2:=⟨a,b,r,rfl,ha,MN,O6,QS⟩;show xas (xbm++r) R (xkh _ _ xhY);have Q8:=xam hp;refine⟨_,rfl,p,Ce,dx,_,_,rfl,Q8,T0.cl,T0.nW,xjA,_,rfl,_,rfl,_,rfl,t,_,_,_,rfl,rfl,xp4,xic,_,rfl,wt,_,rfl,K'.of (xam hw),PP lr NP⟩
  try dsimp only
  rw [ec];have s6:=xaR xiB NP;have Vz:(xbi H5 lr xiB) lr=xkT:=ad;have s6:=xJ7;have ht6:=xaR xiB NP _ _ ht;show xas (xbi H5 lr xiB) H6 ⟨_,rfl,t,_,_,_,rfl,rfl,xGE,xic,?_⟩;refine⟨_,rfl,t,_,_,_,rfl,rfl,xGE,xib,rfl,_,rfl,xhY⟩;show xaD UI (xd6 Ts) (hG (EZ MO)) hC;refine⟨_,rfl,xfa UI,_,rfl,p,dx,_,rfl,xd6 hp,xim,_,rfl,p,co,ck,g4,wt,lr,_,j,_,Y,R,rfl,⟨xdx (xd6 hp),xw2 c o e (xd6 e),xd6 hw⟩,Vz,?_⟩;rcases hh with⟨eR,hS⟩|⟨hok,UM,Qd⟩
  rotate_left
  ·show xbB ⟨λ x hx=>hT x xHQ,my (EZ MO),λ x hx=>by show xcv (Mu hx);exact cg ha (xkD O6) x z;exact UM x z,Qd,QT,λ H7 s7=>bad hok _ _ (.inr (.inr xbF)) xFp⟩
  have pb:=hN.2 j _ eR;have tw:=sU MO hT;have ht1:=tw.one;have YS:=tw.le;refine .inl (xfj pb tw (λ l7 g7 H7 n7 ng7 hl7 hR7 Zd=>?_));have hl76:=Zd _ _ UI YK nlk;have e7:Κ (xlT j (64*j0))++Κ (blk T j)=Κ (xlT (j+1) (64*j0)):=by rw [<-EG,<-gy,G1 (by show xaF hlT)]
  refine⟨l,l7,_,_,rfl,rfl,hl76,hl7,bF (by rw [Es,Es,EE,hlT];exact Ew (IF xmO YS) (Ew (FY (EZ (Ey MO NX)) 64) (by decide))),?_⟩
  try dsimp only
  rw [e7];have X8:∀c o,H7 c=IO->xcp l->(xbG H7 l (xlT (j+1) (64*j0))) c=IO:=λ c o e n=>xdS n e
  obtain⟨⟨dx7,hp7⟩,hC7,hw7⟩:=hR7;show WF gy hC7 ⟨xb5+1-(j+1),GZ (Ka hjn) (Hj j),j+1,pl+(b+5),false,g7,_,_,_,rfl,ad,⟨⟨dx7,X8 _ _ hp7 NQ.symm⟩,hC7.off X8 YK.symm nlk.symm (xeb UI ng7),X8 _ _ hw7 YJ.symm⟩,λ c o e a1 a2 a3=>X8 _ _ (Zd _ _ (xd6 (xrH _ e a1 a2 a3)) a2 a3) (xsK nl),by lia,hjn,No (tE z),V1,.inl (xd9 rfl (ed.symm▸hS))⟩
abbrev mF:LP:=xaM 123 0
abbrev nU:LP:=xaM 123 1
abbrev oa:LP:=xaM 123 2
abbrev rR:LP:=xaM 123 3
abbrev jk:LP:=top 124
def fQ (r:LF):xev:=[("reading",xkz)]
def vL (r):xjQ "reading" r []=fQ r:=rfl
def Dz (r):xcO (fQ r) "reading"=SC r:=by rw [<-vL,ao,xag]
def p4 (r){x:Str}(h:xdJ (x="reading")):xlP (fQ r) x:=by
 rw [<-vL,ao,EI h];rfl
def D3 (r r'):xjQ "reading" r' (fQ r)=fQ r':=by
 show(xgo (xcm "reading"="reading"))=_;show Τ xag
structure Xg (K:Frag)(mg:π)(C:LF):Prop where
 cl:xgw
 nR:xcH "reading"
 m:mg "Opener"=xgr
 init:∃f fd,xfW K "Opener.__init__" mF f/\xAk/\xjL C
 feed:∃f fd,xuq "feed" "Opener.feed" nU Jaj f fd
 over:∃f fd,xhq "over" "Opener.over" oa
 fin:∃f fd,xhq "finish" "Opener.finish" rR
def CZ (h:W++z=mk3++Y):W.take 3=xI4:=by
 show xa3 W.length 3 q q
 ·show xdF (xEx W.length h) K2 (FU (EZ q));rw [<-this,EV (EZ q)]
 ·show xdA (xEx 3 h) (FU q);rw [this,EV (show mk3.length≤_ from q)];rfl
def Ms.inv (h:xxM L):(∃L',L=mk3++L'/\xqX 0 L')\/(xot/\∃m z,L=m++z/\m.length=3/\m≠mk3):=by
 cases h with
 |good h=>exact xIh h
 |bad h1 h2 h3=>show xbB (xgB h1 _ _ h2 h3)
def Ms.len (h:xxM L):xgR 3:=by
 rcases h.inv with⟨L',rfl,_⟩|⟨_,m,z,rfl,h,_⟩
 ·exact Lw 3 _
 ·rw [Et,h];exact EY 3 _
inductive RO (Ce CO CK cM cH cK cT:LF) (vs:LT) (H:Hp) (Q:VK) (E:XK):Prop
 |mk (p co ck g wt a:LF) (T G W r rest:Id) (Rs:xeo) (ok:Bool) (j0:Nat) (bg:Bool) (h0:vs=[xad,Tm]) (h1:xnd H g (xr7 j0) j0 G W bg false) (h2:xlk) (h3:xl9) (h4:xgz) (h5:Op T Rs ok bg false j0 G W (xoW r)) (h6:XL=Υ xyJ) (h8:∀l j fn Xc g' SH G' W' H',Ξ->xap=xaf (xlT j (64*j0))->xGL H' g' SH xg1 j G' W' Xc fn->Op T Rs ok Xc fn j G' W' rest->(τ fn->rest≠ [])->j0≤j->(∀c o,χ=IO->xaj->xt7->xox->xaL=IO)->xao) (h9:xot->∀c H',Fr cM cH cK cT c->(∀c o,χ=IO->xaj->xt7->xox->xaL=IO)->xjg c):RO Ce CO CK cM cH cK cT vs H Q E
def Sl:P3 (xnV "row" "signs") Jaj nO:=On
def uP (F:Χ "go_through" "Reading.go_through" nO)(Z:xnf):xi2 P w K P w 42 f fd Jaj (RO Ce CO CK cM cH cK cT):=by
 have T0:=Z.tt;show Ι Ma Z.mark Pa Z.parts;show xoY La Z.pr.nlast (F.okE Sl λ LS A outer st H vs Q E hr h=>?_) _;obtain⟨p,co,ck,gA,wt,a,T,G,W,r,rest,Rs,ok,j0,bg,rfl,hR,hT,NX,hN,op,ha,k,kE⟩:=h;have hl9:xaN W r≤1900:=Ew (by rw [Et,Et,Et,<-FD];exact xdk) op.ln;obtain⟨n1,n2,n3,n4,n5,n6⟩:=hR.ne;show xsj dx hp hw hR;have Md:xba:=SB;have OS:xah 32:=SB;show TD (xoc (xe1 Α SZ) (ac (xsx (xnz Α) (aB (jF Uf T0.cl Ma.m (u7 Ma.F Z) OS Ma.b .nil c6)))
  (xa7 2 Sl.nd (j7 xHD (jF Uf T0.cl Pa.m (qy Pa.F Z) hr Pa.b .nil c6) xgT) (xsx xHD (aB (xcs (qh La Z.pr) La (xhT Α)))) XV))) (xfT g ⟨_,rfl,p,Ce,dx,_,_,rfl,hp,T0.cl,T0.nW,xjA,_,rfl,wt,a,_,_,rfl,rfl,hw,ha,bF (by rw [<-Et,<-EG,Es];exact Ew hl9 (by decide)),PP l1 nl1⟩)
 rw [<-EG];have hre:=op.st rfl;have VA:=op.ln;rw [<-Eu] at hre VA;generalize W++r=Y at*;have s1:=xaR xpN nl1;have NQ:xau l1:=xeb hp nl1;show xlK ⟨_,rfl,p,Ce,dx,_,rfl,xop,T0.cl,T0.nW,xlp,xdL⟩ g;rw [pi];have NA:∀c o,χ=IO->xaj->xjj xHP (xAf l1 bg) c=IO:=λ c o e n=>xdS n xbr
 have MJ:xjj xHP (xAf l1 bg) p=xeJ Ce (xAf l1 bg):=ad;show xcF hw1 (xjj xHP (xAf l1 bg) l1=Υ xpN) (xdS NQ ad) (xjj xHP (xAf l1 bg)) H1;have XB:=hC.off NA n1 n2 n3;have nn:∀{c} {H2:Hp},(∀c o,χ=IO->xaj->xle=IO)->(∃o,H2 p=IO)->W1 xle->υ c:=λ {c H2} kp ⟨o,h⟩ n=>by
  cases e:χ with
  |none=>rfl
  |some o=>
   by_cases z:c=p
   ·show xbb h n n
   ·show ρ xDN n n
 show TD (xnn R2 g) ((λ(J:∀bg (wt:LF) (Y:List Nat) (H2:Hp),M6 Ce CO CK H2 p co ck gA wt (T.take (64*j0)) j0 G Y bg false->(bg=true->Sg T Rs ok j0 (Y++rest))->(bg=false->j0=0/\rest≠ []/\Ms T Rs ok (Y++rest))->(Y++rest).length≤1900->(∀c o,H c=some o->c≠p->H2 c=some o)->R2 [some (.ref p),some (.ref a),none] H2)=>?_) (λ bg wt Y H2 Ni MN UN VA Qk=>xdL))
 ·cases bg with
  |true=>exact⟨_,rfl,p,Ce,dx,_,_,rfl,MJ,T0.cl,T0.nB,uI _ _ _ _,true,rfl,bi (J true l1 Y H1 ⟨xdx MJ,XB,hw1⟩ (λ _=>hre) nofun VA NA)⟩
  |false=>
   show xbD ej hM hre ⟨_,rfl,p,Ce,dx,_,_,rfl,MJ,T0.cl,T0.nB,uI _ _ _ _,false,rfl,xor⟩;refine⟨_,rfl,p,dx,_,rfl,MJ,xim,p,co,ck,_,l1,_,j0,G,Y,rfl,⟨xdx MJ,XB,hw1⟩,Sc h3 H2 s2,λ _ h3 H2 s2=>?_,λ Y' wt2 H2 e Ni Qk=>?_⟩
   ·rcases hM.inv with⟨L',e,_⟩|⟨hok,_⟩
    ·show xab (CZ e) h3
    ·exact kE hok _ _ xbF λ c o e a1 _ _=>xbQ (xrG _ e a1)
   ·refine J false l1 Y H2 ⟨xdx (xbQ MJ),XB.keep λ c o e _=>xbQ e,xbQ hw1⟩ nofun (λ _=>⟨ej,xg8,hM⟩) VA λ c o e n=>xbQ (xrG _ e n)
    show xdF hM.len z Fw;show xab this (Nat.not_le.2 h3)
   ·subst e;refine J true wt2 Y' H2 Ni xb8 nofun (Ew (EY _ 3) VA) λ c o e n=>xpr (xrG _ e n) n
    rcases hM.inv with⟨L',e,h⟩|⟨_,m,z,e,h3,My⟩
    ·have e:xoW Y'=L':=List.append_cancel_left (as:=mk3) e;rw [ej,e];exact h
    ·show xab ((List.append_inj (s₁:=mk3) e h3.symm).1.symm) My
 clear g;show xbD SD Ml Ni.ob (xnn R3 g)
 refine(λ(J:∀(l:LF) (j:Nat) (fn Xc:Bool) (g' SH:LF) (G' W':List Nat) (H':Hp),H l=none->H' l=some (.lst (((T.take (64*j)).drop (64*j0)).map vN))->M6 Ce CO CK H' p co ck g' SH (T.take (64*j)) j G' W' Xc fn->Op T Rs ok Xc fn j G' W' rest->(fn=false->rest≠ [])->j0≤j->(∀c o,H c=some o->c≠p->c≠co->c≠ck->H' c=some o)->R3 [some (.ref p),some (.ref a),some (.ref l)] H')=>?_) (λ l j fn Xc g' SH G' W' H' nl hl QT op' My hj fr=>xdL)
 ·cases bg with
  |true=>exact⟨_,rfl,p,Ce,SD,_,_,rfl,Ml,T0.cl,T0.nB,uI _ _ _ _,true,rfl,cU ⟨_,rfl,p,SD,_,rfl,Ml,xim,p,co,ck,_,wt,T,Y,G,rest,Rs,ok,j0,rfl,Ni,hT,NX,hN,op.jn,op.gw,MN rfl,VA,λ l j fn g3 wt3 G3 W3 H3 nl hl M4 op3 My hj fr=>J l j fn true g3 wt3 G3 W3 H3 (nn Qk (xa1 Ml) nl) hl M4 op3 My hj λ c o e a1 a2 a3=>xrH _ (xpr e a1) a1 a2 a3,λ hok c H' hc fr=>kE hok c H' hc λ c o e a1 a2 a3=>xrH _ (xpr e a1) a1 a2 a3⟩⟩
  |false=>
   show xa0 ej My hb (UN rfl) ⟨_,rfl,p,Ce,SD,_,_,rfl,Ml,T0.cl,T0.nB,uI _ _ _ _,false,rfl,bi (xj1 xe7)⟩;have s3:=xje [];show xg6 (J l j0 false false _ wt G Y _ (nn Qk (xa1 Ml) nl) ?_ ⟨⟨SD,xcf Ml⟩,Ni.cr.keep λ c o e _=>xcf e,xcf Ni.ws⟩ ⟨op.jn,op.gw,λ _=>⟨ej,hb⟩,VA,nofun⟩ (λ _=>My) Tl λ c o e a1 _ _=>xcf (xpr e a1)) (xaA (xlT j0 (64*j0)) [] (Gu (by show xni xhk))) ad
 clear g;show xqz OF MR QT.ob last (xd8 j fn Xc g' SH G' W' H' nl hl QT op' My hj fr);cases fn with
 |false=>exact⟨_,rfl,p,Ce,OF,_,_,rfl,MR,T0.cl,T0.nF,se _ _ _ _,false,rfl,xDT last⟩
 |true=>
  have hw':=QT.ws;show WF (Δ (op'.fi rfl).2) hw' ⟨_,rfl,p,Ce,OF,_,_,rfl,MR,T0.cl,T0.nF,se _ _ _ _,true,rfl,cU ⟨_,rfl,p,Ce,OF,_,_,rfl,MR,T0.cl,T0.nW,xjA,SH,rfl,hw',_,rfl,last⟩⟩
def NV (Cp Ce CO CK:LF)(N:Ο LF)(H:Hp)(p:LF)(T:Id)(Rs:xeo)(ok fn:Bool)(j:Nat)(rest:Id):Prop:=∃dx r co ck g wt G W bg,xbh=xeJ Cp (fQ r)/\N r/\N co/\N ck/\xIx H r co ck g wt xg1 j G W bg fn/\Op T Rs ok bg fn j G W rest
def NV.keep {rest:Id}(h:xq1 N H p T Rs ok fn j rest)(s:∀c o,χ=IO->c=p\/N c\/(∃xs,o=xv2)->xaL=IO):xq1 N H' p T Rs ok fn j rest:=by
 obtain⟨dx,r,co,ck,g,wt,G,W,bg,h0,h1,h2,h3,⟨⟨dr,hr⟩,hC,hw⟩,op⟩:=h;obtain⟨⟨_,c1⟩,⟨_,c2⟩,c3,c4⟩:=hC;exact⟨dx,r,co,ck,g,wt,G,W,bg,xci h0 xbF,h1,h2,h3,⟨⟨dr,xci hr (xvG h1)⟩,⟨xa1 (xci c1 (xvG h2)),xa1 (xci c2 (xvG h3)),xzl c3 (.inr xa4),c4⟩,xzl hw (.inr xa4)⟩,op⟩
inductive RW (Cp Ce CO CK:LF) (vs:LT) (H:Hp) (Q:VK) (LX:XK):Prop
 |mk (p dx:LF) (h0:vs=xaV) (h1:xbh=xeJ Cp []) (h2:xbC ((∀T Rs ok L,xxM L->xfm 1900->xq1 (λ c=>υ c) H' p T Rs ok false 0 L)->xc1 (∀c o,χ=IO->xaj->xaL=IO))):RW Cp Ce CO CK vs H Q LX
def xF:xdc mF:=On
def k7 (F:xfW K "Opener.__init__" mF f)(Z:xnf)(O:xuJ K Cp):xhw 8 (RW Cp Ce CO CK):=by
 show xj4 bI MI Z.init;show xaE xF (λ LS A outer st H vs Q E hr h=>?_);show xdT p dx hp k h;refine xwD (xc9 (xry (lK FI Z.tt Z.pr.R) hr Z.tt.m bI a7));intro x dk nx SJ X7;have s0:=xuM Ce SJ;refine xc8 x dk ad (λ co ck g wt H1 Xo Tj hR NA=>xhA);have s1:xou:=λ b o e=>NA b o (s0 b o e) xs6
 have MJ:=xop;refine⟨_,rfl,p,Cp,dx,[],rfl,MJ,O.cl,O.nR,Z9,?_⟩;rw [vL];show xsj N4 Q6 hw hR;have kp:∀c o,H1 c=IO->xaj->(xcL H1 p Cp dx (fQ x)) c=IO:=λ c o e n=>xdS n e
 have ne:∀{c},υ c->xaj:=λ n z=>by show xbb hp n n
 have hq:∀{xs:LT} {c},H1 c=xdg->xaj:=λ e=>aG e MJ (by show Ε)
 have Xo:=xka Xo;have Tj:=xka Tj;exact xdp (λ T Rs ok L hM hL=>⟨dx,x,co,ck,g,wt,[],[],false,ad,nx,Xo,Tj,⟨⟨N4,xat Q6 (ne nx)⟩,xGD (ne Xo) (ne Tj) (hq hC.gr),xat hw (hq hw)⟩,⟨xac,xf2,λ _=>xcC hM,hL,nofun⟩⟩) λ c o e n=>xat xbr n
inductive RZ (Cp Ce CO CK cM cH cK cT:LF) (vs:LT) (H:Hp) (Q:VK) (E:XK):Prop
 |mk (p a:LF) (N:Ο LF) (T r rest:Id) (Rs:xeo) (ok:Bool) (j:Nat) (h0:vs=[xad,Tm]) (h1:xq1 N H p T Rs ok false j (xoW r)) (h2:xlk) (h3:xl9) (h4:xgz) (h5:XL=Υ xyJ) (h6:xeT r) (h8:∀l j' fn H',Ξ->xap=xaf (xlT j' (64*j))->xq1 (λ c=>υ c) H' p T Rs ok fn j' rest->(τ fn->rest≠ [])->j≤j'->(∀c o,χ=IO->xaj->xaL=IO)->xao) (h9:xot->∀c H',Fr cM cH cK cT c->UV->xjg c):RZ Cp Ce CO CK cM cH cK cT vs H Q E
def Oi:P3 ["self","row","come","trial","signs"] Jaj nU:=On
def lQ (F:Χ "feed" "Opener.feed" nU)(Z:xnf)(O:xuJ K Cp):xi2 P w K P w 43 f fd Jaj (RZ Cp Ce CO CK cM cH cK cT):=by
 have T0:=Z.tt;show Ι N' Z.pr.H.need Tw Z.twin;show xoY Th Z.thru (F.okE Oi λ LS A outer st H vs Q E hr h=>?_) _;obtain⟨p,a,N,T,r,rest,Rs,ok,j,rfl,⟨dx,r0,co,ck,g,wt,G,W,bg,hp,_,_,_,⟨⟨dr,Sw⟩,hC,hw⟩,op⟩,hT,NX,hN,ha,hb,k,kE⟩:=h;have Q7:xah 4:=SB;have Xt:xah 8:=SB;show xcR (xaQ 2 Oi.nd (xhd (bL N' Z.pr.H.N) Q7 N'.m N'.F.kp N'.b a7 xdb) (xaQ 3 Oi.nd (bz Α T0.cl Tw (vi Tw.F Z) Xt) (xa7 4 Oi.nd (eE xaz T0.cl Th.m (uP Th.F Z) hr Th.b .nil c6 xeW) (xc9 xaz) xan))) ⟨_,rfl,a,_,rfl,ha,hb,PP l1 nl1⟩;have s1:=xaR xyJ nl1;have OU:(xtM xyJ) l1=Υ xyJ:=ad;show xas (xtM xyJ) H1 ⟨_,rfl,p,Cp,dx,_,_,rfl,xop,O.cl,O.nR,Dz _,r0,dr,_,rfl,xcb Sw,xim,r0,co,ck,g,wt,_,j,G,W,bg,false,rfl,⟨⟨dr,xcb Sw⟩,xw2 c o e xbr,xcb hw⟩,λ q VI ck2 g2 wt2 H2 nq no nk Ni s2=>?_⟩;show xqz dq hq Ni.ob s2' xdP;refine⟨_,rfl,q,dq,_,rfl,hq,xim,_,rfl,q,VI,ck2,g2,wt2,l1,T,G,W,r,rest,Rs,ok,j,bg,rfl,Ni,hT,NX,hN,op,xbQ OU,λ l3 j3 fn bg3 g3 wt3 G3 W3 H3 nl3 NM M4 op3 My hj fr3=>?_,λ hok c H3 hc fr3=>kE hok c H3 hc λ c o e=>fr3 _ _ (s2' _ _ e) (ae xbr nq) (ae xbr no) (ae xbr nk)⟩;have kp:∀c o,χ=IO->H3 c=IO:=λ c o e=>fr3 _ _ (s2' _ _ e) (ae xbr nq) (ae xbr no) (ae xbr nk)
 have hp3':=xat hp;refine⟨_,rfl,_,rfl,p,Cp,dx,_,rfl,hp3',O.cl,O.nR,(by show xcE 1),?_⟩;rw [D3];have ne:∀{c},xgW c->xaj:=λ n z=>by show xbb xop n n
 have Mq:∀c o,H3 c=IO->xaj->(xcL H3 p Cp dx (fQ q)) c=IO:=λ c o e n=>xdS n e
 have UG:∀{xs:LT} {c},H3 c=xdg->xaj:=λ e=>aG e hp3' (by show Ε)
 obtain⟨⟨OF,hx3⟩,Vk,Xq⟩:=M4;exact xa9 (k l3 j3 fn _ (none_of s2' nl3) (xaW NM (UG NM)) ⟨dx,q,VI,ck2,g3,wt3,G3,W3,bg3,ad,xkb nq,xkb no,xkb nk,⟨⟨OF,xaW hx3 (ne nq)⟩,Vk.off Mq (ne no) (ne nk) (UG Vk.gr),xaW Xq (UG Xq)⟩,op3⟩ My hj λ c o e n=>xaW (xat e) n)
inductive Pz (Cp Ce CO CK:LF) (vs:LT) (H:Hp) (Q:VK) (LX:XK):Prop
 |mk (p:LF) (N:Ο LF) (T rest:Id) (Rs:xeo) (ok:Bool) (j:Nat) (fn:Bool) (h0:vs=xaV) (h1:xq1 N H p T Rs ok fn j rest) (h3:xdK fn):Pz Cp Ce CO CK vs H Q LX
def yf:xdc oa:=On
def kU (F:Χ "over" "Opener.over" oa)(T:CRe K mg Ce)(O:xuJ K Cp):xhm (Pz Cp Ce CO CK):=by
 show xaE yf (λ LS A outer st H vs Q E hr h=>?_);obtain⟨p,N,T',rest,Rs,ok,j,fn,rfl,⟨dx,r,co,ck,g,wt,G,W,bg,hp,_,_,_,hR,_⟩,k⟩:=h;show xbE dr Sw hR.ob ⟨_,xbU (az Α rfl),_,rfl,p,Cp,dx,_,_,rfl,hp,O.cl,O.nR,Dz _,r,Ce,dr,_,_,rfl,Sw,T.cl,T.nF,se _ _ _ _,k⟩
inductive T9 (Cp Ce CO CK:LF) (vs:LT) (H:Hp) (Q:VK) (LX:XK):Prop
 |mk (p:LF) (N:Ο LF) (T rest:Id) (Rs:xeo) (ok:Bool) (j:Nat) (h0:vs=xaV) (h1:xq1 N H p T Rs ok true j rest) (h3:xkA H):T9 Cp Ce CO CK vs H Q LX
def yn:xdc rR:=On
def wH (F:Χ "finish" "Opener.finish" rR)(T:CRe K mg Ce)(O:xuJ K Cp):xhw 2 (T9 Cp Ce CO CK):=by
 show xoY Ov O.over (F.ok yn λ LS A outer st H vs Q E hr h=>?_) _;obtain⟨p,N,T',rest,Rs,ok,j,rfl,ho,k⟩:=h;show xEt dx hp ho;refine xwD (xql (bz Uf O.cl Ov (kU (CO:=CO) (CK:=CK) Ov.F T O) hr));exact⟨_,rfl,p,dx,_,rfl,hp,p4 _,p,N,T',rest,Rs,ok,j,true,rfl,ho,_,rfl,bi k⟩
inductive RV (cM cH cK cT:LF) (vs:LT) (H:Hp) (Q:VK) (E:XK):Prop
 |mk (a:LF) (T L:Id) (Rs:xeo) (ok:Bool) (h0:vs=xbK) (h1:xlk) (h2:xl9) (h3:xgz) (h4:xxM L) (h5:xfm 1900) (h6:xeT L) (h7:XL=xhb) (h8:Pi ok->∀l H',Ξ->xap=xce->UV->xao) (h9:xot->∀c H',Fr cM cH cK cT c->UV->xjg c):RV cM cH cK cT vs H Q E
def PF:P3 ["row","opener","text"] Jal jk:=On
theorem WN.facts (hb:xlk)(hl:xl9)(h:xgz):xeC (xyK xfA)/\xJs 1300:=by
 have hf:∀j (hj:j<Rs.length),xa6 Rs[j]/\xbg Rs[j] 69:=λ j hj=>(xex j _ (Ex hj)).facts (sU (by rw [xbS] at hj;unfold nB at hj;lia) hb)
 have Mf:∀R∈Rs,xa6 R/\xza 69:=λ R hR=>by
  show xay j hj rfl (List.getElem_of_mem hR) (hf j hj)
 refine xbW (PP x hx)
 ·show xcv (xA6 hx)
  ·show xay R hR hx (List.mem_flatten.1 z) ((Mf R hR).1 x hx)
  ·refine ur (PP b MX) x z;show xbO MX MX MX
   ·show xbO MX MX MX
    ·exact cg Z9 Z9 b MX
    ·exact pc _ b MX
   ·exact gL (gi kO hb) b MX
 ·have h1:∀L:xeo,(∀R∈L,xza 69)->L.flatten.length≤69*L.length:=λ L=>by
   induction L with
   |nil=>exact λ _=>xac
   |cons R L ih=>
    intro h;have:=ih λ R' QT=>xhQ R' QT
    have:=xlu R;rw [Gd,Et,EK];lia
  have:=h1 Rs λ R hR=>(Mf R hR).2
  have h2:=xbS;unfold nB at h2;lia
def lz (F:Ζ "opened" jk Jal)(Z:xnf)(O:xuJ K Cp):xi2 P w K P w 44 f fd Jal (RV cM cH cK cT):=by
 show xj4 bI MI O.init;show Ι Fe O.feed Fi O.fin;refine F.F.okE PF λ LS A outer st H vs Q E hr h=>?_
 intro _;obtain⟨a,T,L,Rs,ok,rfl,hT,NX,hN,hM,hL,hb,ha,k,kE⟩:=h;have Xs:xah 9:=SB;have OS:xah 2:=SB;refine xgc 1 PF.nd (xry (k7 FI Z O) Xs O.m bI a7) (xa7 2 PF.nd (eE SZ O.cl Fe.m (lQ Fe.F Z O) hr Fe.b .nil c6 xbj) (aB (bz SZ O.cl Fi (wH (CO:=CO) (CK:=CK) Fi.F Z.tt O) OS)) XV)
 intro p dp np Sv W4;have s0:=xkd Cp np Sv;refine xc8 p dp ad (λ H1 ho NA=>xhA);have s1:xou:=λ b o e=>NA b o (s0 b o e) xn3
 have ho:=ho T Rs ok L hM hL;show xEt dx hp ho;refine⟨_,rfl,p,dx,_,rfl,hp,p4 _,_,rfl,p,a,_,T,L,[],Rs,ok,0,rfl,(Fw L).symm▸ho,hT,NX,hN,xkG,hb,λ l j fn H2 nl hl ho2 My _ fr=>?_,λ hok c H2 hc s2=>kE hok c H2 hc xdP⟩;obtain⟨SD,_,_,_,_,_,_,_,_,Ml,_,_,_,_,op⟩:=id ho2;obtain rfl:Pi fn:=by
  cases fn with
  |true=>rfl
  |false=>show xab rfl (My rfl)
 obtain⟨hok,rfl,_⟩:=op.fi rfl;show WF (xaA (xlT xb5 (64*0)) T (EV (by unfold nB;lia))) hl ⟨_,rfl,p,SD,_,rfl,Ml,p4 _,p,_,T,_,Rs,_,_,rfl,ho2,_,rfl,k hok l H2 (xkb nl) hl λ c o e=>xrH _ xbr xn3⟩
def i7 {a b c:Nat}(h:a^^^c=b^^^c):a=b:=by
 have:=congrArg (·^^^c) h;simp only [JP,Lp,Nat.xor_zero] at this;show xfM
def Ax (hw:WP w p)(ha:a<2^w)(hb:b<2^w)(h:a≠b):xwR w n a≠xwR w n b:=λ e=>by
 obtain⟨h1,_,h2,h3⟩:=hw.facts;have e2:xwR w n (a^^^b)=0:=by rw [CK.ZR,e,Lp]
 have:=CK.ZS (Ey (by decide) h1) h2 h3 (Gp ha hb) e2;exact h (i7 (this.trans (Lp b).symm))
def xr (hw:WP w p)(h:xaq x):x*2^(w-8)<2^w:=by
 rcases hw with⟨rfl,rfl⟩|⟨rfl,rfl⟩<;>simp<;>lia
theorem wV (hw:WP w p):∀(D:Id) (s t:Nat),s<2^w->t<2^w->s≠t->(xno d D d)->crc w p s D≠crc w p t D
 | [],_,_,_,_,h,_=>h
 |d::D,s,t,hs,ht,h,hD=>by
  have hd:=xr hw (hD d ER);have hp:=xzf hw.facts;refine wV hw D (xD5 p s d) (xD5 p t d) (xHj (xxA hd)) (xHj (Gp ht hd)) (Ax hw (xxA hd) (Gp ht hd) λ e=>h ?_) λ x hx=>hD x xzp
  exact i7 e
def rB (hw:WP w p)(hA:xno d A d)(hx:xaq x)(hy:xaq y)(h:x≠y)(hD:xno d D d):chk w p (A++x::D)≠chk w p (A++y::D):=by
 have hs:=gi hw hA;have h1:=xr hw hx;have h2:=xr hw hy;have hp:=xzf hw.facts;unfold chk crc;rw [HH,HH];refine wV hw D _ _ (xHj (xxA h1)) (xHj (xxA h2)) (Ax hw (xxA h1) (xxA h2) λ e=>h ?_) hD;rw [KR,KR (List.foldl _ _ _)] at e;have e:=i7 e;exact Nat.eq_of_mul_eq_mul_right (Hd (by decide)) e
def qL {L:Id}(hk:xht k)(h:v≠L[k]):L.set k v≠L:=λ e=>by
 show xdF (xvK l l[k]? e) (Gs hk) (Ex hk);exact h (Fb this)
def mr {L:Id}(hL:xeT L)(hv:xaq v):xeT (L.set k v):=λ x hx=>by
 rcases List.mem_or_eq_of_mem_set hx with z|rfl
 ·exact hL x z
 ·exact hv
def wo {X:Id}(hX:xeT X)(hk:xxK k xn6)(hv:xaq v)(h:v≠(xn6)[k]):sld (xgn (xkO xn6 k) (xkO xn6 k).length 2)≠xkO xn6 k:=by
 rw [Hv,i6,KY];intro e;show xa3 k X.length q q
 ·have e0:(xn6)[k]=X[k]:=HS q;rw [e0] at h;have e1:xkO xn6 k=X.set k v++xiM X:=by show xaP sld (Jw _ _ q)
  rw [e1,KD (by rw [Hv])] at e;have e2:xiM (X.set k v)=xiM X:=List.append_cancel_left e;have e3:xlM (X.set k v)=xlM X:=by
   have h1:=(Hx e2).1;have h2:=(Hx (Hx e2).2).1;lia
  have sp:X=xzc++X[k]::X.drop (k+1):=by rw [<-Gb q,E9]
  refine rB kO (A:=xzc) (D:=X.drop (k+1)) (λ x z=>hX x (Fg z)) hv (hX _ (Gj q)) h (λ x z=>hX x (Ft z)) ?_;rw [<-sp,<-e3,List.set_eq_take_append_cons_drop,EU q]
 ·have e1:(xkO xn6 k).take X.length=X:=by
   show LE (List.take_set_of_le q) (KD rfl)
  show WF e1 e (qL hk h e.symm)
def uN (ha:xaq a)(hb:xaq b)(hv:xaq v)(hk:k<3)(h:v≠(xbm)[k]' hk):∃x y z,xkO xbm k=[x,y,z]/\z≠xjv [x,y]:=by
 rcases k with _|_|_|k
 ·exact xby _ _ _ (No (rB wp8 (A:=[]) (D:=[b]) nofun ha hv (IG h) (by show xl6) z))
 ·exact xby _ _ _ (No (rB wp8 (A:=xcj) (D:=[]) (by simpa using ha) hb hv (IG h) nofun z))
 ·exact xby _ _ _ h
 ·show xab hk (by lia)
def ul (hN:xgz):xtP T xb5=xfA:=by
 show xaP rem (Gu (EL hN.1));rfl
theorem Sg.fine (hN:xgz):∀n j,n+j=xb5->xFB true j (xtP T j)
 |0,j,h=>by
  obtain rfl:j=xb5:=by lia
  show LE (ul hN) .tail
 |n+1,j,h=>by
  have hj:j<Rs.length:=by show xaF hN.1
  have e:=Ex hj;show LE (vU e) (.next e (Sg.fine hN n (j+1) (by lia)))
def xv {L R z:Id}(ha:xaq a)(hb:xaq b)(hL:L=xbm++z)(hk:k<3)(hv:xaq v)(h:L[k]?≠xdV):xCS j (L.set k v):=by
 subst hL;have Tt:xxK k xbm:=hk;rw [Fs Tt,Ex Tt] at h;obtain⟨x,y,c,e,hc⟩:=uN ha hb hv hk (No (h (xpM z.symm)));rw [Jw _ _ Tt,e];refine .badH ?_ hc;show xaC e (mr (cg ha hb) hv)
theorem Sg.turn (hN:xgz)(hb:xlk)(hv:xaq v):∀n j k,n+j=xb5->xxK k (xtP T j)->(xtP T j)[k]?≠xdV->xCS j (xkO (xtP T j) k)
 |0,j,k,h,hk,My=>by
  obtain rfl:j=xb5:=by lia
  rw [ul hN] at hk My ⊢;have e:xfA=xdI++(xfA).drop 3:=rfl;show xa3 k 3 q q
  ·exact xv (R:=T) Z9 Z9 e q hv My
  ·have hs:xkO xfA k≠xfA:=qL hk (No (My (by rw [Ex hk,z])))
   have e2:xkO xfA k=xdI++xkO ((xfA).drop 3) (k-3):=by
    rw [e,Jm _ _ q];rfl
   show xjl e2 hs (.badT (by show Τ Hv) hs)
 |n+1,j,k,h,hk,My=>by
  have hj:j<Rs.length:=by show xaF hN.1
  have hjn:j<xb5:=by lia
  have eR:=Ex hj;have er:=vU (T:=T) eR;rw [er] at hk My ⊢;have pb:=hN.2 j _ eR;show xiU tw (sU (i:=j) (show 64*j<T.length by unfold nB at hjn;lia) hb) Rs[j] R;show xa3 k R.length q q
  ·have hRb:=xFi.1;obtain⟨i,ps,Rb,hi,_,hro,eX,OU,Mu⟩:=xKE;have h1:=tw.one;have h2:=tw.le;have hX:xeT (xfV (64*i+xBO T j-1)++Rb):=λ x hx=>by
    show xcv (xA6 hx)
    ·exact cg (yG hi h1 h2) (xkD Mu) x z
    ·exact hro.byt x z
   show xcF ha (xaq (64*i+xBO T j-1)) (yG hi h1 h2) (64*i+xBO T j-1) a;have eX2:R=xfV a++(Rb++xiM (xfV a++Rb)):=by rw [eX];show xaP sld Eu
   show xa3 k 3 q3 q3
   ·exact xv (R:=T) ha (xkD Mu) (by rw [eX2,Eu]) q3 hv My
   ·rw [Fs q] at My;rw [Jw _ _ q];have Qd:sld (xgn (R.set k v) (R.set k v).length 2)≠R.set k v:=by
     subst eX;exact wo hX q hv (No (My (by rw [Ex q,z])))
    have e2:R.set k v=xfV a++xkO (Rb++xiM (xfV a++Rb)) (k-3):=by
     rw [eX2,Jm _ _ q3];rfl
    rw [e2,Eu];refine .badB hjn ha OU Mu (by rw [Hv,Et];rfl) (mr (λ x hx=>hRb x (by show LE eX2 (xnS hx))) hv) ?_;show xaC e2 Qd
  ·rw [E4 q] at My;show xqL Et hk (Jm _ _ q) (.next eR (Sg.turn hN hb hv n (j+1) (k-R.length) (by lia) (K3 q hk) My))
abbrev bale (T:Id)(Rs:xeo):Id:=mk3++xtP T 0
theorem Ms.fine (hN:xgz):xJC true xmp:=.good (Sg.fine hN xb5 0 rfl)
theorem Ms.turn (hN:xgz)(hb:xlk)(hv:xaq v)(hk:xxK k xmp)(My:(xmp)[k]?≠xdV):xCT (xkO xmp k):=by
 show xa3 k 3 q q
 ·have q':k<mk3.length:=q;rw [Fs q',Ex q'] at My;show LE (Jw _ _ q') (.bad rfl (by show Τ Hv) (qL q' (No (My (xpM z.symm)))))
 ·rw [E4 q] at My;show xqL Et hk (Jm _ _ q) (.good (Sg.turn hN hb hv xb5 0 _ rfl (K3 q hk) My))
def on (hN:xgz)(hb:xlk)(hl:xl9):xeC xmp/\xbg xmp 1900:=by
 show xbD h1 h2 (hN.facts hb hl) (xbW (PP x hx))
 ·show xcv (xA6 (xku x (mk3++(xyK xfA)) hx))
  ·exact(by decide:xeT mk3) x z
  ·exact h1 x z
 ·show xaN Rs.flatten xfA+3≤1900;rw [Et];show _+11+3≤1900;lia
universe K33.Ck
namespace K33.Ck
open PySem L2 QQ
seal PE PA PS PSs PT PW PG PI
abbrev nV:LP:=top 129
abbrev mi:LP:=top 130
inductive WI (K:Frag) (vs:LT) (H:Hp) (Q:VK) (LX:XK):Prop
 |mk (a:LF) (ns:xkk) (k:Nat) (h0:vs=[Tm,vN k]) (h1:xeV K a xeI) (h2:xjI (ns.getD k 0)):WI K vs H Q LX
def Bw:P3 xBR xBR nV:=On
def yq (F:Ζ "_law_cell_at" nV xBR)(X:xie):xew xBR (WI K):=by
 show xbo Bw (λ LS A outer st H vs Q E hr h=>?_);obtain⟨a,ns,k,rfl,hS,q⟩:=h;show xcc (xgL (xhN dQ SZ xzn (xbU (xk6 SZ)) aA) (xbU ak)) ⟨_,rfl,_,rfl,a,_,rfl,.inl hS,_,_,rfl,rfl,_,rfl,?_⟩ xk4
 ·have h2:xCU k:=by show xnD xiR Es xvM
  refine⟨_,rfl,_,rfl,a,_,_,V.int (ns.getD k 0),rfl,rfl,hS,aF ?_,q⟩;rw [Fq,Ex h2,E3,Ex h2];rfl
 ·have N6:xft xh2 (xgQ xeI)≠true:=h1;have h2:xCm k:=by
   rw [Es] at N6;by_cases h:xh2<Ty ns.length
   ·show xiW h N6
   ·exact KU.mp (xJI h)
  try dsimp only
  rw [E3,Fu h2] at q;exact q
noncomputable def BL (c k:Int):Int:=((c*48271+16807*k*k+69621*k+11)%2147483647*69621)%2147483629
def mixN (c k:Int):Nat:=(BL c k).toNat
def zM (c k):Ty (mixN c k)=BL c k:=Int.toNat_of_nonneg (Int.emod_nonneg _ Z9)
inductive Ud (vs:LT) (H:Hp) (Q:VK) (LX:XK):Prop
 |mk (c k:Int) (h0:vs=[xto,.int k]) (h1:0≤k) (h2:xb0 k) (h3:xmq (mixN c k) H):Ud vs H Q LX
def yu:P3 xyq xyq mi:=On
def qp (F:Ζ "_law_mixed" mi xyq):xew xyq Ud:=by
 show xbo yu (λ LS A outer st H vs Q E hr h=>?_);obtain⟨c,k,rfl,h0,h1,q⟩:=h;show xcc (xei (xsM (xgI dg (xsM (xhU (xb1 (xb1 (xgI dg Uf) (aq dg (xqV SZ) SZ)) (xqV SZ))))))) ⟨_,rfl,_,_,rfl,rfl,xcz Z9 Z9,_,rfl,_,_,rfl,rfl,xwv,_,rfl,_,_,rfl,rfl,xcz Z5 Z5,_,_,rfl,rfl,?_⟩ ⟨_,rfl,_,_,rfl,rfl,xwv,_,_,rfl,rfl,_,_,rfl,rfl,_,_,rfl,rfl,(by show xdG 2147483647),_,_,rfl,rfl,xcz Z9 Z9,_,_,rfl,rfl,(by show xdG 2147483629),?_⟩
 try dsimp only
 show WF (xaA (vN (mixN c k):V) (V.int (BL c k)) (xE7 (zM c k))) q q
universe K33.Ck
namespace K33.Ck
open PySem L2 QQ W17 W16 BP
seal PE PA PS PSs PT PW PG PI
abbrev wY:LP:=top 131
def mj (xs)(h:xbv m):xl5 xs xgg xai=xgn (xs.drop m) n m:=by
 unfold cutV;rw [HT.Mz,HT.Mz];rcases Lv m xs.length with h1|h1
 ·rw [Fp h1];rcases Lv n xs.length with h2|h2
  ·rw [Fp h2]
  ·rw [Ha h2,EV (by show LE EE Tl),EV (by show LE EE (HC h2 _))]
 ·rw [Ha h1,Ha (Ew h1 h),Gu h1,Lj];simp
def sh (hx:xyo x ([xzy,xlR k,xya z,xAa y]:xsq) .cell\/xyo x ([xzy,xlR k,xya z,xAa y]:xsq) .free):x=y:=by
 rcases hx with hx|hx
 ·have m':=xt2;simpa using m'
 ·have m':=xt2;simp at m'
def DD:(xKP:xae).Nodup:=Z8
def ql {te:TE}{σ0:St}{R:xe0 LF}(hk:xb0 k)(h0:σ0=[none,xdV])(hte:∀(j:Nat) (H':Hp) (Q:VK),xb0 j->UV->(∀b,xaq b->xbf xd1)->te [SL j,xdV] H' Q)(mt:∀σ H (A B:VK),(∀v H',xjE v->xjF v)->xfI A->xfI B)
  (h:∀(l:LF) (S:Id) (H':Hp),Ξ->UV->xap=xi5->xzD k->xa6 S->R l H'):∀l,Ξ->∃W:xoR,(∃m,xwM [] σ0 (xcB H []))/\∀i m ys σ' H',xoE->
   (xn8 (UU 0 k) H'/\R l H')\/(xoI (UU 0 k) H'/\∀x H2,xok (UU 0 k) H' x H2->xhf x σ' H2 λ σ3 H3=>xqU λ y H4=>
    xgu=xdf/\xgO/\∃m',m'<m/\xpw (i+1) (ys++xc0)):=λ l nl=>by
 subst h0;refine lG (g:=xhf) (te:=te) (lo:=0) (l:=l) (k:=k) (λ p ys σ H2=>∃(v0:xca) (S:Id),σ=[v0,xdV]/\ys=xlF/\xzD p/\xa6 S/\xjn=xdf/\xkS)
  ⟨none,[],rfl,rfl,rfl,(xpU h h),ad,xgd⟩ ?_ ?_ (λ x σ H A B h z=>xih) mt
 ·rintro p ys σ H2 hp ⟨v0,S,rfl,rfl,hl,hb,h2,sm⟩;have e:xcU+xmZ=xmZ:=Int.zero_add ↑_;show ST e (hte p H2 _ (Ew (EZ hp) hk) sm λ b MX=>⟨h2,bC (by show xcY),_,S++[b],rfl,by show Τ EG,by rw [Et,hl];rfl,PP x hx,ad,λ d o e=>by show xlr xqq⟩)
  show xbO hx z z
  ·exact xq2 z
  ·show xiI z MX
 ·rintro ys σ H2 ⟨v0,S,rfl,rfl,hl,hb,h2,sm⟩;exact h l S H2 nl sm h2 hl hb
inductive Wq (vs:LT) (H:Hp) (Q:VK) (LX:XK):Prop
 |mk (c:Int) (s:Nat) (h0:vs=[xto,xbz]) (h1:s≤520) (h2:∀(l:LF) (T:Id) (H':Hp),UV->Ξ->xap=xce->T.length=s->xa6 T->xao):Wq vs H Q LX
def MM:P3 ["_law_cell","_law_size","_law_text_here","_law_turn","_law_number","_law_way","_law_long","_law_begin"] xEN wY:=On
def zV (F:Ζ "_law_text" wY xEN)(Mi:xbs "_law_mixed" mi xyq fm fdm)(X:xie):xov xEN Wq:=by
 have GM:=qp (P:=P) (w:=w) (base:=base) Mi;show xbo MM (λ LS A outer st H vs Q E hr h=>?_);show xdT c s hs k h;have Md:xba:=SB;show xw1 hu;refine xgc 2 MM.nd xgT (xa7 3 MM.nd ak (xqI dQ xHx SZ (xaQ 4 MM.nd (xcs GM Mi (xog (xeH 3))) (xaQ 3 MM.nd (xhU xaz) (xaQ 5 MM.nd (xsM xan) (xeX 6 MM.nd (xb1 ak (xvP xan)) (xpI bG xcr ak (xHp (xe1 XV (xAt il (xbe (xvP xan)) xkw))) (af (xpI bG xcr ak (xHp (xe1 XV (jO (N:=xKP) (js:=[none,some 4]) (cl:=[("_law_number",xBf 1)]) (g:=xhf) rfl ⟨rfl,Z8,Z8,Z7,λ x c h=>(by show xbM rfl (eV h);rfl),λ x hx=>(by obtain rfl:=sh hx;exact xa4),rfl,λ i x j h1 h2=>?c1⟩ (xG2 Z7 (xeH 6)) (λ fp s H=>xrW 0 DD) (λ fp s H=>xvP (xcs GM Mi (xcl 1 xbj)))))) (af (xpI bG xcr ak (xHp (xe1 XV (jO (N:=xKP) (js:=[none,some 4]) (cl:=[("_law_number",xBf 1)]) (g:=xhf) rfl ⟨rfl,Z8,Z8,Z7,λ x c h=>(by show xbM rfl (eV h);rfl),λ x hx=>(by obtain rfl:=sh hx;exact xa4),rfl,λ i x j h1 h2=>?c2⟩ (xG2 Z7 (xeH 6)) (λ fp s H=>xrW 0 DD) (λ fp s H=>xb1 xDd (xvP (xcs GM Mi (xcl 1 xbj))))))) (af (aH (PW.pt (xAs (xm7 bG xcr) (xeK (rK hu) XV xgT))) (xeX 7 MM.nd (aq bv (xsL xan) xHx) (xHp (xe1 XV (xxN XV (pv 7) (xb1 (pv 7) xkw))))) (af (xi4 FK FV bx XV (xvP xan))))))))))))))) (xw8 XV bQ SZ))
 case c1=>show xmU (rH h1 h2) (xuA rfl (λ c h=>h))
 case c2=>show xmU (rH h1 h2) (xuA rfl (λ c h=>h))
 show xa8 (ar λ R1 g1=>xj1 (xdD l0 n0));show xlq;refine xcx (Ψ (λ m σ H2=>∃v4 v5 v6 v7 l A t,m=s-t/\σ=[xdR c,xjp,xhl,SL t,v4,v5,v6,v7]/\t≤A.length/\A.length≤s+20/\xa6 A/\xjn=Υ (A.map vN)/\Ξ/\xkS) ⟨s,none,none,none,none,l0,[],0,rfl,rfl,xac,xac,(xpU h h),ad,n0,am n0⟩)
 rintro m σ H2 ⟨v4,v5,v6,v7,l,A',t,rfl,rfl,ht,hA,hb,hl,nl,sm⟩;refine⟨_,rfl,l,_,rfl,Φ hl,_,rfl,_,_,rfl,rfl,_,rfl,?_⟩
 try dsimp only
 show ST Es xk4
 rotate_left
 ·have Ng:s≤A'.length:=by
   show xbu (Jk (Bool.not_eq_true _▸h1))
  refine g1 _ _ ⟨_,rfl,_,rfl,_,rfl,l,_,rfl,xze,PP l2 n2⟩
  try dsimp only
  rw [dU,<-G6];exact k l2 (A'.take s) _ (sm.trans (am n2)) (none_of sm n2) ad (by show xni (Fp Ng)) λ b MX=>xh3 (Fg MX)
 clear g1;have LU:A'.length<s:=by have:=xiR;exact xvM
 show xgk (xbV (λ σ' H' z=>z)) ⟨_,rfl,_,rfl,c,M2 t,rfl,Z5,Z5,Β⟩;show xfl ⟨_,rfl,_,_,rfl,rfl,Β⟩;generalize mixN c (M2 t)=n;show xfl ⟨_,rfl,_,_,rfl,rfl,(by show xdG 5),Β⟩;show xfl ⟨_,rfl,_,_,rfl,rfl,xeS,_,_,rfl,rfl,(by show xdG 20),_,_,rfl,rfl,Β⟩;obtain⟨L,hL1,S1,eL⟩:∃L,ω L/\L≤20/\xb4+xcG/5%20=M2 L:=⟨1+n/5%20,EY 1 (_/5%20),Z5,Z5⟩;have ZM:xcG/100%256=M2 (n/100%256):=Z5;have YE:xaq (n/100%256):=xqD
 try dsimp only
 rw [eL];have J:∀v7 (l2:LF) (S:Id) (H3:Hp),xf5 1->xG5 20->xa6 S->H3 l2=xaf (A'++S)->υ l2->xco H3->∃m',m'<s-t/\∃(v4 v5 v6 v7':xca) (l':LF) (A2:Id) (t':Nat),m'=s-t'/\[xdR c,xjp,SC l2,xdR (M2 t+1),xo9,xdR (xcG%5),xdR (M2 L),v7]=[xdR c,xjp,SC l',SL t',v4,v5,v6,v7']/\t'≤A2.length/\A2.length≤s+20/\xa6 A2/\H3 l'=Υ xJ8/\υ l'/\xco H3:=
  λ v7 l2 S H3 h1 h2 h3 h4 h5 h6=>⟨s-(t+1),xF5 (Fh ht LU),_,_,_,v7,l2,A'++S,t+1,rfl,rfl,by show LE Et (IF ht h1),by show xaF Et,λ b MX=>xnv MX xh3 (h3 b),h4,h5,h6⟩
 have one:xdv [n/100%256]:=λ b MX=>by show xiI MX YE
 have fin:∀{v7:xca} {lj:LF} {S:Id} {H3:Hp},xt1 H3->H3 lj=xi5->xf5 1->xG5 20->xa6 S->Zr xax (.ref lj) H3 λ v H4=>∃m',m'<s-t/\∃(v4 v5 v6 v7':xca) (l':LF) (A2:Id) (t':Nat),m'=s-t'/\[xdR c,xjp,xdV,xdR (M2 t+1),xo9,xdR (xcG%5),xdR (M2 L),v7]=[xdR c,xjp,SC l',SL t',v4,v5,v6,v7']/\t'≤A2.length/\A2.length≤s+20/\xa6 A2/\H4 l'=Υ xJ8/\υ l'/\xco H4:=
  λ {v7 lj S H3} s3 h3 h1 h2 hS=>⟨l,lj,_,_,rfl,rfl,xcf hl,h3,bF (by rw [Es,Es];lia),λ l5 n5=>by
   show xaC EG (J v7 l5 S _ h1 h2 hS ad (xCE xFa) ((xFa).trans (am n5)))⟩
 refine xiY _ _ xb8 xb8
 ·refine⟨_,rfl,_,rfl,_,_,rfl,rfl,xeS,_,_,rfl,rfl,(by show xdG 256),(by show xdy 1),PP l3 n3⟩
  try dsimp only
  rw [ZM];have s3:=xaR [vN (n/100%256)] n3;refine⟨_,rfl,l3,_,_,rfl,rfl,ad,IN (2^63) _,Z5,bF (by show 1*_≤_;lia),PP l4 n4⟩
  try dsimp only
  rw [E6,pz];have s4:=xcQ (List.replicate L (n/100%256)) n4;show xg6 (fin xJ3 ad (by show LE Ff hL1) (by show LE Ff S1) (PP b MX)) (List.eq_of_mem_replicate MX) YE
 refine xiY _ _ xb8 xb8
 ·refine⟨_,rfl,_,rfl,_,rfl,Z5,xDW S1,?_⟩
  try dsimp only
  show ST E6 (ql (v:=xdH) Z5 rfl (λ j H4 Q4 hj _ h4=>?_) ?_ (λ lj S H4 nj s4 h4 Ts hb4=>fin s4 h4 (Kg hL1 Ts.symm) (G9 Ts S1) hb4))
  ·refine⟨_,rfl,_,rfl,_,_,rfl,xe4,Z5,_,_,rfl,rfl,xeS,_,_,rfl,rfl,(by show xdG 256),?_⟩
   try dsimp only
   show LE (xaA (M2 (mixN xcG xw3)/7%256) (M2 (mixN xcG xw3/7%256)) (Ik (xMd rfl))) (h4 _ xqD)
  ·rintro σ H A B h ⟨v,e1,v2,e2,c',k',e5,e6,e7,i,j,f1,f2,f3,i2,j2,f4,f5,f6,z⟩;exact⟨v,e1,v2,e2,c',k',e5,e6,e7,i,j,f1,f2,f3,i2,j2,f4,f5,f6,xih⟩
 refine xiY _ _ xb8 xb8
 ·refine⟨_,rfl,_,rfl,_,rfl,IN (2^62) _,xDW S1,?_⟩
  try dsimp only
  show ST E6 (ql (v:=xdH) (xdC S1) rfl (λ j H4 Q4 hj _ h4=>?_) ?_ (λ lj S H4 nj s4 h4 Ts hb4=>fin s4 h4 (Kg hL1 Ts.symm) (G9 Ts S1) hb4))
  ·refine⟨_,rfl,_,_,rfl,rfl,xeS,_,_,rfl,rfl,(by show xdG 250),_,rfl,_,rfl,_,_,rfl,xe4,Lq rfl rfl hj,_,_,rfl,rfl,xeS,_,_,rfl,rfl,(by show xdG 3),_,_,rfl,rfl,?_⟩
   try dsimp only
   show LE (show xcG/100%250+M2 (mixN xcG xw3)/7%3=M2 (n/100%250+mixN xcG xw3/7%3) by lia) (h4 _ Z5)
  ·rintro σ H A B h ⟨v,e1,i,j,f1,f2,f3,i2,j2,f4,f5,f6,v3,e3,v2,e2,c',k',e5,e6,e7,i3,j3,g1,g2,g3,i4,j4,g4,g5,g6,i5,j5,g7,g8,z⟩;exact⟨v,e1,i,j,f1,f2,f3,i2,j2,f4,f5,f6,v3,e3,v2,e2,c',k',e5,e6,e7,i3,j3,g1,g2,g3,i4,j4,g4,g5,g6,i5,j5,g7,g8,xih⟩
 have app:∀{v7:xca} {H3:Hp},xt1 H3->Q1 xax [vN (n/100%256)] H3 λ v H4=>∃m',m'<s-t/\∃(v4 v5 v6 v7':xca) (l':LF) (A2:Id) (t':Nat),m'=s-t'/\[xdR c,xjp,xhl,xdR (M2 t+1),xo9,xdR (xcG%5),xdR (M2 L),v7]=[xdR c,xjp,SC l',SL t',v4,v5,v6,v7']/\t'≤A2.length/\A2.length≤s+20/\xa6 A2/\H4 l'=Υ xJ8/\υ l'/\xco H4:=λ {v7 H3} s3=>⟨l,_,_,rfl,rfl,xcf hl,bC (by show xcY),J v7 l [n/100%256] _ Tl (by show xnE (ω 20)) one (by rw [ad,EG];rfl) nl λ e o z=>by show xiC z nl (xcf (xep z))⟩
 refine xiY _ _ xb8 xb8
 rotate_left
 ·refine bi ⟨_,rfl,xfa hl,_,rfl,_,_,rfl,rfl,xeS,_,_,rfl,rfl,(by show xdG 256),?_⟩
  try dsimp only
  show LE ZM (app xKF)
 ·refine xfj rfl Z9 (λ le ne=>⟨l,le,A'.map λ b=>xdj,[],rfl,rfl,?_,xCH,_,rfl,xeg h h⟩)
  ·show xaC jv (K'.of (am ne _ _ hl))
  ·have hA0:0<A'.length:=by
    cases A' with
    |nil=>show xbd
    |cons _ _=>exact Km _
   have s3:=xaR [] ne;have NM:=xcf hl;show xas (xbi H2 le []) H3 (xcx ⟨_,rfl,_,_,rfl,rfl,xeS,_,rfl,l,_,rfl,Φ NM,_,_,rfl,rfl,(by show xcU<xlW (A'.map vN);show xdl (KC.mpr hA0)),Β⟩)
   clear g1;have TF:n/100%A'.length<A'.length:=xwC hA0;have ebe:xcG/100%xlW (A'.map vN)=M2 (n/100%A'.length):=by rw [Es,Int.natCast_emod,Int.natCast_ediv];rfl
   try dsimp only
   rw [ebe];show xas (n/100%A'.length) be ⟨_,rfl,_,rfl,_,rfl,_,rfl,_,rfl,_,rfl,_,_,rfl,rfl,_,rfl,l,_,rfl,K'.of NM,PP lc nc⟩
   try dsimp only
   rw [xaA (M2 be+M2 L) (M2 (be+L)) (xMk _),mj _ Z5,xaA (be+L-be) L (HQ _ _),<-Hs,<-G6];exact fin (s3.trans (am nc)) ad (by rw [EH,EE];exact xJM ⟨hL1,IP TF⟩) (by show xni (Ew xhk S1)) λ b MX=>xh3 (Ft (Fg MX))
  ·refine⟨_,rfl,xfa (am ne _ _ hl),_,rfl,_,_,rfl,rfl,xeS,_,_,rfl,rfl,(by show xdG 256),?_⟩
   try dsimp only
   show LE ZM (app (am ne))
abbrev ml:LP:=top 132
def trn (L:Id)(n:Nat):Id:=L.set (n/8) (xc4 (n/8)^^^2^(n%8))
inductive RD (vs:LT) (H:Hp) (Q:VK) (LX:XK):Prop
 |mk (a:LF) (L:Id) (n:Nat) (h0:vs=[Tm,xdH]) (h1:XL=xhb) (h2:xht (n/8)) (h3:∀l H',Ξ->UV->xap=xaf (trn L n)->xao):RD vs H Q LX
def Si:P3 ["_law_bale","_law_place","_law_other"] xFE ml:=On
def uG (F:Ζ "_law_turned" ml xFE)(X:xie):xew xFE RD:=by
 show xbo Si (λ LS A outer st H vs Q E hr h=>?_);obtain⟨a,L,n,rfl,ha,hn,k⟩:=h;show xcR (xa7 2 Si.nd (xGM Gg xbj) (mW (aq rW (xsS XV (xsL SZ)) (xy8 di (xsM SZ))) (lT XV (xsL SZ) gX)) XV) ⟨_,rfl,a,_,rfl,Φ ha,xe7⟩;have s1:=xje xpD;have hl:(xfb xpD) l=xhb:=ad;have ex:∀x:Nat,Ty (xI1 x (1*xuD (xcG%8)))=M2 (x^^^2^(n%8)):=λ x=>by
  rw [xcd (xcG%8) (M2 (n%8)),E6,LC,show(Ty 2^(n%8))=M2 (2^(n%8)) by show Τ Int.natCast_pow,jo]
 have hm:n%8<8:=xwC (by decide);have hg:(xpD)[n/8]?=SL (xc4 (n/8)):=by
  rw [Fq,Ex hn,E3,Ex hn];rfl
 refine⟨_,rfl,_,rfl,_,_,rfl,rfl,xeS,l,_,_,vN (xc4 (n/8)),rfl,rfl,xze,xIf (n/8) hg,_,rfl,_,_,rfl,rfl,(by show xdG 8),_,_,rfl,rfl,⟨?_,?_,Z9⟩,_,_,rfl,rfl,?_⟩
 ·show xcU≤M2 (n%8);exact xe4
 ·show M2 (n%8)≤1000000;lia
 try dsimp only
 show ST ex ⟨_,rfl,_,rfl,_,_,rfl,rfl,xeS,l,_,_,n/8,rfl,rfl,hl,?_,_,rfl,xpm nl ?_ ?_⟩
 ·show ixN _ (M2 (n/8))=_;unfold ixN;rw [EU xe4,EU (by show xdl (xAW hn))];rfl
 ·exact λ c o e=>by show xlr xbr
 ·rw [ad];show xaP trn List.map_set
def yD (L)(n):xaJ (trn L n) L.length:=Hv
def Cv {L:Id}(h:xht (n/8)):xq9 L[n/8]? (xc4 (n/8)^^^2^(n%8)):=λ e=>by
 rw [E3,Ex h] at e;have e:L[n/8]=L[n/8]^^^2^(n%8):=Fb e;have:=i7 (a:=0) (c:=L[n/8]) (b:=2^(n%8)) (by rw [Nat.zero_xor,KR];exact e);show xab this (FA (Hd (by decide)))
def BT {L:Id}(hL:xeT L)(h:xht (n/8)):xaq (xc4 (n/8)^^^2^(n%8)):=by
 rw [E3,Ex h];exact Gp (n:=8) (hL _ (Gj h)) (Nat.pow_lt_pow_right (by decide) (xwC (by decide)))
def Bb (hN:xgz)(hb:xlk)(hl:xl9)(h:xxK (n/8) xmp):xCT (trn xmp n)/\xeC (trn xmp n)/\xbg (trn xmp n) 1900:=by
 show xqz h1 h2 (on hN hb hl) hv (BT h1 h);exact⟨Ms.turn hN hb hv h (Cv h),mr h1 hv,by show LE yD h2⟩
universe K33.Ck
namespace L2
open PySem PySem.Spec PyProof.Rows QQ
def Dk (K:Frag)(D0:LF)(tb:St->XK->TS)(th:TS):TS:=λ D σ H=>
 xxp (λ cls _ H'=>∃C,cls=Γ/\xqM C/\C≠D0/\xs4 K C D0/\
  ∀e vs,xx5 e->th D σ (xrg H' (xqk Γ e))) D σ H
theorem t8 {X:Cx}{x:Str}{nm:Option Str}{D0:LF}{b:xqe}{W:xe0 LF}{CB:xfw LF}{np Nv pos:Pos}{LQ:Wp}{σ:St}{H:Hp}{s:LH}{D:Ends}{body:xqe}{tb:TS}(hg:xe8)(hm:xiO=SC D0)(hD:xDk D0)(Nd:X.stack=xzs)(Tz:xBn)(hX:X.ex=[])
    (hb:xwr (oP X xv9 σ λ cls _ H'=>∃C,cls=Γ/\xDk C/\C≠D0/\xs4 X.K C D0/\∀e vs,xx5 e->W e (xrg H' (xqk Γ e))) tb) (I:Ps) (h:tb D σ H)
    (k:∀ea G3 H3 s5,xrQ (xnT ea G3) H3 s5->(∀σ6 H6 s6,xuN (xnT ea G3) σ6 H6 s6->xkL σ6 H6 s6)->W ea H3->CB ea s5)
    (kk:∀ea s,(∀E',xAN (xKj ea) (xFn xsV) (λ _ s1=>CB ea s1) E' s)->xGi (xKj ea) (.handlers xsV [.ExceptHandler none nm b Nv] X.env) (λ r s₂=>match r with
      | .ok f=>(match nm with
        |none=>xm6 f s₂
        |some n=>xjW (do bindName X.env n .none;xL0 n Nv) (λ _ s₃=>xm6 f s₃) s₂)
      | .error x=>cameBackBy xss X.A X.env X.xe x s₂) s) (hd:τ (x==xdQ)):
    xgG (exec (xCx [xIN (xyl np) nm b Nv] [] [] pos) X.env) xm6:=by
  refine Bz Nd Tz hX hb I h ?_
  rintro ea T _ c H' s1 vs ts oT-bk bn ⟨C,rfl,cC,My,Zz,q⟩ F' I2 nE nT ge z2-neT- - -
  have q:=q ea vs nE.h
  obtain⟨G,I2',bk0,unk⟩:=I2.ready ⟨bk,bn⟩
  have nE':xmJ (xCI G) H' ea:=⟨nE.s0,nE.h,nE.loc,nE.cel,nE.pin⟩
  have I3:=I2'.hand nE' ge z2 bk0
  have uh:∀σ6 H6 s6,xuN (xnT ea (upd G ea (xqk Γ ea))) σ6 H6 s6->xkL σ6 H6 s6:=λ _ _ _ z=>unk _ _ _ (Inv.unhand I2' nE' z)
  generalize hG3:upd G ea (xqk Γ ea)=G3 at*
  generalize hH3:upd H' ea (xqk Γ ea)=H3 at*
  refine wpAny_handleBy_cons (codeAny_handlers_test (xrq I3 ?_ hd)) (by show xf0 q q)
  obtain⟨bm,N,nm,qn,bs,hdct,sn,sub,ab,col,dd,k0,k1,k2,k3,k5,hlC,hcC,_⟩:=nN cC
  obtain⟨bm',N',nm',qn',bs',hdct',sn',sub',ab',col',dd',j0,j1,j2,j3,j5,hlD,_,hfD⟩:=nN hD
  have ZA:xKY (xsH C bm) (.ref D0):=by
    unfold mroIn at Zz
    rw [hcC] at Zz
    simpa using Zz
  have T':=(hfD _ I2.kIn).2
  obtain⟨hh1,gg,dr,tk,os1⟩:=s1
  refine p5 (I2.kIn C _ hlC) (I2.kIn D0 _ hlD) ge rfl (T'.hasType Z8) ZA My (kk ea _ λ E'=>rL F' (Sc h4 F4 k4))
  have nT3:xmJ (xnT ea G3) H3 T:=⟨nT.s0,by rw [<-hH3,ai neT];exact nT.h,nT.loc,nT.cel,nT.pin⟩
  have I4:=I3.landed (xaw (by show xqL EW hb hb nT3)) (λ b o g hb _=>k4 b o g (xhe (by simp [z]))) (λ b o g hb=>xCj (k4 b o g (xhe (by simp [z])))) (λ b o g=>by
    by_cases hb:b=T
    · obtain⟨o',us,g',_⟩:=F4.rec T Z6
      show xar o' (by show LE hb g')
    · show xar o (k4 b o g hb))
  exact k ea G3 H3 _ I4 uh q
def yl {x:Str}{D0:LF}(hg:xe8)(hm:xiO=SC D0)(hD:xDk D0)(Nd:X.stack=xzs)(Tz:xBn)(hX:X.ex=[])
  (hb:∀pn σ0 E,xwr (oP X pn σ0 E) (tb σ0 E)) (hh:∀e G,PSs (xnT e G) (b₀::V7) th) (hd:xdw (x==xdQ)):
  xh1 (xCx [xIN (xyl np) none (b₀::V7) Nv] [] [] pos) (Dk X.K D0 tb th):=by
 intro LQ s σ H D I h;refine t8 (W:=λ e H'=>th D σ H') hg hm hD Nd Tz hX (xq2 _ _) I h ?_ (λ ea s z=>codeAny_handlers_suite (z _)) hd;intro ea G3 H3 s5 I4 uh q;refine xcw (hh ea G3 LQ _ σ H3 D I4 q) (Sc f s6 q6) z xse
 cases f with
 |next=>show xwE H6 I6 q7 q6;show xav σ6 H6 (uh _ _ _ I6) q7
 |brk=>show xwE H6 I6 q7 q6;show xav σ6 H6 (uh _ _ _ I6) q7
 |cont=>show xwE H6 I6 q7 q6;show xav σ6 H6 (uh _ _ _ I6) q7
 |ret u=>obtain⟨v,σ6,H6,I6,r,q7⟩:=q6;exact⟨v,σ6,H6,uh _ _ _ I6,r,q7⟩
def zX {X:Cx}{x y:Str}{i:Nat}{D0:LF}(hN:X.N.Nodup)(hi:Ν X.N y)(hl:xnQ y)
  (hg:xe8) (hm:xiO=SC D0) (hD:xDk D0) (Nd:X.stack=xzs) (Tz:xBn) (hX:X.ex=[])
  (hb:∀pn σ0 E,xwr (oP X pn σ0 E) (tb σ0 E)) (hh:∀e G,PSs (xnT e G) (b₀::V7) th) (hd:xdw (x==xdQ)):
  xh1 (xCx [xIN (xyl np) (some y) (b₀::V7) Nv] [] [] pos) (DY X.K D0 i tb th):=by
 intro LQ s σ H D I h;refine t8 (W:=λ e H'=>th (Dx i D) (xEv (SC e)) H') hg hm hD Nd Tz hX (xq2 _ _) I h ?_ (λ ea s z=>codeAny_handlers_suite_as (z _)) hd;intro ea G3 H3 s5 I4 uh q;show TD (gP (X:=xnT ea G3) (v:=xsV) I4 hN hi xGl rfl (PP s5 I5) (.inr hl)) (xcw (hh ea G3 LQ s5 _ H3 (Dx i D) I5 q) (Sc f s6 q6) z xse)
 cases f with
 |next=>
  show xwE H6 I6 q7 q6;exact xF8 (uh _ _ _ I6) hi hl (λ s' I8=>xfj _ I8 q7)
 |brk=>
  show xwE H6 I6 q7 q6;exact xF8 (uh _ _ _ I6) hi hl (λ s' I8=>xfj _ I8 q7)
 |cont=>
  show xwE H6 I6 q7 q6;exact xF8 (uh _ _ _ I6) hi hl (λ s' I8=>xfj _ I8 q7)
 |ret u=>
  obtain⟨v,σ6,H6,I6,r,q7⟩:=q6;exact xF8 (uh _ _ _ I6) hi hl (λ s' I8=>⟨v,_,_,I8,r,q7⟩)
inductive Zq (K:Frag) (x y:V) (H:Hp) (Q:VK):Prop
 |mk (p q:LF) (ns ms:xkk) (h0:x=xad) (h1:y=xwB) (h2:xeV K p xeI) (h3:xeV K q xyj) (h4:xdK (xa2 ns ms)):Zq K x y H Q
def tS {X:Cx}{K:Frag}(hK:X.K=K)(hu:xsP 64<cLine):xe9 .Eq (Zq K):=by
 subst hK;intro LQ s σ H x y v u Q I rx ry h;obtain⟨p,q,ns,ms,h0,h1,h2,h3,h4⟩:=h;exact rQ hu LQ s σ H x y v u Q I rx ry ⟨p,q,ns,ms,h0,h1,h2,h3,h4⟩
def jN {X:Cx}{K:Frag}(hK:X.K=K):Xd X (XI K):=by subst hK;exact bh
inductive V8 (K:Frag) (xs:LT) (H:Hp) (Q:VK):Prop
 |mk (p:LF) (ys:LT) (h0:xs=xaV) (h1:xeV K p ys\/xna p ys) (h2:xjI ys.length):V8 K xs H Q
def ij {X:Cx}{K:Frag}(hK:X.K=K):xr4 X "len" (V8 K):=by
 subst hK;intro LQ s σ H xs us Q I r h;obtain⟨p,ys,h0,h1,h2⟩:=h;exact cF LQ s σ H xs us Q I r ⟨p,ys,h0,h1,h2⟩
inductive Qu (Q:VK) (vs:LT) (H1:Hp):Prop
 |mk (n:Nat) (h0:vs=[.int xai]) (h1:n≤1000000) (h2:∀l,xgW l->xrJ (xcB H1 (xlB n (λ i=>xn2)))):Qu Q vs H1
def yX (ta:TA):TE:=λ σ H Q=>xgy λ vs H1=>Qu Q vs H1
def zh {f:xaX Int}{n:Nat}{acc:xkj}(h:ItemsOf (λ i v=>∃t,v=xbq (f i)) acc n):Vals (xlB n (λ i=>V.int (f i))) acc.toList:=by
 show xAG h1 h2;have key:∀(l:xaI) (s:Nat),(∀(j:Nat) (v:LG),xfd l v->∃t,v=xst (f (s+j)))->Vals (xiF (List.range' s l.length) i (V.int (f i))) l:=by
  intro l
  induction l with
  |nil=>intro s _;show xeE
  |cons v l ih=>
   intro s h;rw [EK,List.range'_succ,FZ];refine .cons ?_ (ih (s+1) (xcW j w))
   ·show xdm t e (h 0 v rfl) t e
   ·show xdm t e' (h (j+1) w e) t (by rw [e',show s+1+j=s+(j+1) by omega])
 have:=key acc.toList 0 λ j v e=>by
  show LE F6 (h2 j v (by show xaC Jr e))
 rw [FN,h1,<-List.range_eq_range'] at this;show xfM
def vm {X:Cx}{a:LN}{ta:TA}{p p2 pos VW:Pos}(hh:xpK)(hg:xvF "list")(hm:xnA "list")(hg2:xGj)(hm2:xGh)(ha:xiX xcj ta)(hs:Μ (xfS xcj=[xhD a]))
  (he:Μ (xfS [xvV p2 xcj [] VW]=[xhD (xvV p2 xcj [] VW)])):
  xlb "list" p [xvV p2 xcj [] VW] [] (yX ta):=by
 intro LQ s σ H Q I h;refine GD (xuB Gg (Gy ?_ he rfl) (by decide) (by decide));rw [he];show xg3 (spliced [xhD (xvV p2 xcj [] VW)]);show xgl (K0 (Call_ (dR I hg2 hm2 boot_range (Gy (xdd (ha VW LQ s σ H _ I h) us) hs rfl)))) vs;obtain⟨n,e,q3,q⟩:=q1;subst e;cases r1 with
 |cons r rr=>
   show xuu rr r;refine call_range_1 (K5 ?_);have I2:xrR H1 s1 (xIr #[xlH s1.toks,xbq xai,xqn (s1.toks+1)]) (s1.toks+2):=I1.kept λ b o e=>xdZ
   refine call_list_range (n:=n) hh xLJ (small_one (by omega) (by omega) (by omega) (by omega)) ?_ (by omega) λ h' tk acc' c' hk hS hacc=>?_
   ·rw [rangeSize_one]
    split<;>omega
   ·refine xby (.ref _) _ (I2.laid (t':=tk) hk Tl (show xv4 _ h' _ (.lst (xlB n (λ i=>xn2))) from⟨?_,acc'.toList,c',?_,?_⟩)) (q _ xI5)
    ·rw [Es,Ie];exact Ew q3 (by decide)
    ·have hv:=zh (f:=λ i=>0+xf7*1) hacc;simpa using hv
    ·simpa using hS
def wq {K:Frag}{a l:LF}{xs:LT}{σ0:St}{g:TG}{te:TE}{R:xrT}{H1:Hp}(Pv:xaX (LT->xbR))(h0:Pv 0 [] σ0 xsE)(hl:∀i ys σ H,xlh->xig σ H->xgC)
  (hs:∀i x ys σ H p,xkW->xig σ H->xid->g xad σ (xcn H p [xn2,x]) λ σ3 H3=>xqU λ y H4=>xgu=xdf/\xgO/\xfN (ys++xc0) σ3 xy4)
  (hd:∀ys σ H,xFA σ H->R H) (mg:∀x σ H (A B:xbR),(∀σ' H',xjE σ'->xjF σ')->xjx A->xjx B) (mt:∀σ H (A B:VK),(∀v H',xjE v->xjF v)->xfI A->xfI B):
  ∃W:xoR,(∃m,xrn σ0)/\∀i m ys σ' H',xoE->
   (xn8 xoT H'/\R H')\/(xoI xoT H'/\∀x H2,xok xoT H' x H2->xrr x λ σ3 H3=>xqU λ y H4=>
    xgu=xdf/\xgO/\∃m',m'<m/\xpw (i+1) (ys++xc0)):=by
 refine Ψ (λ i m ys σ H=>m=xfq i/\xlh/\xig σ H) ⟨xs.length,Z6,xac,h0⟩;rintro i m ys σ H ⟨rfl,hi,p⟩;have q:=xrz ys σ H hi p;by_cases LU:xeM i
 ·refine xcz ⟨xs,xs[i],q,by simp [LU]⟩ (Sc x H' y);obtain⟨p1,x1,MJ,e1,e2,y⟩:=y;subst e1 e2;exact mg _ _ _ _ _ (λ σ3 H3 z=>mt _ _ _ _ (λ y H4 z9=>by show xay z1 z2 z4 z9 ⟨z1,z2,xfq (i+1),xmI,rfl,LU,z4⟩) z) (xrB x1 ys σ _ p1 (y xs q) p MJ)
 ·have e:xnO i:=Z4;show xqT e ⟨xAc xs q,hd ys σ H p⟩
universe L2
namespace K33.Ck
open PySem L2 QQ W17 W16 BP
seal PE PA PS PSs PT PW PG PI
abbrev qE:LP:=top 133
structure Zn (K:Frag)(mg:π)(cE cM cH cK cT:LF):Prop where
 verr:xgZ "ValueError"
 mP:mg "PressError"=SC cE
 xP:xqM cE
 nM:cM≠cE
 nH:cH≠cE
 nK:cK≠cE
 nT:cT≠cE
 sM:xs4 K cM cE
 sH:xs4 K cH cE
 sK:xs4 K cK cE
 sT:xs4 K cT cE
 iM:xtW cM
 iH:xtW cH
 iK:xtW cK
 iT:xtW cT
 vM:xj5 (xp7 (.ref cM) xu3)
 vH:xj5 (xp7 (.ref cH) xu3)
 vK:xj5 (xp7 (.ref cK) xu3)
 vT:xj5 (xp7 (.ref cT) xu3)
def Zn.of (Y:Zn K mg cE cM cH cK cT)(R:xuI K cM cH cK cT)(h:Fr cM cH cK cT c):xqM c/\xcp cE/\xs4 K c cE/\xtW c/\xj5 (xp7 xwl xu3):=by
 rcases h with rfl|rfl|rfl|rfl
 ·exact⟨R.xM,Y.nM,Y.sM,Y.iM,Y.vM⟩
 ·exact⟨R.xH,Y.nH,Y.sH,Y.iH,Y.vH⟩
 ·exact⟨R.xK,Y.nK,Y.sK,Y.iK,Y.vK⟩
 ·exact⟨R.xT,Y.nT,Y.sT,Y.iT,Y.vT⟩
inductive rIsE (K:Frag) (xs:LT) (H:Hp) (Q:VK):Prop
 |mk (a C:LF) (vs:xkj) (c:LG) (b:Bool) (h0:xs=[Tm,DF c]) (h1:∃n,c=.ref n\/∃t,c=.type t) (h2:xip (xqk Γ a)) (h3:xtW C) (h4:NE (xp7 Γ c) b) (h5:xdK b):rIsE K xs H Q
def rZ {X:Cx}(hK:X.K=K):xJU X (rIsE K):=by
 subst hK;intro LQ s σ H xs us Q I r h;obtain⟨a,C,vs,c,b,h0,h1,h2,h3,h4,h5⟩:=h;exact uw LQ s σ H xs us Q I r ⟨a,C,vs,c,b,h0,h1,h2,h3,h4,h5⟩
inductive Ug (vs:LT) (H:Hp) (Q:VK) (LX:XK):Prop
 |mk (a:LF) (T L:Id) (Rs:xeo) (h0:vs=xbK) (h1:xlk) (h2:xl9) (h3:xgz) (h4:xCT L/\xeC L/\xfm 1900) (h7:XL=xhb) (h8:xbC (UV->xbf xsy)):Ug vs H Q LX
def Us:P3 ["_law_bale","e"] xFj qE:=On
def xQ (F:Ζ "_law_told" qE xFj)(Op:xbs "opened" jk Jal fo fdo)(R:xnf)(O:xuJ K Cp)(Y:Zn K mg cE cM cH cK cT):Η 45 xFj Ug:=by
 have GO:=lz (P:=P) (w:=w) (base:=base) Op R O;have X:=R.pr.H.N.X;show xbo Us (λ LS A outer st H vs Q E hr h=>?_);obtain⟨a,T,L,Rs,rfl,hT,NX,hN,⟨hM,hb,hL⟩,ha,k⟩:=h;show TD (xgL (zX (i:=1) Us.nd rfl rfl Z7 Y.mP Y.xP rfl rfl rfl
   (λ pn σ0 E=>af (aB (wz GO hr Z7 Op.m Op.F.kp Op.b .nil (AA rfl) xbj)))
   (λ e G=>xbU (xkE (rZ (K:=K) rfl) X.isi Ib (xtG 1 (jg (v:=.ty "ValueError") Z7 Y.verr PyProof.Rows.Boot.«ValueError» rfl))))) xHH) ⟨rfl,_,rfl,a,T,L,Rs,false,rfl,hT,NX,hN,hM,hL,hb,ha,nofun,λ _ c H1 hc s1=>?_⟩;obtain⟨h1,h2,h3,h4,h5⟩:=Y.of R.er hc;refine⟨c,rfl,h1,h2,h3,Sc e vx he⟩;exact⟨_,rfl,e,c,vx,xu3,true,rfl,⟨0,.inr xa4⟩,ad,h4,h5,xdp (s1.trans (am he))⟩
abbrev Ct:LP:=top 134
def xy (m c:Nat)(h:xmV m)(h0:ω c)(h1:c≤100)(hm:ω m):xIP 0 xgg xk2/\xEn 0 m xk2=xg5 ((m-1)/c):=by
 have hc0:xk2>0:=xAW h0;have hm0:xcU<xk3:=xAW hm;have e:xEn 0 m xk2=xg5 ((m-1)/c):=by
  unfold Builtin.Range.rangeSize;rw [EU hc0,EU hm0,Int.sub_zero,show xgg-1=M2 (m-1) by lia];rfl
 refine⟨?_,e⟩;have f:∀i:Int,0≤i->i<100000->xLM i:=λ i h0 h1=>by
  show xMp;rw [Ez (by lia),Ez (by lia)];rfl
 have hd:(m-1)/c≤m-1:=Nat.div_le_self _ _;show xaP Builtin.Range.small e
 try dsimp only
 rw [f 0 (by decide) (by decide),f xgg (by lia) (by lia),f xk2 (by lia) (by lia),f (xg5 ((m-1)/c)) (by lia) (by lia),EU hc0,f (xgg+(xk2-1)) (by lia) (by lia)];simp
abbrev D4 (K:Frag)(Cp Ce CO CK:LF):TE:=Al (UE (Zq K) (Nk 4) (tSl (XI K) (Nk 1) uf (An (tCB (V8 K) (jT (Nk 4) iW))))) (UE (λ x y H Q=>∃c d,x=.bl c/\y=.bl d/\xdK (c==d)) (jV Cp "over" (Pz Cp Ce CO CK) [] E0 (Nk 3) iW) (tC xKd))
def sP {v0 v2 v5:xca}{t p l:LF}{rest:Id}(hl:H l=xaf xg1)(ht:H t=xce)(hO:xq1 N H p T Rs false false j rest)(k:xbC (UV->xbf xsy)):D4 K Cp Ce CO CK [v0,SC t,v2,xd3,xhl,v5] H Q:=by
 have ec:xuV xnm none (xlW (Κ xg1))=Κ xg1:=by
  rw [Es,dU,<-G6,EH];show xcv (Lv (64*j) T.length)
  ·rw [Fp z]
  ·rw [Ha z,Fy,EV z]
 refine⟨_,rfl,_,rfl,_,rfl,l,_,rfl,Φ hl,_,rfl,t,_,rfl,K'.of ht,xxP⟩;rw [ec];have s5:=xcQ xg1 nq;have hq:(xbG H q xg1) q=xaf xg1:=ad;have Tr:=xam hl;show xiU hO5 (hO.keep λ c o e _=>xam e) (xbG H q xg1) H5;show xEt dx Q8 hO5;rw [jv] at hq Tr;show xg6 ⟨l,q,_,_,rfl,rfl,K'.of Tr,K'.of hq,?_⟩ xnX (xa9 (cU ⟨_,rfl,p,dx,_,rfl,Q8,p4 _,p,_,T,_,Rs,_,_,_,rfl,hO5,_,_,rfl,rfl,xdp s5⟩))
inductive YA (vs:LT) (H:Hp) (Q:VK) (LX:XK):Prop
 |mk (a t:LF) (T L:Id) (c:Nat) (Rs:xeo) (h0:vs=[Tm,xfr,xh7]) (h1:xlk) (h2:xl9) (h3:xgz) (h4:xCT L/\xeC L/\xfm 1900) (h7:XL=xhb) (h8:H t=xce) (hc:ω c) (Xz:c≤100) (h9:xbC (UV->xbf xsy)):YA vs H Q LX
abbrev DX:xae:=["_law_bale","_law_text_here","_law_long","_law_opener","_law_told_here","_law_at"]
def Rv:P3 DX xFw Ct:=On
def AM (F:Ζ "_law_fed" Ct xFw)(R:xnf)(O:xuJ K Cp)(Y:Zn K mg cE cM cH cK cT):Η 44 xFw YA:=by
 have X:=R.pr.H.N.X;obtain⟨_,_,FIo,bIo,MIo⟩:=O.init;show Ι Fo O.feed Ov O.over;have GO:=lQ (P:=P) (w:=w) (base:=base) Fo.F R O;have GV:=kU (P:=P) (w:=w) (base:=base) (CO:=CO) (CK:=CK) Ov.F R.tt O;show xbo Rv (λ LS A outer st H vs Q E hr h=>?_);obtain⟨a,t,T,L,c,Rs,rfl,hT,NX,hN,⟨hM,hb,hL⟩,ha,ht,hc,Xz,k⟩:=h;have Md:xba:=SB;have Xs:xah 9:=SB;show xw1 hu;show xcR (xaQ 3 Rv.nd (bX MIo (k7 FIo R O) Xs Z7 O.m bIo .nil a7) (xa7 4 Rv.nd xgT (xkH (lH Z7 X.range (aa ak (aa xzn xeW))) 5 Rv.nd (af (yl Z7 Y.mP Y.xP rfl rfl rfl
    (λ pn σ0 E=>af (xrI Rv.nd (xe1 xan (vX xaz O.cl Fo.m GO hr Fo.b .nil (AA rfl) (xbe (aV (jN (K:=K) rfl) Uf (aP xcr) (aP (xb1 xcr XV))))))))
    (λ e G=>xbU (xAq (cJ (tS (K:=K) rfl (hr.hand xac Z9).units) xan (aV (jN (K:=K) rfl) SZ bQ (aP (xDE (ij (K:=K) rfl) Jh xzS))) xmk) (cJ pW (bz xaz O.cl Ov GV (hr.hand Z9 Z9)) dm xmk)))))) (xAq (cJ (tS (K:=K) rfl hu) xan (aV (jN (K:=K) rfl) SZ bQ (aP (xDE (ij (K:=K) rfl) Jh xzS))) xmk) (cJ pW (xfJ xaz O.cl Ov GV) dm xmk)))) (xfT g ?_)
 intro p dp np Sv W4;have s0:=xkd Cp np Sv;show xlK (xc8 p dp ad (λ H1 hO NA=>xcC xdL)) g;have s1:xou:=λ b o e=>NA b o (s0 b o e) xn3
 have hO:=hO T Rs false L hM hL;show xfx g (xj1 (λ l nl=>xdL)) g;have s2:=xje [];have hl:(xsE) l=Υ []:=ad;have NK:=xdP;show xiU hO (hO.keep λ c o e _=>xbQ e) xsE H2;clear s2 NA s0 Sv W4;show xn1 h3 hM.len sm sz (xy L.length c (by lia) hc Xz (by lia));generalize hn:(L.length-1)/c+1=n at*;refine xfT g ⟨_,rfl,a,_,rfl,Φ (NK _ _ ha),_,rfl,0,_,xk2,n,rfl,by lia,by show xdl sm,by show xdl sz,J6 (by lia),kz (D:=xd5) (lo:=0) (c:=xk2) (n:=n)
  (λ i σ H'=>∃(l':LF) (j:Nat) (N:Ο LF) (v5:xca),σ=[xbA,SC t,SL c,xd3,SC l',v5]/\H' l'=xaf xg1/\xq1 N H' p T Rs false false j (L.drop (c*i))/\UV) ⟨l,0,_,none,rfl,hl,hO,NK⟩ ?_ ?_⟩
 ·rintro i σ H4 hi ⟨l',j,N,v5,rfl,SO,hO4,W0⟩;have e0:xcU+xd0*xk2=M2 (c*i):=by rw [Int.zero_add,Int.mul_comm];rfl
  rw [e0];show xEt dx Q9 hO4;refine⟨_,rfl,rfl,_,rfl,p,dx,_,rfl,Q9,p4 _,_,rfl,_,rfl,_,rfl,_,rfl,_,rfl,_,_,rfl,rfl,_,rfl,a,_,rfl,K'.of (W0 _ _ ha),xxP⟩;have ei:M2 (c*i)+xk2=M2 (c*i+c):=rfl;have ecut:xl5 xpD (M2 (c*i)) (M2 (c*i)+xk2)=Κ (xvi (c*i) c):=by rw [ei,mj _ xdk,Ga,<-Hs,<-G6]
  try dsimp only
  rw [ecut];have s5:=xcQ (xvi (c*i) c) nq;have hq:(xji q (xvi (c*i) c)) q=xaf (xvi (c*i) c):=ad;have Tr:=xam SO;have hO5:=hO4.keep λ c o e _=>xam e
  have Q8:=xam Q9;show xiU sm5 (W0.trans s5) (xji q (xvi (c*i) c)) H5;have er:xvi (c*i) c++L.drop (c*(i+1))=L.drop (c*i):=by rw [Nat.mul_succ,<-Gz,E9]
  have np':∀{c o},χ=IO->xaj:=λ e=>xn3
  refine⟨p,q,_,T,xvi (c*i) c,L.drop (c*(i+1)),Rs,false,j,rfl,er.symm▸hO5,hT,NX,hN,hq,λ x hx=>xoU (Ft xDo),λ l6 j' fn H6 nl6 UI ho6 My hj fr6=>?_,λ _ cx H6 hc6 s6=>?_⟩
  ·obtain rfl:τ fn:=by
    cases fn with
    |false=>rfl
    |true=>
     obtain⟨_,_,_,_,_,_,_,_,_,_,_,_,_,_,op⟩:=ho6;show xab (op.fi rfl).1 EX
   have hl6':=fr6 _ _ Tr (aG Tr Q8 (by show Ε));have e7:xg1++xlT j' (64*j)=xr7 j':=by
    have:xg1=(xr7 j').take (64*j):=by rw [Ly,Fp (GJ 64 hj)]
    rw [this,E9]
   have h7:=xjS e7;rw [Et,EH (i:=64*j')] at h7;refine⟨l',l6,_,_,rfl,rfl,hl6',UI,bF (by rw [Es,Es];exact xhH h7 (xmd _ _ (Ew NX (by decide)))),PP l7 n7⟩;rw [<-EG,e7];have s7:=xcQ (xr7 j') n7;exact⟨l7,j',_,_,rfl,ad,ho6.keep λ c o e _=>s7 _ _ e,λ c o e=>s7 _ _ (fr6 _ _ (sm5 _ _ e) (np' e))⟩
  ·obtain⟨h1,h2,h3,h4,h5⟩:=Y.of R.er hc6;refine⟨cx,rfl,h1,h2,h3,Sc e vx he⟩;have s7:=s6.trans (xIc (xhs (exO (.ref cx) vx) e) he);have hl7:=s7 _ _ Tr;have ht7:=s7 _ _ (sm5 _ _ ht);have hO7:=hO5.keep λ c o e _=>s7 _ _ e
   show xiU sm7 (sm5.trans s7) (xrg H6 (xhs (exO (.ref cx) vx) e)) H7;exact sP hl7 ht7 hO7 λ H' s8=>xdp (sm7.trans s8)
 ·rintro σ H4 ⟨l',j,N,v5,rfl,SO,hO4,W0⟩;exact g _ _ (sP SO (W0 _ _ ht) hO4 λ H' s8=>xdp (W0.trans s8))
abbrev mh:LP:=top 135
structure All (K:Frag)(mg:π)(B D G0 CW C0 C1 C2 C3 c CK Mc CO Cq C G Ce Cp cE cM cH cK cT:LF):Prop where
 Z:Yo K mg B D G0 CW C0 C1 C2 C3 c CK Mc CO Cq
 R:TK K mg B D G0 CW C0 C1 C2 C3 CK Mc CO C G Ce cM cH cK cT
 O:xuJ K Cp
 E:Zn K mg cE cM cH cK cT
 pressed:UF "pressed" kb xHh
 opened:UF "opened" jk Jal
 cell:UF "_law_cell_at" nV xBR
 mixed:UF "_law_mixed" mi xyq
 text:UF "_law_text" wY xEN
 turned:UF "_law_turned" ml xFE
 told:UF "_law_told" qE xFj
 fed:UF "_law_fed" Ct xFw
inductive Ru (K:Frag) (Tb:LF) (vs:LT) (H:Hp) (Q:VK) (LX:XK):Prop
 |mk (a:LF) (ns:xkk) (h0:vs=xbK) (h1:xeV K a xeI) (h2:xfh Tb xyI) (h3:xis a) (h4:xbC (xbf xsy)):Ru K Tb vs H Q LX
abbrev D8:xae:=["_law_script","_law_cell","_law_text_here","_law_whole","_law_bale","_law_places","_law_place","_law_other"]
def NR:P3 D8 xE3 mh:=On
def xC {k n z y:Str}(hx:xyo x ([xzy,xlR k,xlR n,xya z,xya w',xAa y]:xsq) .cell\/xyo x ([xzy,xlR k,xlR n,xya z,xya w',xAa y]:xsq) .free):x=y:=by
 rcases hx with hx|hx
 ·have m':=xt2;simpa using m'
 ·have m':=xt2;simp at m'
def zI {a b c x:Str}{i j k:Nat}(h1: xgb [a,b,c])(h2: Ν [none,none,some k] (some j)):x=c/\j=k:=by
 rcases i with _|_|_|i
 ·cases h2
 ·cases h2
 ·cases h1;cases h2;exact xj0
 ·cases h1
def DP:(["_law_k","_law_number","_law_bale"]:xae).Nodup:=Z8
def A4 (F:Χ "law" "law" mh)(Y:All K mg B D G0 CW C0 C1 C2 C3 c CK Mc CO Cq C G Ce Cp cE cM cH cK cT)(hC:xm8)(Vl:xmD)(hK:xoy):Η 46 xE3 (Ru K Tb):=by
 have X:=Y.Z.Cr.Y.Z.X.R.X;show Ι Pr Y.pressed Op Y.opened;show Ι Ca Y.cell Mi Y.mixed;show Ι Tx Y.text Tu Y.turned;show Ι To Y.told Fe Y.fed;have GC:=yq (P:=P) (w:=w) (base:=base) Ca X;have GM:=qp (P:=P) (w:=w) (base:=base) Mi;have GT:=zV (P:=P) (w:=w) (base:=base) Tx Mi X;have GX:=rq (P:=P) (w:=w) (base:=base) Pr Y.Z hC Vl hK;have GO:=lz (P:=P) (w:=w) (base:=base) Op Y.R Y.O;have GU:=uG (P:=P) (w:=w) (base:=base) Tu X;have GL:=xQ (P:=P) (w:=w) (base:=base) To Op Y.R Y.O Y.E;have GF:=AM (P:=P) (w:=w) (base:=base) Fe Y.R Y.O Y.E;show xaE NR (λ LS A outer st H vs Q E hr h=>?_);obtain⟨a,ns,rfl,hS,VF,haT,k⟩:=h;have Md:xba:=SB;have Qh:xah 31:=SB;have hr43:xah 43:=SB;have hr44:xah 44:=SB;show xw1 hu;refine xgc 1 NR.nd (xcs GM Mi (xhT (xcs GC Ca (xhT Uf)))) (xaQ 2 NR.nd (aD GT Qh Tx (xc6 (xcs GC Ca (xhT Uf)) (xsS (aY (xc6 xDd xDd)) (bM vg Z7 X.int PyProof.Rows.boot_int (xbe (cJ bG (xsM SZ) ak xmk)))))) (xc5 3 NR.nd (cJ bG xDd ak xmk) (xsx (bo xaz) (xuo NR.nd (xw8 XV bQ xDd))) (xc5 4 NR.nd (aD GX hr43 Pr xeW) (xR (N:=["_law_k","_law_number","_law_bale"]) (js:=[none,none,some 4]) (cl:=[("_law_bale",xBf 1)]) (i:=5) (g:=U5 K 2 (NU xhf (NU (cf 1) U6))) NR.nd rfl xbF rfl ⟨rfl,Z8,Z8,Z7,λ x c h=>(by show xbM rfl (eV h);rfl),λ x hx=>?c0,rfl,λ i x j h1 h2=>?c1⟩ (je Z7 X.enum (xbe (xxN Uf ak ak))) (λ fp s H=>xD4 (xob 0 DP (xob 1 DP gQ))) (λ fp s H=>aq bv (xsL (xcs GM Mi (xcl 1 xbj))) (xqV (xDE (ij (K:=K) rfl) Jh xeW))) rfl) (ac (xsx (bo xaz) (xxT 5 NR.nd (vm xlX Z7 X.list Z7 X.range (xbe (xqV xwm)))))
  (xiQ (xkH (bS xcr) 6 NR.nd (xc5 7 NR.nd (xcs GU Tu (xbP 4 6)) (xql (xaK GL To (xeH 7))) (af (xvX (xAs (xm7 bG (xsM xkw)) (xnz (aD GF hr44 Fe (xcl 7 (xtG 2 (xb1 ak (xvP xkw))))))))))) (cJ (rQ hu) (xhd GO hr44 Op.m Op.F.kp Op.b Db xzS) XV xmk))))))
 case c0=>obtain rfl:=xC hx;exact xa4
 case c1=>show xmU (zI h1 h2) (xuA rfl (λ c h=>h))
 have tb0:xhK H:=xaU VF xbF;show xfx g ⟨_,rfl,a,ns,0,rfl,hS,_,_,rfl,Z9,Z9,xdL⟩ g;generalize mixN (ns.getD 0 0) 0=n;refine xfT g ⟨_,rfl,a,ns,1,rfl,hS,_,rfl,_,_,rfl,rfl,xeS,_,_,rfl,rfl,(by show xdG 71),_,rfl,_,_,rfl,rfl,xeS,_,_,rfl,rfl,(by show xdG 201),(by show xgE),xAJ⟩
 obtain⟨sz,hsz,hat⟩:∃sz,sz≤200/\XD [V.int (xai/8%71),V.int (xai/8%201)] (xbZ (xCJ (xai%8) 1) 1 0)=SL sz:=by
  cases xCJ (xai%8) 1
  ·exact xee (n/8%71) (by lia)
  ·exact xee (n/8%201) (by lia)
 have s1:=xaR [V.int (xcG/8%71),V.int (xcG/8%201)] n1;show xlK ⟨_,rfl,_,_,rfl,rfl,(by show xdG 8),rfl,.inr ⟨_,rfl,l1,_,_,vN sz,rfl,rfl,xCH,hat,_,sz,rfl,by lia,λ lt T H2 s2 _ LU hTl OE=>xdL⟩⟩ g;have s2:=xdP;clear s1 hat n1;show xfx g ⟨_,rfl,_,_,rfl,rfl,xeS,_,_,rfl,rfl,(by show xdG 4),rfl,xdL⟩ g;generalize xCJ (xai/3000%4) 1=wh;show TD (xnn R3 g) ((λ(J:∀(lt:LF) (T:List Nat) (H3:Hp),H3 lt=some (.lst (T.map vN))->T.length≤200->(∀b∈T,b<256)->C' H H3->R3 [some (.ref a),some (vN n),some (.ref lt),some (.bl wh),none,none,none,none] H3)=>?_) (λ lt T H3 LU hTl OE s3=>xdL))
 ·cases wh with
  |false=>exact xby _ rfl _ (bi (J lt T H2 LU (hTl.symm▸hsz) OE s2))
  |true=>
   refine xby _ rfl _ (cU ⟨_,rfl,_,rfl,_,_,rfl,rfl,xeS,_,_,rfl,rfl,(by show xdG 3),_,rfl,lt,_,rfl,K'.of LU,xxP⟩);have e:xuV xnm none (xcG/12000%3)=Κ (T.take (n/12000%3)):=by
    rw [xcd (xcG/12000%3) (M2 (n/12000%3)),dU,G6]
   try dsimp only
   show xdM (J q _ _ ad (by show xni (xmd _ _ (hTl.symm▸hsz))) (xaw (OE b (Fg hb))) (s2.trans (am nq)))
 clear g;have NX:xl9:=Ew hTl (by decide);have tb3:=tb0.same s3;have nlt:=tb3.ne LU (by intro ps z;cases z);show xfx g ⟨_,rfl,lt,T,rfl,LU,OE,NX,tb3,λ lw Z H4 _ hW YW fr tb4=>xdL⟩ g;obtain⟨Rs,hN,eZ⟩:=hW.all;have eZ:Z=xmp:=eZ;show xqz hZb hZl (on hN OE NX) hMf (Ms.fine hN);have hMt:∀{p},p<xDB 8->xCT (trn Z p)/\xeC (trn Z p)/\xbg (trn Z p) 1900:=λ h=>by
  show xjl eZ h (Bb hN OE NX (IJ h))
 rw [<-eZ] at hZb hZl hMf;have hZ3:=hMf.len;have hlt4:=xrH _ nlt LU;have keep:∀{H4 H5},K' K H4 a xeI->(∀c o,H4 c=IO->xcp Tb->H5 c=IO)->K' K H5 a xeI:=λ h s=>by
  rcases h with(e|⟨o,e⟩)|h
  ·show xDJ (xci e haT)
  ·show xaT (xcz o (xci e haT))
  ·show xbB h
 have hS4:=keep (s3.seq hS) λ c o e n=>fr c o n e
 clear eZ;show TD (xnn R5 g) ((λ(J:∀(lp:LF) (P:List Nat) (H6:Hp),H6 lp=some (.lst (P.map vN))->(∀p∈P,p<8*Z.length)->C' H4 H6->R5 [some (.ref a),some (vN n),some (.ref lt),some (.bl wh),some (.ref lw),some (.ref lp),none,none] H6)=>?_) (λ lp P H6 W6 hP s6=>xdL))
 ·refine⟨_,rfl,_,rfl,_,rfl,a,_,rfl,hS4,xAJ⟩;have e:xl5 xeI 2 12=xvU (xyh 2 10):=by
   rw [xcd (Ty 2) (M2 2),xcd (Ty 12) (M2 12),mj _ (by decide),<-Hs,<-G6]
  try dsimp only
  rw [e];have s5:=xaR (xvU (xyh 2 10)) n1;have h5:(xqd l1 (xvU (xyh 2 10))) l1=Υ (xvU (xyh 2 10)):=ad;show xcF hms (xbg (xyh 2 10) 10) (by show xni xhk) (xyh 2 10) ms;show xas (xqd l1 xyj) H5 (xfQ l1 (K'.of h5) xe7);refine wq (K:=K) (a:=l1) (l:=l) (xs:=xyj) (g:=U5 K 2 (NU xhf (NU (cf 1) U6)))
   (λ i ys σ H'=>∃(v0 v1:xca) (P:Id),σ=[v0,v1,SC lw]/\ys=P.map vN/\P.length=i/\(xds p P p (xDB 8))/\xap=xdf/\C' H5 H')
   ⟨none,none,[],rfl,rfl,rfl,nofun,ad,xgd⟩ (λ i ys σ H' _ z9=>by obtain⟨_,_,_,_,_,_,_,_,s⟩:=z9;exact K'.of (xci h5)) ?_ ?_ ?_ ?_
  ·rintro i x ys σ H' p hx ⟨v0,v1,P,rfl,rfl,UQ,hP,SO,sm⟩ hp;obtain⟨m,hm,rfl⟩:∃m,Ν ms m/\x=V.int m:=by
    rw [Fq] at hx;cases e:ms[i]? with
    |none=>show xeG hx hx
    |some m=>show WF e hx (xd9 m (xzi hx))
   have Nf:=xbX hm;have sp:=xhz [xn2,.int m] hp;have W6:=sp _ _ SO;have Vx:xc3 ((xcn H' p [xn2,.int m]) p) [xn2,.int m]:=ad;have sm:=sm.trans sp;show xas (xcn H' p [xn2,.int m]) H6 ⟨p,_,rfl,MD.of Vx,rfl,_,_,rfl,_,_,rfl,rfl,?_⟩;refine⟨_,rfl,_,rfl,m,xf7,rfl,xe4,by lia,_,_,rfl,rfl,xeS,_,rfl,lw,_,rfl,Φ (xep (xam YW)),_,_,rfl,rfl,xwv,_,_,rfl,rfl,?_,?_⟩
   ·rw [Es];show xcU<8*Ty Z.length;lia
   try dsimp only
   show ST (show M2 (mixN m xf7)/7%(8*xlW (Z.map vN))=M2 (mixN m xf7/7%(xDB 8)) by show Τ Es) ⟨W6,bC (by show xcY),_,_,P++[_],rfl,by show Τ EG,by rw [Et,UQ];rfl,PP q hq,ad,λ d o e=>by show xlr xqq⟩;show xcv (xA6 hq)
   ·exact hP q z
   ·show LE (List.mem_singleton.1 z) (xwC (by lia))
  ·rintro ys σ H6 ⟨v0,v1,P,rfl,rfl,_,hP,UI,s6⟩;exact J l P H6 UI hP xJ7
  ·rintro x σ H3 A' B' hAB ⟨a',xs,e,hq,SO,v,r,e2,v2,r2,e3,e4,h⟩;exact⟨a',xs,e,hq,SO,v,r,e2,v2,r2,e3,e4,hAB _ _ h⟩
  ·rintro σ H A B h ⟨v,e1,v2,e2,c',k',e5,e6,e7,i,j,f1,f2,f3,w1,e8,pp,ys,e9,e10,i2,j2,f4,f5,f9,i3,j3,f6,f7,f8,z⟩;exact⟨v,e1,v2,e2,c',k',e5,e6,e7,i,j,f1,f2,f3,w1,e8,pp,ys,e9,e10,i2,j2,f4,f5,f9,i3,j3,f6,f7,f8,xih⟩
 clear g;show TD (xnn R6 g) ((λ(J:∀(lp:LF) (P:List Nat) (H6:Hp),H6 lp=some (.lst (P.map vN))->(∀p∈P,p<8*Z.length)->C' H4 H6->R6 [some (.ref a),some (vN n),some (.ref lt),some (.bl wh),some (.ref lw),some (.ref lp),none,none] H6)=>?_) (λ lp P H6 W6 hP s6=>xdL))
 ·cases wh with
  |false=>exact xby _ rfl _ (bi (J lp P H6 W6 hP s6))
  |true=>
   refine xby _ rfl _ (cU ⟨_,rfl,lw,_,rfl,Φ (xd6 YW),_,_,rfl,rfl,xwv,xDB 8,?_,by lia,xxP⟩)
   ·show Τ Es
   ·refine J q (List.range (xDB 8)) _ (by rw [ad]) (λ p hp=>List.mem_range.1 hp) (s6.trans (am nq))
 clear g;refine xfT g (xfR lp (xhx W6) (xoD xd5 K lp (P.map vN) (λ i σ H'=>∃v6 v7:xca,σ=[xbA,xo9,SC lt,some (.bl wh),SC lw,SC lp,v6,v7]/\C' H6 H') (xef none none xKF) (λ i σ H' _ z9=>by show xpL s z9 (K'.of (xci W6))) ?_ ?_))
 ·rintro i x σ H7 hi ⟨v6,v7,rfl,s7⟩;show xdt p hp (cD hi);have hp:=hP p (FG hp);have s47:=xFp;show xjM hM (hMt hp) ⟨_,rfl,_,rfl,lw,Z,p,rfl,s47 _ _ YW,IJ hp,λ lo H8 YK s8 O5=>?_⟩ ⟨_,rfl,lo,T,_,Rs,rfl,OE,NX,hN,hM,O5,λ H9 s9=>xa9 xhY⟩;show xjM s79 (s8.trans s9) ⟨_,rfl,_,_,rfl,rfl,(by show xdG 4),rfl,_,rfl,aU xb8 (λ _=>bi (xef _ _ (s7.trans s79)))⟩ ⟨_,rfl,_,rfl,_,rfl,_,_,rfl,rfl,xeS,_,_,rfl,rfl,(by show xdG 40),_,_,rfl,rfl,?_⟩
  try dsimp only
  refine⟨lo,lt,T,_,1+p/4%40,Rs,rfl,OE,NX,hN,hM,s9 _ _ O5,s79 _ _ (s47 _ _ hlt4),xdk,by lia,λ H10 s10=>xa9 (bi (xef _ _ (s7.trans (s79.trans s10))))⟩
 ·rintro σ H7 ⟨v6,v7,rfl,s7⟩;have s47:=xFp;refine g _ _ ⟨_,rfl,lw,T,Z,Rs,true,rfl,OE,NX,hN,hMf,hZl,hZb,s47 _ _ YW,λ _ l8 H8 _ hl8 s8=>?_,nofun⟩;have ht8:=s8 _ _ (s47 _ _ hlt4);rw [jv] at hl8 ht8;show xg6 ⟨_,rfl,l8,lt,_,_,rfl,rfl,K'.of hl8,K'.of ht8,?_⟩ xnX (k H8)
universe K33.Ck
namespace K33.Ck
open PySem L2 QQ
section
variable {K:Frag}{mg:π}{h:LM}
def MY.i {x qu:Str}{st:LP}{f:LF}{oc dV:LG}{od an:xhy}{sl:xnU}{kV dc pm cd ct:LG}(l:xkZ f oc od (xtq x qu cd) sl)(c:xj8 K cd qu)(k:xii):xk7 x qu st dV f (xtq x qu cd):=⟨⟨oc,od,kV,dc,pm,an,cd,ct,sl,rfl,l,c⟩,k⟩
def Rt.i {x qu:Str}{st:LP}{f cd:LF}{oc dV:LG}{od an:xhy}{sl:xnU}{kV dc pm ct:LG}(l:xkZ f oc od (xtq x qu xvS) sl)(c:xj8 K xvS qu)(k:xii):Rt K x qu st dV cd f (xtq x qu xvS):=⟨⟨oc,od,kV,dc,pm,an,ct,sl,rfl,l,c⟩,k⟩
def tabI {x:Str}{d:LF}{p q:Int}{t1 t2 t3 t4:Tok}{ep:Nat}(X:xqu)(G:xt8)(a:NE (xyf K x) xmP)(l:xAR d ⟨xFc,none,.dict #[⟨8,.int 8 t1,.int p t2⟩,⟨16,.int 16 t3,.int q t4⟩] ep,#[]⟩)(s:τ (xpQ d)):∃d,mg x=xmP/\S2 K d p q:=⟨d,IY X G a,s,t1,t2,t3,t4,ep,l⟩
def markI {x:Str}{d:LF}{t1 t2 t3:Tok}{od:xhy}{n:Nat}{sl:xnU}(X:xqu)(G:xt8)(a:NE (xyf K x) xmP)(l:xAR d ⟨xBl,od,.seq #[.int 184 t1,.int 66 t2,xqn t3] n,sl⟩):∃d,mg x=xmP/\∀H,xna d [xAb,vN 66,vN 1]:=⟨d,IY X G a,λ _=>.inr ⟨_,_,_,l,rfl,rfl,(by show xdy 3),.cons xa4 (.cons xa4 (xlU xa4))⟩⟩
def nI {x:Str}{n:Int}{t:Tok}(X:xqu)(G:xt8)(a:NE (xyf K x) (some (xbq n))):xcK x n:=⟨t,IY X G a⟩
section
variable {x qu:Str}{st:LP}{ps:xae}{f C:LF}{oc dV:LG}{od an:xhy}{sl:xnU}{kV dc pm cd ct:LG}(l9:xkZ f oc od (xtq x qu cd) sl)(c9:xj8 K cd qu)(k9:xii)
include l9 c9 k9
def inI (e:dV=.none)(b:xqJ x qu cd ps [])(m:xvD K C)(a:xvH K Γ xdB)(i:xzj K xbN)(q:xpB K Γ):∃f fd,Χ x qu st/\xoA/\xjL C:=by
 subst e;exact xdE _ (fun_mk l9 c9 k9) b ⟨m,a,i,q⟩
def ciI (b:xqJ x qu cd ps [])(m:xvD K C)(a:xvH K Γ xdB)(i:xzj K xbN)(q:xpB K Γ):∃f fd dV,xk7 x qu st dV f fd/\xoA/\xjL C:=⟨_,_,_,xDq c9 k9,b,⟨m,a,i,q⟩⟩
def cdI {n:Int}{t:Tok}(d:xqJ x qu cd ps [xbq n])(m:xvD K C)(a:xvH K Γ xdB)(i:xzj K xbN)(q:xpB K Γ):∃f fd t,(∃dV,xk7 x qu st dV f fd)/\xzk [xbq n]/\xjL C:=⟨_,_,_,xa1 (xDq c9 k9),d,⟨m,a,i,q⟩⟩
universe s
section
variable {x:Str}{st:LP}{ps:xae}{f:LF}{oc dV:LG}{od an:xhy}{sl:xnU}{kV dc pm cd ct:LG}(X:xqu)(G:xt8)(a:NE (xyf K x) xdB)(l9:xkZ f oc od (xtq x x cd) sl)(c9:xj8 K cd x)(k9:xii)(b:xqJ x x cd ps [])
include X G a l9 c9 k9 b
def fdI (d:xqJ x x cd ps xDn):∃f fd,Zm K mg x st ps f fd:=⟨_,_,xa1 (xDq c9 k9),IY X G a,b,d⟩
def flI {t:Tok}(d:xqJ x x cd ps [xbq 6]):∃f fd,K33.S.FnL K mg x st ps f fd:=⟨_,_,xa1 (xDq c9 k9),IY X G a,b,_,d⟩
def fkI {t:Tok}(d:xqJ x x cd ps [xbq 16]):∃f fd,FnK K mg x st ps f fd:=⟨_,_,xa1 (xDq c9 k9),IY X G a,b,_,d⟩
universe s
def fcI {x:Str}{st:LP}{ps:xae}{f cd:LF}{oc dV:LG}{od an:xhy}{sl:xnU}{kV dc pm ct:LG}(X:xqu)(G:xt8)(a:NE (xyf K x) xdB)(l:xkZ f oc od (xtq x x xvS) sl)(c:xj8 K xvS x)(k:xii)(b:xqJ x x xvS ps [])(d:xqJ x x xvS ps xDn):∃f fd dV,Rt K x x st dV cd f fd/\mg x=xdB/\xoA/\xzk xDn:=⟨_,_,_,Rt.i l c k,IY X G a,b,d⟩
def m0 {P:Ο xaI}(h:P []):∀us:xaI,xwk 0->P us:=λ us hl=>by
 cases us with
 |nil=>exact h
 |cons a us=>cases hl
def mS {n:Nat}{P:Ο xaI}(h:∀a (us:xaI),xwk n->P (a::us)):∀us:xaI,xwk (n+1)->P us:=λ us hl=>by
 cases us with
 |nil=>cases hl
 |cons a us=>exact h a us (Nat.succ.inj hl)
def e1 {us:xaI}(h:xwk 1):∃a,us=xcj:=mS (P:=λ us=>∃a,us=xcj) (λ a=>m0 (xck a)) us h
def e2 {us:xaI}(h:xwk 2):∃a b,us=[a,b]:=mS (P:=λ us=>∃a b,us=[a,b]) (λ a=>mS λ b=>m0 (xee a b)) us h
def b2 {fd:LK}{p q:Str}(h:∀(s:LH) (a b:LG),xlQ->xw6 s [a,b] [(p,a),(q,b)]):xmM [p,q]:=λ s us hX hl=>by
 show xay a b rfl (e2 (show xwk 2 by simpa using hl)) (h s a b hX)
def b1 {fd:LK}{p q:Str}{v:LG}(h:∀(s:LH) (a:LG),xlQ->xw6 s xcj [(p,a),(q,v)]):xuO K [p,q] [v]:=λ s us hX hl=>by
 show xf1 a (e1 (show xwk 1 by simpa using hl)) (h s a hX)
universe s
def hd {l:PySem.W.OpenLaw}{w:LJ}{K:Frag}{h:LM}{mg:π}{fa f B C0 C1 C2 C3 c CK Mc cO cQ cA cG cE cV cX cM cH cK cT Tb:LF}{od an:xhy}{sl:xnU}{oc kV dc pm cd ct:LG}(hKT:xoy)(X:xqu)(G:xt8)(hfa:mg "law"=SC fa)
  (a:NE (xyf K "law") xdB) (lk:xkZ f oc od (fnOf "law" "law" (aZ mh) (aS mh) (aj mh) .none kV dc pm an cd ct) sl) (cc:xj8 K cd "law") (kk:xii) (R0':xie) (R1':xie->xyM mg) (R2':xyM mg->K33.X2 K mg) (R3':K33.X2 K mg->K33.Wys K mg) (R4':K33.CB K mg B) (R5':xyM mg->K33.CB K mg B->K33.Yr K mg B) (R6':xie->K33.Shs K mg) (R7':xie->xLf mg) (R8':xie->xLf mg->xKy mg 0) (R9':xKy mg 0->K33.Cds K mg 0 0) (R10':K33.Wys K mg->K33.Yr K mg B->K33.Shs K mg->K33.Cds K mg 0 0->K33.Yn K mg B 0 0) (R11':xsQ K C0 0) (R12':xsQ K C0 0->K33.Raw K mg C0 0) (R13':xsQ K C1 0) (R14':xsQ K C1 0->K33.Run K mg C1 0) (R15':xsQ K C2 0) (R16':xsQ K C2 0->K33.Cpy K mg C2 0) (R17':xsQ K C3 0) (R18':xsQ K C3 0->K33.Shr K mg C3 0) (R19':K33.Yn K mg B 0 0->K33.Raw K mg C0 0->K33.Run K mg C1 0->K33.Cpy K mg C2 0->K33.Shr K mg C3 0->K33.VJ K mg B 0 0 0 C0 C1 C2 C3) (R20':xyM mg->K33.Ck.Txt K mg) (R21':K33.Ck.CC K mg CK) (R22':K33.Ck.Txt K mg->K33.Ck.CC K mg CK->K33.Ck.Chk K mg CK) (R23':K33.Ck.Chk K mg CK->xFS mg CK) (R24':xKG mg Mc) (R25':K33.VJ K mg B 0 0 0 C0 C1 C2 C3->xFS mg CK->xKG mg Mc->K33.Ck.Bks K mg B 0 0 0 C0 C1 C2 C3 c CK Mc) (R26':xFS mg CK->xKH mg CK cO) (R27':K33.Ck.CP K mg cQ) (R28':K33.Ck.Bks K mg B 0 0 0 C0 C1 C2 C3 c CK Mc->xKH mg CK cO->K33.Ck.CP K mg cQ->K33.Ck.Yo K mg B 0 0 0 C0 C1 C2 C3 c CK Mc cO cQ) (R29':K33.Ck.Xf K mg cM cH cK cT) (R30':xFS mg CK->xKG mg Mc->xyM mg->xKI mg CK Mc) (R31':xKI mg CK Mc->xKH mg CK cO->K33.Ck.Yp K mg CK Mc cO) (R32':K33.XG K mg cA) (R33':xyM mg->K33.XG K mg cA->K33.Ck.VM K mg cA) (R34':xie->K33.Ck.Rds K mg) (R35':K33.C.CRc K mg cG) (R36':xie->xLf mg->K33.C.CRc K mg cG->xKD mg cG) (R37':K33.Ck.VM K mg cA->K33.Ck.Rds K mg->xKD mg cG->K33.Ck.Zg K mg cA cG) (R38':K33.Ck.Zg K mg cA cG->K33.Ck.U8 K mg cA cG C0 C1 C2 C3) (R39':xKI mg CK Mc->K33.Ck.U8 K mg cA cG C0 C1 C2 C3->K33.Ck.Tbk K mg CK Mc cA cG C0 C1 C2 C3) (R40':K33.Ck.CRe K mg cE) (R41':K33.Ck.Xf K mg cM cH cK cT->K33.Ck.Yp K mg CK Mc cO->K33.Ck.Tbk K mg CK Mc cA cG C0 C1 C2 C3->K33.VJ K mg B 0 0 0 C0 C1 C2 C3->K33.Ck.CRe K mg cE->K33.Ck.TK K mg B 0 0 0 C0 C1 C2 C3 CK Mc cO cA cG cE cM cH cK cT) (R42':K33.Ck.Xg K mg cV) (R43':K33.Ck.Zn K mg cX cM cH cK cT) (R44':K33.Ck.Yo K mg B 0 0 0 C0 C1 C2 C3 c CK Mc cO cQ->K33.Ck.TK K mg B 0 0 0 C0 C1 C2 C3 CK Mc cO cA cG cE cM cH cK cT->K33.Ck.Xg K mg cV->K33.Ck.Zn K mg cX cM cH cK cT->K33.Ck.All K mg B 0 0 0 C0 C1 C2 C3 c CK Mc cO cQ cA cG cE cV cX cM cH cK cT):
  ∃fd:LK,(∀(s:LH) (v:LG),xw6 s [v] [("_law_script",v)])/\∀base:LM,K.In base->xA4 mg->xm8->xmD->xfe l.prog w K LZ 46 fa fd xE3 (Ru K Tb):=by
 have e:=hfa.symm.trans (IY X G a);cases e;have R0:=R0';have R1:=R1' R0;have R2:=R2' R1;have R3:=R3' R2;have R4:=R4';have R5:=R5' R1 R4;have R6:=R6' R0;have R7:=R7' R0;have R8:=R8' R0 R7;have R9:=R9' R8;have R10:=R10' R3 R5 R6 R9;have R11:=R11';have R12:=R12' R11;have R13:=R13';have R14:=R14' R13;have R15:=R15';have R16:=R16' R15;have R17:=R17';have R18:=R18' R17;have R19:=R19' R10 R12 R14 R16 R18;have R20:=R20' R1;have R21:=R21';have R22:=R22' R20 R21;have R23:=R23' R22;have R24:=R24';have R25:=R25' R19 R23 R24;have R26:=R26' R23;have R27:=R27';have R28:=R28' R25 R26 R27;have R29:=R29';have R30:=R30' R23 R24 R1;have R31:=R31' R30 R26;have R32:=R32';have R33:=R33' R1 R32;have R34:=R34' R0;have R35:=R35';have R36:=R36' R0 R7 R35;have R37:=R37' R33 R34 R36;have R38:=R38' R37;have R39:=R39' R30 R38;have R40:=R40';have R41:=R41' R29 R31 R39 R19 R40;have R42:=R42';have R43:=R43';have R44:=R44' R28 R41 R42 R43;exact⟨fnOf "law" "law" (aZ mh) (aS mh) (aj mh) .none kV dc pm an cd ct,λ s v=>.of_eq rfl,λ base _ _ hC hB=>A4 (fun_mk (st:=mh) lk cc kk) R44 hC hB hKT⟩
def walk {l:PySem.W.OpenLaw}{q:LI}{loose:xae}{XP:(π)->Ο LM}{YP:LJ->Ο LM}{d:DefRec}{K:Params->Frag}{Tb c:LF}(hn:xH4 63)(hdf:xJr [])
  (hY:∀(w:LJ) (h:LM),YP w h->xAe h/\xdO Tb (PySem.W.tabObj #[])) (hKT:∀w:LJ,xlP xnt Tb)
  (F:∀(w:LJ) (mg:π) (fa:LF) (h:LM),xAe h->xt8->mg d.name=SC fa->
   ∃fd:LK,(∀(s:LH) (u:LG),xw6 s [u] [("_law_script",u)])/\∀base:LM,xAe base->xA4 mg->xm8->xmD->xfe l.prog w xnt LZ 46 fa fd xE3 (Ru xnt Tb))
  (hC:∀w:LJ,Pi (PySem.W.codeHdIn xnt c Tb)):
  PySem.W.WalkO q loose XP YP l.row.toRowW d [] (λ f vs=>xJ0 vs):=
 L2.WU (n:=63) (k:=46) (x:="_law_script") (sp:=λ w=>Ru xnt Tb) hn (by decide) hdf ⟨xf2,by decide,by decide,rfl⟩ hY hC hKT F λ _ H a ns hl hS hT na=>⟨a,ns,rfl,hS,hT,na,xf2⟩
universe K33.Ck
end
end
open PySem PySem.W PyProof.Rows
namespace PySem.W.Fast
def tw8899599128923259936:=True
def tw7191744375101981760:=True
def tw9713416872852133984:=True
def tw8901312582454202464:=True
def tw14112782494652892288:=True
def tw1402633973373868160:=True
def tw3687168610516041888:=True
def tw11004770486142225568:=True
def tw11576680761937392832:=True
def tw5251116893555041504:=True
def tw9951733463570204928:=True
def tw12709937872723340544:=True
def tw11834434776269228352:=True
def tw760411144503958848:=True
def tw12171367618106898752:=True
def tw2914951563863454048:=True
def tw3149526643920367968:=True
def tw17744486322627543424:=True
def tw17427112572718852480:=True
def tw9558576014529573280:=True
def tw13000750322858260896:=True
def tw4332603548232844736:=True
def tw12660058334251821504:=True
def tw828875528916785600:=True
def tw16057000918232895968:=True
def tw6335364587679915488:=True
def tw8238363537581531616:=True
def tw17737700272555730432:=True
def tw10018599757555703360:=True
def tw16659274801000013376:=True
def tw9472919247638232640:=True
def tw1487204939973564000:=True
def tw8191947869679270496:=True
def tw2358138444545357440:=True
def tw10241386981078712992:=True
def tw7329908086801281728:=True
def tw9916372130994876128:=True
def tw7489131258396354304:=True
def tw2825639751358925600:=True
def tw2387405892531999584:=True
def tw4482255353964602240:=True
def tw9555484260223180672:=True
def tw4991851433169221504:=True
def tw694527306523779008:=True
def tw5026145913246171072:=True
def tw7455030431995122624:=True
def tw13400907675392085984:=True
def tw14136519503972700193:=True
def tw273079413637809249:=True
def tw18138201180062119009:=True
def tw3035903978308319393:=True
def tw17536206545782904001:=True
def tw3932989866877925569:=True
def tw9806774192703315201:=True
def tw1917422175158524161:=True
def tw4979301684083669281:=True
def tw5198442049773322529:=True
def tw17534772182056870209:=True
def tw18106173198882751809:=True
def tw6739639051727062337:=True
def tw4552871138221853025:=True
def tw18243165532622207329:=True
def tw14102728322420784481:=True
def tw16225021438792180129:=True
def tw11005065931367504289:=True
def tw17770085844477544897:=True
def tw14580387693975725505:=True
def tw14172788112704632257:=True
def tw5362351784023267809:=True
def tw10179366756054058465:=True
def tw2715451609372684769:=True
def tw17621612005691431425:=True
def tw17691207607383273985:=True
def tw18401084124066431489:=True
def tw14912627889665110529:=True
def tw13125212249079944737:=True
def tw14904946331025910369:=True
def tw7206780143838059105:=True
def tw4818458564039324289:=True
def tw5773541002214470273:=True
def tw4371905221593838273:=True
def tw13779494076163012289:=True
def tw6487181969075418817:=True
def tw12831155504833030945:=True
def tw6258550587919931233:=True
def tw9144564784055069537:=True
def tw1875302097726891937:=True
def tw2256358218346099617:=True
def tw15355465962862286850:=True
def tw8849350290066351138:=True
def tw8440052322595583010:=True
def tw5548775439211067458:=True
def tw7148920603826068610:=True
def tw7633044781490612354:=True
def tw9913586329333278850:=True
def tw2196990686071976066:=True
def tw4473336865922532514:=True
def tw9127662564827803842:=True
def tw3653074246347396322:=True
def tw11758315472273852674:=True
def tw16315972627646857506:=True
def tw11919742875265987874:=True
def tw9022907234245756226:=True
def tw11186787553986864450:=True
def tw16595860555378605410:=True
def tw115471683814815106:=True
def tw11260102111933333954:=True
def tw14619072993698773442:=True
def tw8531479565931789794:=True
def tw14418350581003567586:=True
def tw10147766755044404738:=True
def tw16342714877285446178:=True
def tw842910397053692450:=True
def tw10321111153229756962:=True
def tw872187582655614530:=True
def tw10500130439746839106:=True
def tw11883528360013259330:=True
def tw2592451127076973122:=True
def tw9120525016913670722:=True
def tw7956472946030453378:=True
def tw806602536090294914:=True
def tw3871409189171104418:=True
def tw15889497857100852898:=True
def tw6543064091259043490:=True
def tw17176043887692850882:=True
def tw1850065682095394594:=True
def tw14419598918291675938:=True
def tw9744537323303183170:=True
def tw8444532255994920770:=True
def tw16958470526340820802:=True
def tw9551989823537183554:=True
def tw2819536133792708482:=True
def tw8116485687979436930:=True
def tw5906568761140219810:=True
def tw874040081989495714:=True
def tw1426490357982414818:=True
def tw2600762651787999235:=True
def tw17514943580153379843:=True
def tw12737211728394124323:=True
def tw10431708471009957955:=True
def tw17400308911169248355:=True
def tw5115091808531662947:=True
def tw577937555836880995:=True
def tw8421598282004616291:=True
def tw6664775405144773763:=True
def tw2819487818557761667:=True
def tw11235344933818316931:=True
def tw845795775547734179:=True
def tw5248866207763964099:=True
def tw16092554207743429827:=True
def tw12769967231905033411:=True
def tw15963778152098016483:=True
def tw8820084325300326627:=True
def tw10577982254324631811:=True
def tw17176477439071681795:=True
def tw13701023383912899875:=True
def tw11986238404639291715:=True
def tw9892008010675386723:=True
def tw10305077765250412003:=True
def tw17554791989922912771:=True
def tw6451279300697457187:=True
def tw12495667198052798019:=True
def tw17395047038650558019:=True
def tw2926119754866002531:=True
def tw9505620947872497283:=True
def tw12476305132302911107:=True
def tw17161723237059990179:=True
def tw865231201850803875:=True
def tw4545047983625780963:=True
def tw18175220182461582083:=True
def tw4113992779089102627:=True
def tw149674958934731619:=True
def tw6273546484971076451:=True
def tw16919066394803525507:=True
def tw18301814280144444291:=True
def tw14620876812335071139:=True
def tw9270273993487222723:=True
def tw9811201348298451907:=True
def tw127171583202886627:=True
def tw7941602939395744739:=True
def tw900998431645246500:=True
def tw16818863787532354628:=True
def tw1684222695011260516:=True
def tw107636507316008036:=True
def tw17809963977234488516:=True
def tw946775895536554180:=True
def tw7623467720299749604:=True
def tw17284618041872291076:=True
def tw15313488986675228932:=True
def tw1822288521561597188:=True
def tw13136176267926727940:=True
def tw846569994313809188:=True
def tw6694272624411880772:=True
def tw17675611020684810564:=True
def tw6720040103599566180:=True
def tw13695789619475651972:=True
def tw5080155890461460868:=True
def tw5817613477336364452:=True
def tw8368804076958189028:=True
def tw15518269409687613956:=True
def tw16095566943938475524:=True
def tw3531472893562566180:=True
def tw3140323406230180388:=True
def tw4079676261249143332:=True
def tw13338470059445530180:=True
def tw9305105760226360932:=True
def tw15189907370149593700:=True
def tw995541940082177636:=True
def tw4837718398264327812:=True
def tw4622528019981991588:=True
def tw2306920388872474404:=True
def tw2011358010515979076:=True
def tw5143547375449550692:=True
def tw381636202469286756:=True
def tw1756652651811955556:=True
def tw4256891772225640356:=True
def tw2959793864557648868:=True
def tw309001826739951621:=True
def tw17297758935919565829:=True
def tw14177151259070515269:=True
def tw11532823257681815621:=True
def tw2023974193582830693:=True
def tw8573645596311487621:=True
def tw12207860499531666597:=True
def tw8066533871889455269:=True
def tw3443945202582723749:=True
def tw1728974455028397221:=True
def tw4140711777080497317:=True
def tw217652985277318341:=True
def tw12937171990312934597:=True
def tw1181267259099631877:=True
def tw2364274607160883493:=True
def tw11559222777659073957:=True
def tw15939396089893129669:=True
def tw14603218293787341253:=True
def tw14343043984122566117:=True
def tw2239586148028352005:=True
def tw4335463509217749509:=True
def tw13772905763931130405:=True
def tw3111022920117729829:=True
def tw9528738235706821157:=True
def tw2154915377485418053:=True
def tw4806720873343586917:=True
def tw12074526031736540805:=True
def tw5839919597176769157:=True
def tw5601535951522159269:=True
def tw14538183957645730533:=True
def tw13800292381336284901:=True
def tw4205067701797043941:=True
def tw12756297744673237733:=True
def tw16477154847521835781:=True
def tw16215567642207528709:=True
def tw4932211334653716229:=True
def tw15039711017633470277:=True
def tw15901196612995638085:=True
def tw17701629498835578725:=True
def tw13616267309173331813:=True
def tw15331241725269802853:=True
def tw17166177485347129221:=True
def tw15016546034164650885:=True
def tw11163962753665013669:=True
def tw11349893705335674821:=True
def tw5550583796712002501:=True
def tw15533650213571910629:=True
def tw15374415536608555046:=True
def tw1194283346934715430:=True
def tw18439689012486705286:=True
def tw15066356828459287686:=True
def tw18241693718818450566:=True
def tw13763244770926078118:=True
def tw2594836714373956838:=True
def tw11075186551281495302:=True
def tw17947425026845432070:=True
def tw14319328393149275398:=True
def tw14487555314805293350:=True
def tw4966418207026404678:=True
def tw16822154095589125446:=True
def tw7750507216754800966:=True
def tw14861753441776817510:=True
def tw3165942112560047462:=True
def tw15602428359495413094:=True
def tw8280244388814941606:=True
def tw12173155788529791398:=True
def tw5751056252242001350:=True
def tw5814476205031038502:=True
def tw16542558698885017126:=True
def tw5386257221044936262:=True
def tw7490390471633956422:=True
def tw13602336737295006278:=True
def tw885189512156973670:=True
def tw5101685650925646438:=True
def tw8573645320268360326:=True
def tw8948911304223501958:=True
def tw17318975096930498182:=True
def tw18394670808819634854:=True
def tw2840178705448412902:=True
def tw13156499269162460998:=True
def tw5492015257453990790:=True
def tw6585928855936200582:=True
def tw4350157751089532838:=True
def tw12448631007298859942:=True
def tw1517346624616220582:=True
def tw16238015254229821382:=True
def tw12780173600643062791:=True
def tw10725097452770497575:=True
def tw6061008420204723239:=True
def tw13688669731743121447:=True
def tw1827082293184027687:=True
def tw2440447367943775271:=True
def tw16333322925426075719:=True
def tw8829169381674967143:=True
def tw3451074269173674087:=True
def tw5947392318013533319:=True
def tw9178725007547857063:=True
def tw4493427574332566727:=True
def tw5961612582019350727:=True
def tw5692717766795826439:=True
def tw3091212181963849991:=True
def tw9387658088020007175:=True
def tw10548338769361526023:=True
def tw3319180806261180743:=True
def tw7035494122221285703:=True
def tw9482843018384460103:=True
def tw17922414414569720135:=True
def tw1097878560158994759:=True
def tw16806434594833598887:=True
def tw11508673775258737063:=True
def tw9805081747275854247:=True
def tw17940249393355248039:=True
def tw10604799033498003879:=True
def tw1154903253024076199:=True
def tw12020266217890674087:=True
def tw4004538506146004423:=True
def tw17675447642843535847:=True
def tw14457515932957681159:=True
def tw5649234846483590663:=True
def tw1100676545266202119:=True
def tw10256634526835022375:=True
def tw1145137718208948775:=True
def tw18022247012238521895:=True
def tw13511181867281387079:=True
def tw15498171308292944455:=True
def tw7151453966026428007:=True
def tw16947364936898122375:=True
def tw1484804054237792903:=True
def tw11586250865034395335:=True
def tw7172823600786080487:=True
def tw15919302016372279015:=True
def tw5858729221471511271:=True
def tw4808932381426383655:=True
def tw15597551194862615335:=True
def tw13175634557525128007:=True
def tw13339444771431306087:=True
def tw15653101444298318759:=True
def tw7360742191661793255:=True
def tw890392472367917031:=True
def tw7614229955085073383:=True
def tw9053652632817630183:=True
def tw17788913854928737288:=True
def tw14600247581795861544:=True
def tw3714762092680238120:=True
def tw13216289400974685256:=True
def tw12208881034589192264:=True
def tw6232383020863995976:=True
def tw5188906116092242024:=True
def tw3467872333679278184:=True
def tw14674061875565794440:=True
def tw10463023801710947496:=True
def tw15954518197878820040:=True
def tw18127299926630161608:=True
def tw7122743472217701608:=True
def tw16492094405641386248:=True
def tw7507024384480208136:=True
def tw6220406780891361544:=True
def tw9956026647893873960:=True
def tw5086208886940431656:=True
def tw12722101605509051720:=True
def tw9156902189119781224:=True
def tw1597066093152409000:=True
def tw2426844337845636552:=True
def tw16130381871613666760:=True
def tw16546380264785283560:=True
def tw208799203430469096:=True
def tw17588112139548205640:=True
def tw6885450367613357640:=True
def tw2337323430633449064:=True
def tw14516899621615878760:=True
def tw16879427094865252040:=True
def tw16786421785312715496:=True
def tw4913554869676161800:=True
def tw18435839795423489832:=True
def tw9226798292348562248:=True
def tw11315738112170889064:=True
def tw17493222536426436456:=True
def tw1473081489382304616:=True
def tw17699387374919045000:=True
def tw11861504490902644616:=True
def tw18037437583079603080:=True
def tw948816498946030504:=True
def tw9544414551140726696:=True
def tw4172170533242080200:=True
def tw6359092119676785608:=True
def tw17337810946357704648:=True
def tw17241211499009914824:=True
def tw15002079257100277704:=True
def tw13479616689213300680:=True
def tw809793641983867880:=True
def tw9726987940810504201:=True
def tw17335016608189579305:=True
def tw2068208593482756137:=True
def tw5550627127823318121:=True
def tw10581973325240722569:=True
def tw6106453900987627657:=True
def tw10434575091207736489:=True
def tw4555058537093472489:=True
def tw15743151740211509481:=True
def tw12426042381122910473:=True
def tw5327565918523151657:=True
def tw15356440038616963401:=True
def tw11583889978156712297:=True
def tw15434346200652420489:=True
def tw4172408367318979977:=True
def tw9221755123867605385:=True
def tw11704203400526217641:=True
def tw8478076153744844201:=True
def tw15354477913458724297:=True
def tw8344515764215208393:=True
def tw4497201159743997417:=True
def tw1351025259247183369:=True
def tw16620653565466413609:=True
def tw10343767882267336233:=True
def tw595266608186675817:=True
def tw4693985227662579369:=True
def tw16582957018670166697:=True
def tw9756719338733276873:=True
def tw11363432424651038409:=True
def tw6831672131799120585:=True
def tw7455463909253155561:=True
def tw17076767971416717033:=True
def tw9506534065704234729:=True
def tw14620822932957660937:=True
def tw4965164440340469513:=True
def tw10773232383242879817:=True
def tw6700390755187545929:=True
def tw2275138642330855273:=True
def tw9053257416906192745:=True
def tw15145186516465371017:=True
def tw5537748379699159977:=True
def tw9112443223092714409:=True
def tw12908355183691358121:=True
def tw16819771563435957193:=True
def tw8611747957811160074:=True
def tw7571605059772794890:=True
def tw12837278732526631018:=True
def tw466814028096292970:=True
def tw10024550922455069930:=True
def tw9628239643673470282:=True
def tw4907461178404433226:=True
def tw6055439982523389290:=True
def tw12666386718418580842:=True
def tw9814123709770292586:=True
def tw6258115242575060330:=True
def tw4952326778818572682:=True
def tw2450250495726403114:=True
def tw14615543536737013290:=True
def tw15181273336360857130:=True
def tw9538987930111399530:=True
def tw10424091653987687018:=True
def tw8571204453712660106:=True
def tw8880740079179186858:=True
def tw8789079786657688266:=True
def tw4429331959362172650:=True
def tw12903498612287227690:=True
def tw17710903020754302794:=True
def tw17948328801814346570:=True
def tw1335556808499994474:=True
def tw1174812338550165354:=True
def tw5436954289594199914:=True
def tw17709983380777177994:=True
def tw9080871088327991178:=True
def tw911984689834776458:=True
def tw6083497900637575114:=True
def tw6459383308052944907:=True
def tw4965992433835867179:=True
def tw12070957082289539147:=True
def tw14718728877828096075:=True
def tw8260148187264632907:=True
def tw298334116504937611:=True
def tw6945792845161116843:=True
def tw4852166938592156907:=True
def tw9673714101358292267:=True
def tw963231173998721355:=True
def tw11089120644189112651:=True
def tw15047584815577735531:=True
def tw5887594025588846955:=True
def tw3329585780198186411:=True
def tw14434074554872138187:=True
def tw267710538949070283:=True
def tw16749735660218443275:=True
def tw1501156725903889963:=True
def tw16346656487681243691:=True
def tw33818874556236331:=True
def tw10044452110340680235:=True
def tw5249140424736204363:=True
def tw6959033239956728427:=True
def tw12583152803017936491:=True
def tw10596546746717936267:=True
def tw10078280027146496651:=True
def tw7576738669082792619:=True
def tw7573074014378064619:=True
def tw7715721799175995179:=True
def tw12779648083574154059:=True
def tw17184129100599830379:=True
def tw17889975451149706155:=True
def tw12796538550265347084:=True
def tw661138253826490412:=True
def tw17314630340620977228:=True
def tw10715491746040490060:=True
def tw15866988592476160108:=True
def tw16603788690898413676:=True
def tw18094962710107586700:=True
def tw1491740231363031180:=True
def tw8909693637792830636:=True
def tw9362409416181061804:=True
def tw6579578989433445548:=True
def tw9091308815135105196:=True
def tw5374551627259373740:=True
def tw11526967920299084044:=True
def tw3317325810594041100:=True
def tw1840349336794981676:=True
def tw15916790633849300300:=True
def tw5206286082215970156:=True
def tw9517839976964878700:=True
def tw13981603644511627660:=True
def tw4334967916451736972:=True
def tw413174170927213996:=True
def tw7180967874120858028:=True
def tw10519315699477167532:=True
def tw15674523126522195404:=True
def tw16559578894390610412:=True
def tw2490877781096319468:=True
def tw10513525820466265580:=True
def tw3501335220871318028:=True
def tw9922685955856725516:=True
def tw4433847751652683308:=True
def tw396795555921515116:=True
def tw9818537108143110764:=True
def tw12723731493601108620:=True
def tw3721254881466779308:=True
def tw2374982695551212204:=True
def tw8484934791349843692:=True
def tw7401617395653708556:=True
def tw9448938446769139468:=True
def tw6921372398285994764:=True
def tw7333466942441470732:=True
def tw3250794693705000716:=True
def tw15356658479862429484:=True
def tw3362350755129216812:=True
def tw15026632557767391020:=True
def tw3511045515710459724:=True
def tw5392966550576429996:=True
def tw10263781955604400076:=True
def tw14022658602546159564:=True
def tw4564774480413629453:=True
def tw15909022129911050253:=True
def tw10552833589176361037:=True
def tw8724553078831262829:=True
def tw15350127532838695021:=True
def tw11377301485139603597:=True
def tw5171015847399656653:=True
def tw2789501847649802445:=True
def tw8366071721917084877:=True
def tw7833387654797998349:=True
def tw16349593449655000333:=True
def tw9890136613132023117:=True
def tw6670199755134587213:=True
def tw8681590362832734669:=True
def tw10011087467902592493:=True
def tw12126143636026962477:=True
def tw8955738941837448813:=True
def tw9605348547888617133:=True
def tw16905639581166441165:=True
def tw1913471707117294285:=True
def tw11843266768582519501:=True
def tw12076388780867204813:=True
def tw13176502352584158957:=True
def tw14423046036909590285:=True
def tw17572711816274264909:=True
def tw11117284286371647341:=True
def tw1444682308756332397:=True
def tw16120112328117121005:=True
def tw17029367408367220750:=True
def tw10518283126418980878:=True
def tw3973996111021919278:=True
def tw14954653853069721678:=True
def tw5441412541676597390:=True
def tw3041681365501968622:=True
def tw3054022445190895854:=True
def tw9766584901314747726:=True
def tw6111015017037613390:=True
def tw11909282340235156846:=True
def tw1593156835975957902:=True
def tw16518975932699619758:=True
def tw4103227694948697518:=True
def tw1850212844219952558:=True
def tw16870741380352970190:=True
def tw13881657319153902030:=True
def tw5213272238775841230:=True
def tw8948413317050693070:=True
def tw5707715599000671726:=True
def tw911417613315023342:=True
def tw3695969657608848942:=True
def tw17839108588683573870:=True
def tw11730332486773113486:=True
def tw8153653800195230350:=True
def tw5037144430994154158:=True
def tw17249194896481645230:=True
def tw2316977786320749262:=True
def tw11734242510365245134:=True
def tw200430590102203086:=True
def tw5151568086464021230:=True
def tw1783666236274240238:=True
def tw11552933542923903758:=True
def tw15734764770784912174:=True
def tw12376629550675452750:=True
def tw4487265183304008590:=True
def tw2262182518116251534:=True
def tw991934738206530478:=True
def tw1786238879786151854:=True
def tw17159420777817428910:=True
def tw2850932371927587758:=True
def tw13197567957500821454:=True
def tw8362122364877887470:=True
def tw16496583390083767278:=True
def tw2212417075277098990:=True
def tw12509052758827465710:=True
def tw15625570566884066319:=True
def tw17011279893725360143:=True
def tw17134168917486042127:=True
def tw13434331805143630895:=True
def tw3309580721572277295:=True
def tw10690683202081337455:=True
def tw16672009374586069103:=True
def tw12698441927591963791:=True
def tw4678541298922054799:=True
def tw13312153453839159471:=True
def tw8706352086447567023:=True
def tw482921690972337359:=True
def tw5953542657673212143:=True
def tw16323636897543515407:=True
def tw7117460203683166511:=True
def tw660066062251487535:=True
def tw8622149890237906255:=True
def tw7158582424789929295:=True
def tw8191896868469471599:=True
def tw15020452638443770255:=True
def tw7900269441700601231:=True
def tw15849549316634940847:=True
def tw6405162206106073551:=True
def tw12190757709733581263:=True
def tw11712053786524820975:=True
def tw17168922907606125071:=True
def tw12588686063440643599:=True
def tw3005830393452977679:=True
def tw15804759267227964015:=True
def tw2279166993975449199:=True
def tw3062581728856415855:=True
def tw15996752252746375791:=True
def tw11536786547651421839:=True
def tw12947251032556141231:=True
def tw14715429153070704399:=True
def tw4526723428159761199:=True
def tw13337531004716658479:=True
def tw9416161950252248911:=True
def tw2617795516026673999:=True
def tw3889447962595487567:=True
def tw3844542856505972591:=True
def tw8751217975035255663:=True
def tw12025813347680803727:=True
def tw12874153677024884623:=True
def tw17577017332907742159:=True
def tw10712978410149526479:=True
def tw4302088035277030351:=True
def tw12127090755762916368:=True
def tw8553667258837773328:=True
def tw1419121572534172688:=True
def tw9937048544662188048:=True
def tw11957598885423462448:=True
def tw14130394167155100784:=True
def tw3592910767439760528:=True
def tw7537101349839080624:=True
def tw9256385388611197104:=True
def tw16192151788542727376:=True
def tw491402476974933232:=True
def tw14654921147103492336:=True
def tw7002265119108158704:=True
def tw10430869347101751568:=True
def tw11607258483177180432:=True
def tw2947247490247993648:=True
def tw1013025440511259952:=True
def tw13240630690786442544:=True
def tw762397431210819952:=True
def tw1565008735010845072:=True
def tw612312201484774832:=True
def tw1567968802315973040:=True
def tw3399719736096053680:=True
def tw7712840368388443600:=True
def tw2420995635163969040:=True
def tw11749329123516772880:=True
def tw8558771276172262928:=True
def tw2327385998841329200:=True
def tw7874212723583334960:=True
def tw3743016044343258672:=True
def tw15455810243219914288:=True
def tw13608475516360273488:=True
def tw15293053549269562960:=True
def tw2324519073128630864:=True
def tw12794311901754298000:=True
def tw5620848150096716432:=True
def tw3092009833990334160:=True
def tw5602831248531060528:=True
def tw1644455043450152816:=True
def tw4679392184911586192:=True
def tw1323671542381557680:=True
def tw5041880314423656368:=True
def tw14264203813675233200:=True
def tw10608978616023749584:=True
def tw11625600794053181424:=True
def tw3663745779200327729:=True
def tw15334046100492519473:=True
def tw772130551783942225:=True
def tw18374932632993951825:=True
def tw11199915542379640945:=True
def tw18256514484615207025:=True
def tw12575612627637096593:=True
def tw7691809828963573905:=True
def tw6725649565115552977:=True
def tw6683320793546220753:=True
def tw9777535767769835729:=True
def tw1621151179988005073:=True
def tw17061793241694876913:=True
def tw2923121585727077617:=True
def tw12281748710810005777:=True
def tw10088437771813079313:=True
def tw3703586341827062065:=True
def tw14604434207017314609:=True
def tw5906561203172685105:=True
def tw15921007000773642545:=True
def tw12468239019833616689:=True
def tw15101000761846410577:=True
def tw8561730120923370833:=True
def tw18330028183056004465:=True
def tw1255999330690784625:=True
def tw9927166306524392817:=True
def tw128254597574911377:=True
def tw7603956634818313649:=True
def tw6624080392795893201:=True
def tw18308489000736960977:=True
def tw11255746310241369553:=True
def tw6006548305343838673:=True
def tw16551367803238865:=True
def tw12648302654440479249:=True
def tw6200391767654350353:=True
def tw595429384928086545:=True
def tw7455981604793968145:=True
def tw15719466618617983505:=True
def tw3045346401772763665:=True
def tw6092480594862367281:=True
def tw16999063625275438641:=True
def tw3545804010171407953:=True
def tw11684391214877127249:=True
def tw11212346778262680145:=True
def tw5946244555697094225:=True
def tw16529322341353508465:=True
def tw8400070671167696561:=True
def tw4060783221523961521:=True
def tw7583579047478191793:=True
def tw7298816873950103249:=True
def tw6517570144028676817:=True
def tw4574860175683995377:=True
def tw12073272171631895281:=True
def tw9506398654210536177:=True
def tw17974411159209960209:=True
def tw14653698105485862705:=True
def tw16915106788935351089:=True
def tw10531313736802258737:=True
def tw4841626975545085745:=True
def tw18265821286441945937:=True
def tw13214569995703908177:=True
def tw5394672284166472561:=True
def tw14219653509318263729:=True
def tw16338677377288141745:=True
def tw8416843926177122257:=True
def tw16075838833369102289:=True
def tw14914351872504025073:=True
def tw2490923846939436017:=True
def tw4843905319568800786:=True
def tw7277369260098170962:=True
def tw1787747790640668754:=True
def tw7583442575577005170:=True
def tw4968959240776269970:=True
def tw13455719451621523634:=True
def tw16046941688490891442:=True
def tw4326380039064674482:=True
def tw14377125983172428018:=True
def tw7769602217015302386:=True
def tw5201047830145980658:=True
def tw12944675490446587154:=True
def tw9994303834371019026:=True
def tw11931321352903525682:=True
def tw12761491519110818162:=True
def tw4681198215239628146:=True
def tw12793552161912271250:=True
def tw4669529448032025010:=True
def tw3569177534400783826:=True
def tw8074949472812888530:=True
def tw2564034477089879506:=True
def tw17878704966339614194:=True
def tw553627929667878450:=True
def tw617874935956812370:=True
def tw6057536804803963474:=True
def tw4840719297445399154:=True
def tw9895396189097739890:=True
def tw99032177213900434:=True
def tw6729040369678764690:=True
def tw8365408015624767186:=True
def tw1873583353266157298:=True
def tw365887082359842546:=True
def tw10223543528927264498:=True
def tw6240291426547638034:=True
def tw8842673545066408722:=True
def tw17910201550944446322:=True
def tw16020579041267406738:=True
def tw6511096327241348050:=True
def tw10344063746348177362:=True
def tw15769620250543024114:=True
def tw10092943394144944147:=True
def tw10034509955740203027:=True
def tw16816272249139698739:=True
def tw12073114985343492147:=True
def tw1635678170546123827:=True
def tw3362148726645825683:=True
def tw10658464495257311379:=True
def tw5085800260212922547:=True
def tw11509046043501675699:=True
def tw8894281658707864755:=True
def tw8736467239928834259:=True
def tw4234081854643981683:=True
def tw13834289287556704659:=True
def tw15637845293059516851:=True
def tw7424888300871890387:=True
def tw15073988337796140531:=True
def tw999369047513462259:=True
def tw5612802875180350963:=True
def tw17146921990894226963:=True
def tw11863217282662951507:=True
def tw3087767315473165907:=True
def tw11205598615355747955:=True
def tw12200126707823004307:=True
def tw9084187943276371603:=True
def tw13009319687385015987:=True
def tw7677887705211663059:=True
def tw17087931588814034675:=True
def tw10810478747550248723:=True
def tw1710722468062347059:=True
def tw4945708871346051891:=True
def tw16453167849075959603:=True
def tw14622641391971983187:=True
def tw8293555834823733075:=True
def tw17189419309236089683:=True
def tw3755593525659333459:=True
def tw14580770159134113619:=True
def tw11699253075667069811:=True
def tw14842310431669740435:=True
def tw9512544465233451955:=True
def tw14233176877788330931:=True
def tw795387229151107059:=True
def tw1330721635698214964:=True
def tw17028679404743073844:=True
def tw4814449893705722932:=True
def tw11779151117841173588:=True
def tw6601436331284637812:=True
def tw4106921464947418260:=True
def tw17965808872284301492:=True
def tw17817852384544494804:=True
def tw11562966150677211348:=True
def tw1901481937720558804:=True
def tw7316507984567993620:=True
def tw4867067385322747156:=True
def tw1998237881972570420:=True
def tw13113538703525334356:=True
def tw15754505197770436948:=True
def tw6195384134900604308:=True
def tw1822526051962753460:=True
def tw11641462318977193396:=True
def tw4550638697140953524:=True
def tw12724333152411993556:=True
def tw2005723558144763380:=True
def tw12684263083525706292:=True
def tw10866832186063090228:=True
def tw3969925446692163188:=True
def tw9216485184309504692:=True
def tw7773065809809490612:=True
def tw616605890196037300:=True
def tw15880532151085974260:=True
def tw11478821890533008148:=True
def tw11312804426214968116:=True
def tw15540307898588446516:=True
def tw1818947606834115380:=True
def tw13717746835404345172:=True
def tw4689636615503971220:=True
def tw5061753106213399444:=True
def tw559761661491175348:=True
def tw15090803197072831412:=True
def tw3769502201657528276:=True
def tw7100896959844053972:=True
def tw694047721387654100:=True
def tw4965005046954950612:=True
def tw12003485948917417972:=True
def tw5287323235038012404:=True
def tw11572735936805704725:=True
def tw4044191395711668245:=True
def tw10443597398946868245:=True
def tw11026935659180090421:=True
def tw1418436346036453461:=True
def tw15291071173340576853:=True
def tw4692937032617320533:=True
def tw26139334487304277:=True
def tw639745612388096149:=True
def tw2714112528781755637:=True
def tw7517385432950370613:=True
def tw7832332356856185205:=True
def tw16289283816622083477:=True
def tw11979241279387412949:=True
def tw1149219965163612661:=True
def tw13685990810275139061:=True
def tw3655546505713027605:=True
def tw147534421463375477:=True
def tw293196324736386677:=True
def tw11908711935326519957:=True
def tw15761807148612061909:=True
def tw11005184237671664341:=True
def tw12090685438164164309:=True
def tw7366068540992872181:=True
def tw13357760384615922517:=True
def tw17627950258451400533:=True
def tw11304370965055659861:=True
def tw2157161353441635157:=True
def tw2039790023225733973:=True
def tw12041506807366965109:=True
def tw10635545838472949621:=True
def tw397177335115327413:=True
def tw15931804101855417301:=True
def tw14814483377699528661:=True
def tw13342948166740411381:=True
def tw11608015015384802293:=True
def tw4708993108690530293:=True
def tw12036661669800278038:=True
def tw5581602280464125014:=True
def tw9854107342224960598:=True
def tw2953869429435580502:=True
def tw11889559084278711414:=True
def tw7132969725095352438:=True
def tw8275774452563914870:=True
def tw13561736339596756086:=True
def tw131732004075822198:=True
def tw8543341078913908886:=True
def tw12728660080648796310:=True
def tw9768991214072827062:=True
def tw15316819697621353654:=True
def tw1466164960635353270:=True
def tw3738204003198077142:=True
def tw3048257143017051350:=True
def tw11570125647543866614:=True
def tw8200745194757480758:=True
def tw15701064461934239094:=True
def tw17249078939530807734:=True
def tw2827467600291067318:=True
def tw16033877719521779158:=True
def tw7494049751366978038:=True
def tw13168732874794957302:=True
def tw10593510514863395350:=True
def tw1987299111995928086:=True
def tw11609697335815815734:=True
def tw2660469273003157046:=True
def tw5366712188994054710:=True
def tw14570068873875551798:=True
def tw11219554581453230678:=True
def tw11833661981553402518:=True
def tw14458738479886924438:=True
def tw11114386192518438582:=True
def tw7397835670867932854:=True
def tw11134310640112862934:=True
def tw16187784434199465686:=True
def tw10429477585940371158:=True
def tw17717069701754381014:=True
def tw7604616511106620150:=True
def tw1140715351915332374:=True
def tw3919122161564324662:=True
def tw4981203635571801942:=True
def tw12223701883492887382:=True
def tw6536003112437273462:=True
def tw12449021228974926710:=True
def tw7630255906678730614:=True
def tw12032851923529845654:=True
def tw17498408191365842934:=True
def tw15058490589057107991:=True
def tw2206845871782385687:=True
def tw321581244967905303:=True
def tw1706683594306996279:=True
def tw14931794515753327735:=True
def tw10279495261935572119:=True
def tw16289251861261660311:=True
def tw1010297454799066295:=True
def tw3928344237123581111:=True
def tw10792963915740643543:=True
def tw17156143676095668439:=True
def tw6340900972804431063:=True
def tw9669117909885146359:=True
def tw482754743572066551:=True
def tw6867006375941566711:=True
def tw14242743505745957143:=True
def tw11441904297337498935:=True
def tw14512630835579731255:=True
def tw12887222717079849303:=True
def tw17998083123878219095:=True
def tw410990771587579223:=True
def tw11137613545286527351:=True
def tw13150333338107986359:=True
def tw2998809311295425975:=True
def tw10378733387866646007:=True
def tw2323618998023958007:=True
def tw4715438255358362103:=True
def tw6200676852424494615:=True
def tw12596476824714778167:=True
def tw6176552066662511159:=True
def tw4253580017871121975:=True
def tw17307596432271426135:=True
def tw10910133215187257943:=True
def tw7499531189600614007:=True
def tw16162112148039995063:=True
def tw7129856718004969143:=True
def tw15039917714484243191:=True
def tw5547694617839219447:=True
def tw7252314065820614391:=True
def tw17519376244500457239:=True
def tw5476839858866879255:=True
def tw5588037818679280439:=True
def tw17357886753156713271:=True
def tw6256294971916445495:=True
def tw5837451627550825303:=True
def tw6394047892642934647:=True
def tw6983022553920103383:=True
def tw15949990914095871959:=True
def tw14346497665349600280:=True
def tw3101526602336201752:=True
def tw11375601215478923320:=True
def tw12034061387321722936:=True
def tw1812723614835468344:=True
def tw10504527019136789592:=True
def tw2830832755330411608:=True
def tw1969101793530472568:=True
def tw793489408457120920:=True
def tw5440757868162970808:=True
def tw8398679676663819512:=True
def tw526158842687814904:=True
def tw3787190590867490072:=True
def tw8897958879847106840:=True
def tw17726668742119530840:=True
def tw17856452283169090904:=True
def tw17607252056352367992:=True
def tw10043459197592892824:=True
def tw1374606238382115256:=True
def tw1572020715031975352:=True
def tw13853553315036995032:=True
def tw10223267126135145944:=True
def tw12236266182316502584:=True
def tw17727892883085476408:=True
def tw2043707831543907928:=True
def tw1764720958857892440:=True
def tw12953920205197663832:=True
def tw10877218952662579800:=True
def tw7288429168643806840:=True
def tw10541190696008744568:=True
def tw12406016896382785176:=True
def tw14844313586449415832:=True
def tw14447146387835434680:=True
def tw15905752161571240696:=True
def tw4828953988725640984:=True
def tw14500770725293803288:=True
def tw2514391823690024760:=True
def tw16694470066701561656:=True
def tw400389118576129848:=True
def tw326693470909038392:=True
def tw3902993091529278328:=True
def tw2612084652898665336:=True
def tw13020844707904641912:=True
def tw8121653779928179576:=True
def tw4109662872999065528:=True
def tw13246404447600314360:=True
def tw14985316974674853880:=True
def tw3911360285131071545:=True
def tw13431894063024234553:=True
def tw13705336671712166009:=True
def tw2686781057595614361:=True
def tw1345330842500918425:=True
def tw8816207296140506329:=True
def tw18105592290959294713:=True
def tw8571771407073382681:=True
def tw7180585163204976921:=True
def tw10521002670029907257:=True
def tw12775623368675581241:=True
def tw12457188561268669753:=True
def tw11124122930874223961:=True
def tw6675214050456151385:=True
def tw17093002623359274329:=True
def tw505991586932799865:=True
def tw4103835441525746041:=True
def tw13873006351427928505:=True
def tw2045347431822342585:=True
def tw16971572715873880569:=True
def tw5514290439870040569:=True
def tw9685759950301721081:=True
def tw5945729435851229817:=True
def tw7445027841468374649:=True
def tw17410112791930428025:=True
def tw13960142863595867801:=True
def tw8970707234848514713:=True
def tw1216067533140906681:=True
def tw3932933077994514137:=True
def tw15554917971860313817:=True
def tw13693050729449658105:=True
def tw3338272719643006713:=True
def tw12742075220783609625:=True
def tw16732426647873814329:=True
def tw9851171378914018137:=True
def tw8284472221767464793:=True
def tw17472350796231322489:=True
def tw14204708827453055865:=True
def tw17373763171433071513:=True
def tw7808833405485218842:=True
def tw1198177915755478074:=True
def tw468921739641480250:=True
def tw15214099764536753242:=True
def tw11699720953249482842:=True
def tw13304918438025500794:=True
def tw6311572403608023194:=True
def tw476619890147787962:=True
def tw3272697792244949178:=True
def tw7049289884457687226:=True
def tw388285330225334490:=True
def tw5726195614541745434:=True
def tw7059806701229088058:=True
def tw8727861014935740730:=True
def tw1856051854718296378:=True
def tw16724889655674952026:=True
def tw12184255157534356858:=True
def tw18404043956053366170:=True
def tw11284190602579480026:=True
def tw1555587897567712858:=True
def tw3149849471367102042:=True
def tw4882666673080348314:=True
def tw10567334918485921434:=True
def tw13682104872073683610:=True
def tw5241407013354625722:=True
def tw9096492406625236666:=True
def tw17975427456252278458:=True
def tw14614423227342993114:=True
def tw15050519326564361978:=True
def tw13180447970568824634:=True
def tw5945733585329213274:=True
def tw9167638277514456922:=True
def tw2142294098785289082:=True
def tw12901304473714518906:=True
def tw2171469529499335546:=True
def tw11127758204006834074:=True
def tw16267942114178968506:=True
def tw264233002928617402:=True
def tw17881075188615177146:=True
def tw8973762694406569914:=True
def tw9428267363803364346:=True
def tw12380890798659656731:=True
def tw12342381122632378395:=True
def tw4542695375997298747:=True
def tw16361448349423657051:=True
def tw8669557545782314139:=True
def tw15397865042031399067:=True
def tw585232789713801403:=True
def tw8222761827863646427:=True
def tw157873637174804763:=True
def tw10782738938717158683:=True
def tw7198273799369158971:=True
def tw15241605275089143131:=True
def tw6562159284804069723:=True
def tw12777839526119237979:=True
def tw3150209240331538843:=True
def tw7316958370823527835:=True
def tw15819320893305135547:=True
def tw8685873199380394427:=True
def tw18397417251554921947:=True
def tw7566394018375116251:=True
def tw9067133582134660571:=True
def tw4319661578724331995:=True
def tw13956692954292858363:=True
def tw11594020722220406299:=True
def tw10599780795365500443:=True
def tw6069096599919227419:=True
def tw3948840040525084219:=True
def tw8560673798215178875:=True
def tw15136859435771010683:=True
def tw5235196849825967739:=True
def tw15887326018243496635:=True
def tw6453590086192060091:=True
def tw16483782375025877723:=True
def tw15621144784348702427:=True
def tw12413976596310073083:=True
def tw6155872584019409659:=True
def tw6394244160019111707:=True
def tw7294034514763407131:=True
def tw4043870085409961787:=True
def tw15015393623735203707:=True
def tw10065294907210698651:=True
def tw13191800094960211867:=True
def tw15923497580299088827:=True
def tw2404884403429714939:=True
def tw13162865418225832955:=True
def tw12950054188294665244:=True
def tw11816563250475110460:=True
def tw3314274399471636540:=True
def tw3980440473574122556:=True
def tw13775491089827731580:=True
def tw571040457677905020:=True
def tw12053643709769624700:=True
def tw10341650064180268156:=True
def tw18340437719678408828:=True
def tw159758521285847228:=True
def tw14134208650941409468:=True
def tw606229123770955964:=True
def tw931507041332608188:=True
def tw15444302856731838652:=True
def tw3206371828229493980:=True
def tw15177497247226503420:=True
def tw660518062197841180:=True
def tw8488840285163476252:=True
def tw17626725315356495196:=True
def tw2807130093713756:=True
def tw7591714244194624892:=True
def tw12111769188352460188:=True
def tw17997357626424448412:=True
def tw9519383535139643836:=True
def tw10743670170083503580:=True
def tw10846561856829966812:=True
def tw12478675056993208828:=True
def tw6106466202931569180:=True
def tw5364071617826063932:=True
def tw9134136738153667132:=True
def tw8042174472377001532:=True
def tw1468282385985394364:=True
def tw15609413101765269212:=True
def tw3131146359017685724:=True
def tw15525988333276105468:=True
def tw6495241605269006076:=True
def tw17541799258545710876:=True
def tw15375232674231582492:=True
def tw8585443805849520988:=True
def tw8734016755621374812:=True
def tw6587132822289958748:=True
def tw8528133798101900124:=True
def tw5134043602796268412:=True
def tw5730447250964343676:=True
def tw4938118037176488860:=True
def tw3969653728635383708:=True
def tw928494025235887004:=True
def tw10506837572931550108:=True
def tw17406730584474569660:=True
def tw5240171289387390908:=True
def tw7042935932567814076:=True
def tw17419747979339999196:=True
def tw10374497121569000412:=True
def tw18011742193423967196:=True
def tw8509308761357448188:=True
def tw11465658255902639165:=True
def tw6938450865937825853:=True
def tw13088970997626061885:=True
def tw5787953977837250653:=True
def tw5146535649188106365:=True
def tw15651190380097217725:=True
def tw8215774352217273533:=True
def tw5013668763389353181:=True
def tw17948249701116344541:=True
def tw13696802626713171229:=True
def tw9487437252779761949:=True
def tw9673953763115911485:=True
def tw2438530754954422589:=True
def tw1315839489063781821:=True
def tw16720054525832694205:=True
def tw1541106630104125885:=True
def tw15638936835496717757:=True
def tw7112492652839492029:=True
def tw3685143108864633277:=True
def tw6417294886254876125:=True
def tw6548326702505451997:=True
def tw13180697091855450621:=True
def tw3192121534499921405:=True
def tw4598635810611846685:=True
def tw10142854088269921853:=True
def tw2265005900751253085:=True
def tw13691351413235265117:=True
def tw2239697742615128701:=True
def tw4718479266726146685:=True
def tw3954559381127728861:=True
def tw8001219968659247837:=True
def tw14639598595474718429:=True
def tw17870511180979768061:=True
def tw5643291870441144061:=True
def tw16545369423793613597:=True
def tw8816885209472103197:=True
def tw8017164539553019677:=True
def tw10868237338556629821:=True
def tw9807902832242600765:=True
def tw18328096640004667197:=True
def tw849446819539075901:=True
def tw13963261293472470845:=True
def tw1833763822305808221:=True
def tw15023169254382465885:=True
def tw14333651137528232797:=True
def tw12750715602419809117:=True
def tw803726422928397181:=True
def tw6153793237290131357:=True
def tw14377798226185417629:=True
def tw11209826510464388061:=True
def tw12951294940286805981:=True
def tw8790133274021828605:=True
def tw8654165759808706557:=True
def tw16969497408169991165:=True
def tw12417472589745418237:=True
def tw11472604265125805053:=True
def tw2539265316480265246:=True
def tw14405084786360797214:=True
def tw5359096105338438782:=True
def tw3607839466307915902:=True
def tw13765393590330531966:=True
def tw2954912560644768894:=True
def tw12443042732279322750:=True
def tw5794744819340254366:=True
def tw10629401938547285150:=True
def tw13905554049948427454:=True
def tw7526846841064500414:=True
def tw13262842796019997886:=True
def tw6603761849083264222:=True
def tw13557209496223763742:=True
def tw6384117894684766558:=True
def tw2652339894884603262:=True
def tw5655627066796498302:=True
def tw11764942018037623198:=True
def tw1418719912061059486:=True
def tw6162260288761621918:=True
def tw8429733112878626206:=True
def tw5230208381856376254:=True
def tw18054373813435277790:=True
def tw1827077014924217822:=True
def tw2387494501611040254:=True
def tw12461881767957076510:=True
def tw7413840007838587422:=True
def tw6811325949622476318:=True
def tw2948711392958028382:=True
def tw10077257816294198910:=True
def tw13865079100600489598:=True
def tw4811954151371592318:=True
def tw8862565486899847870:=True
def tw14045594839745099454:=True
def tw9924836423731970814:=True
def tw10336100153127823102:=True
def tw14218670783309605630:=True
def tw5506510970002240254:=True
def tw17894053520472772382:=True
def tw10013215026332908318:=True
def tw9238788234951016222:=True
def tw1200863192465263390:=True
def tw9725400129317735262:=True
def tw2406294342801147806:=True
def tw11530967090860482462:=True
def tw16808280498416851934:=True
def tw10354958979138076703:=True
def tw8537859031908468767:=True
def tw13655158377760303167:=True
def tw9594492739560107071:=True
def tw7756954314043367519:=True
def tw8643246527279377535:=True
def tw2953821477882313855:=True
def tw9754213064560507007:=True
def tw5707483859203768511:=True
def tw6675663757728337087:=True
def tw5118987217027915967:=True
def tw13811294580703707359:=True
def tw1880611569396121855:=True
def tw9782007855168749887:=True
def tw7687995150611703103:=True
def tw1717427197427202431:=True
def tw1693459071344317887:=True
def tw17939587130217988575:=True
def tw2992283314869311967:=True
def tw18402524613916369375:=True
def tw5472172587355268575:=True
def tw14862566343852240383:=True
def tw1071854081615126015:=True
def tw8757547334205278751:=True
def tw18419279116518338079:=True
def tw2505596814324757023:=True
def tw7750043360436810271:=True
def tw12984544029205259871:=True
def tw17791908218655296127:=True
def tw7568028982220983967:=True
def tw16241742724488223423:=True
def tw12225682380394369759:=True
def tw3922366443559451359:=True
def tw1396131557416521503:=True
def tw7874051452412844831:=True
def tw2169051344452296511:=True
def tw6003097870604407679:=True
def tw10760311101353183135:=True
def tw17351256724145329119:=True
def tw17596433874523381727:=True
def tw15971056775331878911:=True
def tw15141948015919165439:=True
def tw1807248624326307839:=True
def tw7278521819340514104:=True
def tw9012250712312298677:=True
end PySem.W.Fast
theorem Hk4.cut {α β γ:Type}{f:α->γ}{g:β->γ}(k:Nat){a:List α}{b:List β}(x:(List.take k a).map f=(List.take k b).map g)(y:(List.drop k a).map f=(List.drop k b).map g):a.map f=b.map g:=by
 rw[← List.take_append_drop k a,← List.take_append_drop k b,List.map_append,List.map_append,x,y]
theorem Hk4.of {K:PySem.Params->PySem.W.Frag}{as:List PySem.Addr}(e:∀P,as=(K P).map (·.1))(ts:List PySem.Addr)(w:PySem.World)(s:PySem.Shared)(z:((List.take 190 as).map s.heap.get?,(List.take 190 (List.drop 190 as)).map s.heap.get?,(List.take 190 (List.drop 190 (List.drop 190 as))).map s.heap.get?,(List.drop 190 (List.drop 190 (List.drop 190 as))).map s.heap.get?,ts.map s.heap.get?)=((List.take 190 (K w.params)).map (fun p=>some p.2),(List.take 190 (List.drop 190 (K w.params))).map (fun p=>some p.2),(List.take 190 (List.drop 190 (List.drop 190 (K w.params)))).map (fun p=>some p.2),(List.drop 190 (List.drop 190 (List.drop 190 (K w.params)))).map (fun p=>some p.2),ts.map (fun _=>some (PySem.W.tabObj #[])))):PySem.W.InK K w s.heap/\∀P∈ts,s.heap.get? P=some (PySem.W.tabObj #[]):=by
 simp only[Prod.mk.injEq] at z
 exact ⟨.of e w s (Hk4.cut 190 z.1 (Hk4.cut 190 z.2.1 (Hk4.cut 190 z.2.2.1 z.2.2.2.1))),List.map_inj_left.mp z.2.2.2.2⟩
local macro_rules|`(tactic|refine $f:ident $a1 $a2 $a3 $a4 $y $v $yp $n $hl ($o:ident ($h:ident $k $a $p $ts)) $t*)=>`(tactic|refine' $f $a1 $a2 $a3 $a4 (Yf:=fun s=>((List.take 190 $a).map s.heap.get?,(List.take 190 (List.drop 190 $a)).map s.heap.get?,(List.take 190 (List.drop 190 (List.drop 190 $a))).map s.heap.get?,(List.drop 190 (List.drop 190 (List.drop 190 $a))).map s.heap.get?,($ts).map s.heap.get?)) (Ya:=fun w=>((List.take 190 ($k w.params)).map (fun p=>some p.2),(List.take 190 (List.drop 190 ($k w.params))).map (fun p=>some p.2),(List.take 190 (List.drop 190 (List.drop 190 ($k w.params)))).map (fun p=>some p.2),(List.drop 190 (List.drop 190 (List.drop 190 ($k w.params)))).map (fun p=>some p.2),($ts).map (fun _=>some (PySem.W.tabObj #[])))) $yp $n $hl (Hk4.of $p $ts) $t*)
set_option maxRecDepth 100000 in
set_option maxHeartbeats 0 in
theorem PySem.Challenge.cw_balepress_k33_whole_one_bit_told_holds : PySem.Challenge.rw_balepress_k33_whole_one_bit_told.Holds := by
 w_on;o_law;k_head;(case hw=>w_witness2)
 k_fill
 refine' K33.Ck.walk (l:=PySem.Challenge.rw_balepress_k33_whole_one_bit_told) rfl rfl (λ w h Y=>⟨PySem.W.km_in_of Y,PySem.W.km_tabs_of Y _ List.mem_cons_self⟩) ?hKT ?F ?hC
 case hKT=>intro w;kernel_rfl
 case F=>
  intro w mg fa h KX G hmg
  refine' K33.Ck.hd (by kernel_rfl) KX G hmg ?a ?l ?c ?k ⟨?_,?_,?_,?_,?_,?_,?_,?_,?_,?_,?_,?_,?_,?_,?_,?_,?_,?_,?_,?_,?_,?_,?_,?_,?_,?_,?_,?_⟩ (λ R0=>⟨R0,?_,?_,?_⟩) (λ R1=>⟨R1,?_,?_,?_,?_⟩) (λ R2=>⟨R2,?_,?_,?_⟩) ⟨?_,?_,?_,?_⟩ (λ R1 R4=>⟨R1,R4,?_,?_,?_,?_,?_,?_,?_,?_⟩) (λ R0=>⟨R0,?_,?_,?_,?_,?_,?_,?_,?_⟩) (λ R0=>⟨R0,?_,?_,?_,?_⟩) (λ R0 R7=>⟨R0,R7,?_,?_⟩) (λ R8=>⟨R8⟩) (λ R3 R5 R6 R9=>⟨R3,R5,R6,R9,?_,?_,?_,?_,?_⟩) ⟨?_,?_,?_⟩ (λ R11=>⟨R11,?_,?_,?_⟩) ⟨?_,?_,?_⟩ (λ R13=>⟨R13,?_,?_,?_⟩) ⟨?_,?_,?_⟩ (λ R15=>⟨R15,?_,?_,?_⟩) ⟨?_,?_,?_⟩ (λ R17=>⟨R17,?_,?_,?_⟩) (λ R10 R12 R14 R16 R18=>⟨R10,?_,R12,R14,R16,R18,?_⟩) (λ R1=>⟨R1,?_,?_⟩) ⟨?_,?_,?_,?_⟩ (λ R20 R21=>⟨R20,R21,?_,?_,?_,?_,?_,?_,?_⟩) (λ R22=>⟨R22,?_,?_,?_,?_⟩) ⟨?_,?_,?_,?_,?_,?_,?_⟩ (λ R19 R23 R24=>⟨R19,R23,R24,?_,?_⟩) (λ R23=>⟨R23,?_,?_,?_,?_,?_,?_,?_,?_,?_,?_,?_,?_,?_,?_⟩) ⟨?_,?_,?_,?_,?_,?_,?_⟩ (λ R25 R26 R27=>⟨R25,R26,R27,?_,?_,?_,?_,?_,?_,?_,?_⟩) ⟨?_,?_,?_,?_,?_,?_,?_,?_⟩ (λ R23 R24 R1=>⟨R23,R24,R1,?_,?_,?_,?_,?_⟩) (λ R30 R26=>⟨R30,R26,?_,?_,?_,?_,?_,?_,?_,?_,?_,?_,?_,?_⟩) ⟨?_,?_,?_⟩ (λ R1 R32=>⟨R1,R32,?_,?_,?_,?_,?_,?_,?_,?_,?_⟩) (λ R0=>⟨R0,?_,?_,?_,?_⟩) ⟨?_,?_,?_⟩ (λ R0 R7 R35=>⟨R0,R7,?_,?_,?_,R35⟩) (λ R33 R34 R36=>⟨R33,R34,?_,?_,?_,R36,?_,?_,?_,?_,?_⟩) (λ R37=>⟨R37,?_,?_,?_,?_⟩) (λ R30 R38=>⟨R30,R38,?_,?_,?_,?_,?_,?_,?_,?_⟩) ⟨?_,?_,?_,?_,?_,?_⟩ (λ R29 R31 R39 R19 R40=>⟨R29,R31,R39,R19,R40,?_,?_,?_,?_,?_,?_,?_,?_⟩) ⟨?_,?_,?_,?_,?_,?_,?_⟩ ⟨?_,?_,?_,?_,?_,?_,?_,?_,?_,?_,?_,?_,?_,?_,?_,?_,?_,?_,?_⟩ (λ R28 R41 R42 R43=>⟨R28,R41,R42,R43,?_,?_,?_,?_,?_,?_,?_,?_⟩)
  (case a=>k_is);(case l=>k_is);(case c=>k_is);(case k=>k_is)
  all_goals try (refine' mg_of KX G ?_;k_is)
  all_goals try (refine' PySem.W.mg_none_of KX G ?_;k_is)
  all_goals try (refine' K33.Ck.nI KX G ?a;case a=>k_is)
  all_goals try ((first|(refine' ⟨_,_,L2.fun_mk ?l ?c ?k,mg_of KX G ?a,.all ?b⟩;case a=>k_is)|(refine' ⟨_,_,L2.fun_mk ?l ?c ?k,⟨?a,?i,?k⟩,.all ?b⟩;(case a=>k_is);case i=>k_is));(case l=>k_is);(case c=>k_is);(case k=>k_is);(case b=>((repeat refine' K33.Ck.mS λ _=>?_);exact K33.Ck.m0 rfl)))
  all_goals try (refine' K33.Ck.inI ?l1 ?c1 ?k1 ?e1 (.all ?b1) ?m1 ?a1 ?i1 ?q1;(case a1=>k_is);(case l1=>k_is);(case c1=>k_is);(case k1=>k_is);(case m1=>k_is);(case i1=>k_is);(case q1=>k_is);(case e1=>rfl);(case b1=>((repeat refine' K33.Ck.mS λ _=>?_);exact K33.Ck.m0 rfl)))
  all_goals try ((first|refine' K33.Ck.fdI KX G ?a ?l ?c ?k ?b ?d|refine' K33.Ck.flI KX G ?a ?l ?c ?k ?b ?d|refine' K33.Ck.fkI KX G ?a ?l ?c ?k ?b ?d|refine' K33.Ck.fcI KX G ?a ?l ?c ?k ?b ?d);(case a=>k_is);(case l=>k_is);(case c=>k_is);(case k=>k_is);(case b=>refine' K33.Ck.b2 λ s _ _ hX=>binds_K hX ?x ?t ?y ?z ?w;(case x=>rfl);(case t=>k_is);(case y=>rfl);(case z=>rfl);case w=>rfl);(case d=>refine' K33.Ck.b1 λ s _ hX=>binds_K hX ?x ?t ?y ?z ?w;(case x=>rfl);(case t=>k_is);(case y=>rfl);(case z=>rfl);case w=>rfl))
  all_goals try (refine' K33.Ck.ciI ?l2 ?c2 ?k2 ?d2 ?m2 ?a2 ?i2 ?q2;(case a2=>k_is);(case l2=>k_is);(case c2=>k_is);(case k2=>k_is);(case m2=>k_is);(case i2=>k_is);(case q2=>k_is);(case d2=>refine' K33.Ck.b2 λ s _ _ hX=>binds_K hX ?x ?t ?y ?z ?w;(case x=>rfl);(case t=>k_is);(case y=>rfl);(case z=>rfl);case w=>rfl))
  all_goals try (refine' K33.Ck.cdI ?l3 ?c3 ?k3 ?d3 ?m3 ?a3 ?i3 ?q3;(case a3=>k_is);(case l3=>k_is);(case c3=>k_is);(case k3=>k_is);(case m3=>k_is);(case i3=>k_is);(case q3=>k_is);(case d3=>refine' K33.Ck.b1 λ s _ hX=>binds_K hX ?x ?t ?y ?z ?w;(case x=>rfl);(case t=>k_is);(case y=>rfl);(case z=>rfl);case w=>rfl))
  all_goals try (refine' K33.Ck.markI KX G ?a ?l;(case a=>k_is);case l=>k_is)
  all_goals try k_is
  all_goals try (refine' K33.Ck.tabI KX G ?a ?l ?s;(case a=>k_is);(case l=>k_is);case s=>rfl)
  all_goals try (first|refine' L2.Cls.mk ?_ ?_ ?_ ?_|refine' L2.MkB.mk ?_ ?_ ?_|refine' L2.ExI.mk ?_ ?_ ?_ ?_ ?_ ?_ ?_ ?_|unfold L2.NoAttr)
  all_goals try k_is
  all_goals try ((first|refine' K33.Ck.b2 λ s _ _ hX=>binds_K hX ?x ?t ?y ?z ?w|refine' K33.Ck.b1 λ s _ hX=>binds_K hX ?x ?t ?y ?z ?w);(case x=>rfl);(case t=>k_is);(case y=>rfl);(case z=>rfl);case w=>rfl)
  all_goals try ((repeat refine' K33.Ck.mS λ _=>?_);exact K33.Ck.m0 rfl)
  all_goals try unfold L2.ExC
  all_goals try kernel_rfl
  all_goals decide
 case hC=>intro w;kernel_rfl

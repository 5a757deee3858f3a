import PyProof.Rows.All
import KE.KFromBytes
import KE.KIsAll
import Wide.FinOn
import Open.Pieces
import OpenK.KLine
import PyProof.EqAt
import PyProof.EqKinds
import PyProof.TupleCall
import PyProof.Seq
import PyProof.RangeIter
import PyProof.TupleIter
import PyProof.Rows.TupIter
import PyProof.StationsW
import PyProof.ExcClass2
import PyProof.NeKinds
import PyProof.Rows.TupMore
import PyProof.AutoSeq1
import PyProof.ZipIter
import PyProof.StrWalks
import PyProof.StrBlock2
import PyProof.StrBlockI
import PyProof.StrLaws
import PyProof.SliceStr2
import PyProof.Rows.Range3
import PyProof.Rows.StrRev
import PyProof.ConsumeWalk
import PyProof.Rows.SortShellK
import PyProof.Rows.SortRev
import PyProof.SeqI3
import PyProof.Rows.SeqGen
import PyProof.Rows.SortRunsK
import KE.KEqDict
import KE.KLam
import KE.KMinKey
import KE.KNestM
import Lean
import PySem.Challenge.RW_balepress_k31_whole_in_pieces
noncomputable section
set_option bootstrap.genMatcherCode false
open PySem renaming Addr → JB, Value → JC, Shared → JD, Program → JE, World → JF, FuncData → JG, Around → JH, Heap → JI, Expr → JJ, Obj → JK, Stmt → JL
open PySem.W (mg_of instObj methodObj Frag lookIn InstAt plainGet hasDictIn findIn handedIn isFn plainOver takerIn makesIn typeIn InitBack emptyDict make_core looks_findIn Looks keepIn specialIn takesIn mroIn kitOne kitx_list kitx_dict fnOf codeIn codeRec_of excIn oi_run kitMeta CodeHd nsIn binds_K)
def Z9 {p:Prop}(h:p:=by decide):p:=h
def Z8 {p:Prop}(h:p:=by decide+kernel):p:=h
def Z7 {p:Prop}(h:p:=by rfl):p:=h
def Z6 {p:Prop}(h:p:=by simp):p:=h
def Z5 {p:Prop}(h:p:=by lia):p:=h
def Z4 {p:Prop}(h:p:=by omega):p:=h
def Z3 {p:Prop}(h:p:=by intro _;rfl):p:=h
def Z2 {p:Prop}(h:p:=by first|exact .inl rfl|exact .inr rfl|assumption):p:=h
def Z1 {p:Prop}(h:p:=by intro _ _ _ _ h;(repeat obtain⟨_,h⟩:=h)<;>subst_vars<;>rfl):p:=h
def ZU {p:Prop}(h:p:=by first|exact .inl rfl|exact .inr (.inl rfl)|exact .inr (.inr rfl)):p:=h
def ZT:=ZU._auto_1
def Z0:=Z7._auto_1
def ZZ:=Z9._auto_1
def ZY:=Z8._auto_1
def ZX:=Z3._auto_1
def ZW:=Z2._auto_1
def ZV:=Z1._auto_1
set_option Elab.async false
set_option linter.all false
set_option maxRecDepth 100000
abbrev CM:=@List.length_map
abbrev CN:=@List.length_append
abbrev CQ:=@List.append_assoc
abbrev CS:=@PySem.wpAny_bind
abbrev CU:=@List.getElem?_eq_getElem
abbrev CV:=@Nat.le_trans
abbrev CY:=@decide_eq_true
abbrev CZ:=@Nat.lt_of_lt_of_le
abbrev C4:=@Nat.le_refl
abbrev C5:=@of_decide_eq_true
abbrev C6:=@List.length_drop
abbrev C7:=@PySem.Heap.get?_push_of_some
abbrev C8:=@List.map_append
abbrev Da:=@List.getElem?_eq_some_iff
abbrev Db:=@List.mem_cons_of_mem
abbrev Dc:=@if_neg
abbrev Dd:=@List.length_take
abbrev De:=@Nat.lt_of_lt_of_eq
abbrev Df:=@List.length_cons
abbrev Dg:=@List.size_toArray
abbrev Dh:=@List.pairwise_append
abbrev Di:=@Nat.le_of_eq
abbrev Dj:=@List.mem_append
abbrev Dk:=@List.mem_append_right
abbrev Dl:=@PySem.wpAny_pure
abbrev Dm:=@List.mem_cons
abbrev Dn:=@List.getD_eq_getElem?_getD
abbrev Do:=@List.mem_cons_self
abbrev Dp:=@Bool.false_ne_true
abbrev Dq:=@if_pos
abbrev Dr:=@Nat.le_of_lt
abbrev Dt:=@PySem.Heap.lt_size
abbrev Du:=@PySem.PassesOwn.never
abbrev Dv:=@List.take_of_length_le
abbrev Dw:=@List.take_append_drop
abbrev Dx:=@List.filter_cons_of_pos
abbrev Dy:=@Nat.le_antisymm
abbrev Dz:=@Int.toNat_natCast
abbrev DA:=@PyProof.Rows.wpS_pure
abbrev DB:=@Nat.zero_le
abbrev DC:=@List.getElem?_append_right
abbrev DD:=@Nat.le_add_right
abbrev DE:=@List.filter_cons_of_neg
abbrev DF:=@List.mem_singleton
abbrev DG:=@List.filter_append
abbrev DH:=@List.getElem?_eq_none
abbrev DI:=@List.length_replicate
abbrev DJ:=@PySem.F.plainAttrs_list
abbrev DK:=@Option.some.inj
abbrev DL:=@Nat.min_eq_left
abbrev DM:=@List.append_nil
abbrev DN:=@List.mem_of_mem_take
abbrev DO:=@PySem.Heap.get?_push_size
abbrev DP:=@Array.toList_append
abbrev DQ:=@Nat.lt_or_ge
abbrev DR:=@List.mem_of_mem_drop
abbrev DS:=@Nat.lt_of_le_of_lt
abbrev DT:=@beq_iff_eq
abbrev DU:=@List.mem_iff_getElem
abbrev DV:=@List.take_length
abbrev DW:=@List.getElem?_append_left
abbrev DX:=@List.getElem?_map
abbrev DY:=@Int.natCast_nonneg
abbrev DZ:=@Nat.ne_of_lt
abbrev D1:=@PySem.F.slot_list_append
abbrev D2:=@Nat.add_sub_of_le
abbrev D3:=@List.nil_append
abbrev D4:=@Nat.add_assoc
abbrev D5:=@PySem.F.type_list_append
abbrev D7:=@List.pairwise_iff_getElem
abbrev D8:=@Nat.lt_of_le_of_ne
abbrev D9:=@List.mem_of_getElem?
abbrev Ea:=@Nat.lt_of_succ_lt
abbrev Ec:=@Nat.le_of_not_lt
abbrev Ed:=@List.take_append_of_le_length
abbrev Ee:=@Array.length_toList
abbrev Ef:=@List.replicate_succ
abbrev Eg:=@Nat.sub_succ_lt_self
abbrev Eh:=@Nat.le_of_lt_succ
abbrev Ei:=@List.take_add_one
abbrev Ej:=@Nat.lt_of_succ_le
abbrev Ek:=@Nat.le_add_right_of_le
abbrev El:=@PySem.mem_of_lookup
abbrev Em:=@Nat.mul_comm
abbrev Eo:=@Nat.add_le_add_right
abbrev Ep:=@List.map_cons
abbrev Er:=@Nat.zero_add
abbrev Es:=@List.flatten_cons
abbrev Et:=@Nat.min_le_right
abbrev Eu:=@PyProof.Rows.slot_tuple_getitem
abbrev Ev:=@Nat.sub_lt_of_lt
abbrev Ew:=@Nat.mul_assoc
abbrev Ex:=@Nat.add_sub_cancel_left
abbrev Ey:=@List.length_eq_zero_iff
abbrev Ez:=@Nat.add_lt_of_lt_sub'
abbrev EA:=@List.drop_eq_getElem_cons
abbrev EB:=@List.drop_drop
abbrev EC:=@PySem.wpAny_mono
abbrev ED:=@List.drop_eq_nil_of_le
abbrev EE:=@List.mem_append_left
abbrev EF:=@List.ext_getElem?
abbrev EG:=@Nat.min_le_left
abbrev EH:=@List.pairwise_cons
abbrev EI:=@Nat.pow_succ
abbrev EJ:=@List.map_map
abbrev EK:=@PySem.wpAny_holding
abbrev EL:=@PySem.wpAny_field
abbrev EM:=@PySem.wpAny_callSpecial?_slot
abbrev EN:=@Nat.lt_add_of_pos_right
abbrev EO:=@Nat.sub_lt_sub_left
abbrev EQ:=@decide_eq_false
abbrev ER:=@List.getElem_mem
abbrev ES:=@List.drop_append_of_le_length
abbrev ET:=@List.filter_eq_nil_iff
abbrev EU:=@PyProof.Rows.boot_list
abbrev EV:=@Nat.mul_le_mul_left
abbrev EW:=@PyProof.Rows.callWith_type1
abbrev EX:=@PyProof.Rows.wpS_forRange
abbrev EY:=@List.drop_zero
abbrev EZ:=@le_of_eq_of_le
abbrev E1:=@List.map_take
abbrev E3:=@List.getElem_take
abbrev E4:=@Nat.pow_le_pow_right
abbrev E5:=@List.reverse_reverse
abbrev E6:=@List.mem_map
abbrev E7:=@PySem.wpAny_Call_Name_kw
abbrev E8:=@PySem.F.plain_min_loop
abbrev E9:=@PySem.W.kia_one
abbrev Fa:=@List.map_drop
abbrev Fb:=@Nat.lt_succ_self
abbrev Fc:=@Nat.min_eq_right
abbrev Fd:=@PySem.Heap.get?_update_ne
abbrev Ff:=@Nat.le_of_succ_le
abbrev Fg:=@Nat.lt_succ_of_le
abbrev Fh:=@Nat.add_le_add_iff_left
abbrev Fj:=@Bool.false_eq_true
abbrev Fk:=@List.mem_filter
abbrev Fl:=@Nat.le_succ
abbrev Fm:=@PySem.F.slot_list_extend
abbrev Fp:=@Nat.succ_pred_eq_of_ne_zero
abbrev Fq:=@Nat.sub_one_lt_of_lt
abbrev Fs:=@Nat.sub_le_sub_right
abbrev Ft:=@Nat.le_sub_one_of_lt
abbrev Fu:=@Array.toList_reverse
abbrev Fv:=@List.not_mem_nil
abbrev Fw:=@List.cons_append
abbrev Fx:=@PyProof.Rows.wpS_mono
abbrev Fy:=@List.getElem?_set_self
abbrev FA:=@Nat.pow_pos
abbrev FD:=@Nat.pow_add
abbrev FE:=@List.getElem_append_right
abbrev FG:=@Nat.add_zero
abbrev FJ:=@Nat.add_sub_self_left
abbrev FK:=@List.getElem?_drop
abbrev FL:=@Nat.eq_zero_or_pos
abbrev FM:=@PySem.F.type_list_extend
abbrev FN:=@Nat.mod_eq_of_lt
abbrev FO:=@PySem.wpAny_call_entry
abbrev FQ:=@Nat.succ_le_succ
abbrev FR:=@List.count_eq_zero_of_not_mem
abbrev FS:=@Nat.exists_eq_add_of_le
abbrev FU:=@Nat.lt_irrefl
abbrev FV:=@Nat.mod_lt
abbrev FW:=@PySem.wpAny_truthy_bool
abbrev FX:=@List.getElem_drop
abbrev FY:=@Nat.add_lt_add_left
abbrev FZ:=@List.sum_append
abbrev F1:=@Eq.symm
abbrev F2:=@List.reverse_append
abbrev F3:=@PySem.wpAny_rule
abbrev F4:=@Nat.sub_le
abbrev F5:=@List.length_singleton
abbrev F6:=@Int.ofNat_sub
abbrev F7:=@Int.ofNat_lt
abbrev F8:=@Nat.eq_sub_of_add_eq'
abbrev F9:=@List.take_zero
abbrev Ga:=@PySem.sizeLine_eq
abbrev Gb:=@PySem.wpAny_seqItems
abbrev Gd:=@List.foldl_append
abbrev Ge:=@List.take_sublist
abbrev Gf:=@List.count_append
abbrev Gg:=@PySem.wpAny_newObj_type
abbrev Gh:=@List.length_range
abbrev Gi:=@Int.neg_ofNat_le_natCast
abbrev Gj:=@Nat.sub_pos_of_lt
abbrev Gk:=@Option.map_some
abbrev Gm:=@PySem.wpAny_passesOwn
abbrev Gn:=@List.getElem_append_left
abbrev Gp:=@Nat.and_two_pow_sub_one_eq_mod
abbrev Gq:=@Nat.ne_of_gt
abbrev Gr:=@Nat.sub_zero
abbrev Gs:=@Nat.sub_self
abbrev Gu:=@Nat.add_mul
abbrev Gv:=@List.getElem?_replicate
abbrev Gw:=@Nat.mul_add
abbrev Gx:=@mg_of
abbrev Gy:=@List.flatten_append
abbrev Gz:=@beq_eq_false_iff_ne
abbrev GD:=@PySem.W.callWith_K0
abbrev GG:=@Nat.add_le_add_left
abbrev GJ:=@List.length_reverse
abbrev GQ:=@List.perm_middle
abbrev GU:=@List.mem_reverse
abbrev G1:=@List.mem_range
abbrev G2:=@Nat.add_le_add
abbrev G5:=@Nat.mod_eq_sub_mul_div
abbrev G6:=@Ne.symm
abbrev G7:=@Nat.eq_zero_of_not_pos
abbrev G8:=@PyProof.Rows.boot_isinstance
abbrev G9:=@of_decide_eq_false
abbrev Ha:=@Nat.sub_eq_iff_eq_add
abbrev Hb:=@PyProof.Rows.boot_min
abbrev Hc:=@Nat.add_comm
abbrev Hd:=@Bool.eq_iff_iff
abbrev He:=@PySem.W.methodCall_KW
abbrev Hf:=@Nat.lt_trans
abbrev Hg:=@List.find?_cons
abbrev Hh:=@List.singleton_append
abbrev Hi:=@List.sum_cons
abbrev Hj:=@PySem.wpAny_attempt
abbrev Hk:=@List.getElem?_set_ne
abbrev Hl:=@List.perm_cons_erase
abbrev Hm:=@Nat.eq_sub_of_add_eq
abbrev Hn:=@List.take_take
abbrev Hs:=@List.drop_left
abbrev Hu:=@PySem.Heap.size_push
abbrev Hv:=@PySem.wpAny_tryCatch
abbrev Hx:=@List.extract_eq_take_drop
abbrev Hy:=@Nat.lt_of_not_le
abbrev HA:=@Int.lt_of_not_ge
abbrev HB:=@PySem.wpAny_isInstance
abbrev HC:=@List.getElem?_range
abbrev HD:=@List.map_congr_left
abbrev HE:=@PySem.Heap.SameBut.update
abbrev HF:=@Nat.succ_pos
abbrev HG:=@Nat.div_add_mod
abbrev HH:=@List.count_cons
abbrev HI:=@List.count_pos_iff
abbrev HJ:=@Nat.pos_of_ne_zero
abbrev HK:=@List.of_mem_zip
abbrev HL:=@List.cons.inj
abbrev HM:=@PyProof.Rows.listUpdate_at
abbrev HN:=@PyProof.Rows.get?_update_seq
abbrev HP:=@PySem.wpAny_execs_nil
abbrev HQ:=@PySem.W.callWith_K
abbrev HR:=@List.nodup_cons
abbrev HS:=@PySem.tupleKind_room_in1
abbrev HU:=@PySem.codeAny_builtin
abbrev HV:=@PySem.slot_listiter_next
abbrev HW:=@PyProof.Rows.bitAnd_pp
abbrev HX:=@List.length_take_of_le
abbrev HY:=@PySem.W.cellsFrom_some
abbrev HZ:=@PySem.F.entry_min_loop
abbrev Ib:=@Nat.lt_trichotomy
abbrev Ic:=@Nat.lt_succ_of_lt
abbrev Ie:=@List.pairwise_map
abbrev Ig:=@PySem.wpAny_letGo
abbrev Ih:=@Nat.add_sub_assoc
abbrev Ii:=@if_false
abbrev Ij:=@Nat.lt_add_one
abbrev Ik:=@le_of_le_of_eq
abbrev Il:=@PySem.isSubtype_stop
abbrev Im:=@Nat.le_add_left_of_le
abbrev Io:=@PyProof.Rows.boot_int
abbrev Iq:=@Int.ofNat_add_one_out
abbrev Ir:=@List.length_filter_le
abbrev Iu:=@Nat.lt_of_sub_eq_succ
abbrev Iv:=@List.mem_of_mem_erase
abbrev Iw:=@Nat.add_le_of_le_sub'
abbrev Ix:=@Nat.sub_eq_zero_of_le
abbrev Iy:=@Array.getElem?_toList
abbrev Iz:=@Nat.div_eq_of_lt
abbrev IA:=@Bool.and_eq_true
abbrev IB:=@List.drop_length
abbrev IC:=@List.exists_mem_of_length_pos
abbrev ID:=@List.map_snd_zip
abbrev IE:=@Nat.le_of_not_ge
abbrev IF:=@PySem.Around.under_plainId
abbrev IG:=@Array.toList_extract
abbrev IH:=@List.take_add
abbrev II:=@Nat.mul_add_div
abbrev IJ:=@List.filter_map
abbrev IK:=@List.length_set
abbrev IL:=@Int.natCast_pos
abbrev IM:=@Nat.le_add_left
abbrev IN:=@List.length_nil
abbrev IP:=@List.mem_map_of_mem
abbrev IQ:=@List.filterMap_cons
abbrev IR:=@PySem.W.plainGet_of
abbrev IS:=@PySem.F.slot_enumerate_next
abbrev IT:=@Nat.sub_le_sub_left
abbrev IU:=@Nat.mod_mul_right_div_self
abbrev IV:=@Nat.mod_two_eq_zero_or_one
abbrev IW:=@Int.fdiv_eq_ediv_of_nonneg
abbrev IX:=@Array.toList_setIfInBounds
abbrev IY:=@List.map_nil
abbrev IZ:=@List.getElem?_take
abbrev I0:=@Int.ofNat_le
abbrev Ja:=@Nat.sub_add_cancel
abbrev Jb:=@Nat.sub_right_comm
abbrev Jc:=@List.take_left
abbrev Jd:=@Nat.not_lt
abbrev Je:=@Option.isSome_map
abbrev Jf:=@Nat.mul_left_comm
abbrev Jg:=@Array.toList_push
abbrev Jh:=@List.drop_sublist
abbrev Ji:=@Int.ofNat_inj
abbrev Jj:=@List.perm_nil
abbrev Jk:=@List.filter_cons
abbrev Jl:=@List.mem_flatMap
abbrev Jm:=@PySem.W.makes_of
abbrev Jn:=@Nat.sub_add_comm
abbrev Jo:=@Nat.lt_add_right
abbrev Jq:=@Nat.max_eq_right
abbrev Jr:=@Nat.ToInt.of_le
abbrev Js:=@List.map_const'
abbrev Jt:=@Nat.not_lt_zero
abbrev Ju:=@List.range_succ
abbrev Jv:=@Int.zero_add
abbrev Jw:=@Int.le_of_lt
abbrev Jx:=@Bool.false_and
abbrev Jy:=@List.drop_take
abbrev Jz:=@Nat.mul_div_le
abbrev JA:=@Eq.trans
abbrev _root_.Jaa:List PySem.Str:=["self"]
abbrev _root_.Jab:List PySem.Str:=["thing","least","most"]
abbrev _root_.Jac:List PySem.Str:=["self","bits","text","before"]
abbrev _root_.Jad:List PySem.Str:=["self","reader","count","before"]
abbrev _root_.Jae:List PySem.Str:=["text","before"]
abbrev _root_.Jaf:List PySem.Str:=["lengths"]
abbrev _root_.Jag:List PySem.Str:=["thing"]
abbrev _root_.Jah:List PySem.Str:=["size"]
abbrev _root_.Jai:List PySem.Str:=["row","place","size"]
abbrev _root_.Jaj:List PySem.Str:=["self","row"]
abbrev _root_.Jak:List PySem.Str:=["counts","most"]
abbrev _root_.Jal:List PySem.Str:=["_law_cell","_law_k"]
abbrev _root_.Jam:List PySem.Str:=["row"]
abbrev _root_.Jan:List PySem.Str:=["reader"]
namespace L2
open PySem
inductive V where
 |non|bl (b:Bool)|int (i:Int)|str (x:Str)|byt (b:Array UInt8)|flt (b:UInt64)|ref (a:JB)|ty (n:String)
 deriving DecidableEq
end L2
namespace W16
open PySem
inductive Pc where
 |sg (s:Nat)
 |cp (b z:Nat)
 deriving DecidableEq
end W16
section
local macro_rules|`(mutual $c* end)=>do
 let A:=``Lean.Parser.Term.app
 let n a:=Lean.mkNullNode a
 let f (m:Lean.NameMap (Array Lean.Name×Lean.Syntax)) (s:Lean.Syntax):=s.rewriteBottomUp λ s=>
  let k:=s.getKind
  if s.isIdent then match m.find? s.getId with|some (#[],b)=>b|_=>s
  else if k==A then
   let a:=s[1].getArgs
   let (h,a):=match m.find? s[0].getId with
    |some (p,b)=>(b.rewriteBottomUp λ t=>if t.isIdent then ((p.zip a).toList.lookup t.getId).getD t else t,a.extract p.size a.size)
    |_=>(s[0],a)
   if a.isEmpty then h else if h.isOfKind A then .node .none A #[h[0],n (h[1].getArgs++a)] else .node .none A #[h,n a]
  else if k==``Lean.Parser.Tactic.show&&s[1].isOfKind ``Lean.Parser.Term.byTactic then .node .none ``Lean.Parser.Tactic.paren #[Lean.mkAtom "(",s[1][1],Lean.mkAtom ")"]
  else if k==``Lean.Parser.Command.universe then .node .none ``Lean.Parser.Command.end #[Lean.mkAtom "end",if s[1][0].getId==`s then n #[] else n #[s[1][0],n #[]]]
  else s
 let m:=((c[0]!.raw.find? (·.isOfKind ``Lean.Parser.Term.matchAlts)).getD .missing)[0].getArgs.foldl (init:={}) λ m t=>
  let p:=t[1][0][0]
  let b:=f m t[3]
  if p.isIdent then m.insert p.getId (#[],b) else m.insert p[0].getId (p[1].getArgs.map (·.getId),b)
 return n ((c.extract 1 c.size).map λ x=>f m x)
mutual
example:=λ
|Fr=>List Nat
|Η ζ η θ ι=>by obtain⟨_,_,ζ⟩:=η;obtain⟨_,_,θ⟩:=ι
|Ι ζ=>some (.lst ζ)
|SL ζ=>(ζ:Int)
|ST ζ=>some (.ref ζ)
|xby ζ η θ=>upd ζ η (.lst θ)
|Id=>some o
|Wp ζ=>(ζ).map vN
|xtw ζ η=>wpAny (model ζ η)
|Os=>pv 0
|No=>Array Keyed
|SB ζ=>some (vN ζ)
|xbn ζ=>⟨ζ,rfl⟩
|KB=>List V
|xcI ζ η=>by obtain⟨ζ,rfl⟩:=η
|xkL ζ η=>List (ζ×η)
|xav ζ η=>⟨_,ζ,η⟩
|xom ζ=>am (i:=ζ)
|PP=>hr.mono Z9
|xa7 ζ=>aa ζ af
|xi4 ζ η θ=>some (.ins ζ η θ)
|xcJ ζ η θ ι μ=>upd ζ η (.ins θ ι μ)
|xon ζ η=>aq (λ _ ζ=>η)
|xaz ζ η θ=>ab (xom ζ η θ)
|KM=>pv 1
|xqv ζ η=>{cls:=.type ζ,data:=η}
|xcV ζ=>ζ≤sizeLine
|Ψ ζ=>ζ->Prop
|Ps ζ η θ=>i' ζ η (ai θ)
|Ξ ζ=>autoParam ζ Z0
|xHC=>Option JC
|xoo=>λ _ _=>False
|xl6=>λ _ _=>rfl
|xbo ζ η=>aa ζ (xa7 η)
|SZ=>.ref a
|Tl ζ η θ=>by rw [ζ] at η;cases θ
|xgl ζ=>starEach ζ X.env
|Ο ζ=>.inl (JS.of ζ)
|xck ζ=>(ζ:Str)
|xah=>.ref l
|xHD ζ=>Inv ζ JM σ
|xg3 ζ η θ=>y' ζ η θ mg base
|xcc ζ=>ae (aw ζ)
|xaS ζ=>by refine wpS_bind ζ
|xcd ζ=>some (.tup ζ)
|On=>pv 2
|LE ζ η=>λ ζ η=>?_
|xg4 ζ=>eval ζ X.env
|xbp ζ η θ ι=>by obtain⟨ζ,η⟩:=θ;refine ι
|P3=>C4 _
|xqw ζ=>(List.range ζ).map
|xaT ζ=>xav ζ ?_
|xDo=>model prog
|Φ=>.ref p
|xbb ζ η θ ι=>by generalize xby ζ η θ=ι at*
|xi5 ζ η=>putF ζ (.ref η)
|xqx=>Ξ ((backTo pos (starEach es X.env)).any (·.1)=false)
|M2=>JY Z8
|xdG=>X.env.cells.lookup x
|xKK=>sIx items.size
|xzW ζ η=>((ζ).drop η).take
|xi6 ζ η=>(List.replicate ζ η).flatten
|xbP ζ η=>(ad ζ η).symm
|xgm=>xHD X
|xg5=>T.map vN
|υ=>pv 4
|xaD ζ=>aD (top ζ)
|UF=>pv 3
|xe1 ζ=>L.getD ζ 0
|xcK=>ts.map V.ref
|XL=>ay Os rfl
|xbE ζ η θ=>upd ζ η (.tup θ)
|xeI=>congrArg List.length
|xcL=>ord κ
|xzX ζ η=>s.heap.get? ζ=η
|xl7=>seqObj "list"
|xkM ζ η=>ag (ad ζ η)
|xeJ ζ η θ=>by obtain⟨ζ,η,rfl⟩:=θ
|xas ζ=>ak (o:=.lst ζ)
|ω ζ=>Ι (Wp ζ)
|NE ζ=>ζ=true
|xbZ=>.inl rfl
|xb0=>.ref f
|xaA=>List Bool
|xcl ζ=>λ ζ=>?_
|xtx ζ η θ ι=>xgm ζ {η with heap:=θ,toks:=ι}
|xaj=>List Str
|xa8 ζ η θ ι μ=>by obtain⟨ζ,η,θ⟩:=ι;refine μ
|xzY ζ η=>s.heap.push (xqv ζ η)
|xi7 ζ=>{s with heap:=ζ}
|xop ζ η=>absurd (show ζ from η)
|xd8 ζ η=>putF ζ (vN η)
|xbc=>Kd κ
|Ε ζ η θ=>Fn K mg ζ η θ f fd
|xl8 ζ η θ=>by(rcases Dm.mp ζ with η|θ)
|xbq ζ η=>(ζ++η).length
|Α ζ=>xg3 P w K JU ζ f fd
|xdj ζ η θ ι μ=>xaz ζ η θ (ab ι μ)
|xww ζ=>Binds ζ fd
|xbd ζ=>xav rfl ζ
|xdk=>ns.map V.int
|xcM ζ η=>(ζ).lookup (xck η)
|xcm=>λ _=>?_
|xb1 ζ=>.int ζ t
|xe2=>B.map vN
|xd9 ζ η=>λ ζ=>decide η
|xl9=>xgm H
|xaa=>List JB
|xDp=>xtw X.prog X.w
|xa9 ζ η θ ι μ=>by obtain⟨ζ,η,θ⟩:=ι;exact μ
|xb2 ζ=>⟨rfl,ζ⟩
|xbr ζ=>Q ζ H'
|xe3=>xck "whole_bytes"
|xma ζ η θ=>by obtain⟨_,_,ζ⟩:=η;refine θ
|xqy ζ η θ ι μ=>by obtain⟨ζ,η,θ,ι⟩:=I.list μ
|xh1=>kf κ
|xcn=>C' H
|xbQ ζ η θ ι=>aA ζ η θ (xa7 ι)
|xa4 ζ η θ ι=>by obtain⟨ζ,η⟩:=θ;exact ι
|xab=>some v
|xty=>Ψ Hp
|xtz ζ=>autoParam ζ ZZ
|xqz ζ η θ ι μ=>by obtain⟨ζ,η,θ,ι,μ⟩:=z9
|xzZ ζ=>instObj ζ s.heap.objs.size
|xkN=>s.heap.push emptyDict
|xe4=>s1.trans s2
|Τ=>Dq rfl
|Ρ=>PE X
|xea ζ η=>xi4 ζ dx η
|xcW ζ η θ ι μ=>thn ζ (λ η θ ι=>μ)
|ρ ζ=>ζ=false
|xce=>Option Int
|xaw=>List Bd
|xqA ζ η=>aI ζ η rfl
|Pi=>xl9 s
|xfu ζ η=>ap ζ η aj
|xi8=>W13.puts It
|Χ=>some x
|xtA ζ=>absurd (CY ζ)
|xDq ζ=>L.map (sgl ζ)
|xe5=>SG.kf SG.kInt
|π=>xkL JB JK
|xax ζ η=>∀b∈ζ,η
|Β=>xcn H'
|xaE=>List JC
|xcX=>Value.ref a
|xdH=>.ref C
|xco ζ=>(Da.mp ζ).1
|xg6 ζ η θ=>(ζ.2 η θ).trans
|UV ζ η θ=>by rw [ζ] at η;exact θ
|xqB=>kv.toArray.zip its.toArray
|Μ ζ=>ζ.2.1
|xfv ζ η θ=>xby ζ η (Wp θ)
|xan ζ=>D' ζ _
|xfw ζ=>P.length+ζ
|xao=>some u
|xz0 ζ=>(pendingOf ζ).size
|xmb=>.ref s.heap.objs.size
|xg7 ζ=>ζ<s.heap.objs.size
|xoq=>arrOf sq0
|χ=>g1 _ _ ?_
|xkO=>S.map vN
|xqC ζ η=>NE (keepIn ζ η)
|KF ζ=>SL (ζ:Nat)
|xcf ζ=>some (xb1 ζ)
|xi9=>xDp X.A
|xay ζ η θ ι=>⟨ζ,η,rfl,θ,ι⟩
|xdI=>some .local
|xg8 ζ η=>scope.names.lookup ζ=η
|xqD ζ=>aN (i:=ζ)
|xtB=>xbr .non
|xdJ ζ=>some (.int ζ)
|xe6 ζ η=>by refine ζ;clear η
|xcg ζ η θ=>by show xe6 (xon ζ η) θ
|xqE=>X.env.scope.names.lookup x
|xKL=>HT.sIx xs.length
|xkP=>W.map vN
|xDr ζ=>.str (Str.ofString ζ)
|xgn=>xck "__debug__"
|xbz ζ η=>(ζ).length≤η
|xmc ζ=>some (.builtin ζ)
|xbR ζ η θ=>by(rcases Dj.mp ζ with η|θ)
|xz1=>NoAttr K
|xja=>aL X.len
|xcu=>h'.get? b
|xcY ζ η θ ι μ=>by show xbp ζ η θ (F.F.ok ι μ)
|xeb ζ=>(ag ζ).trans
|xjb ζ=>["self",ζ]
|xtC ζ η=>ab (xqA ζ η)
|xgo ζ η θ ι=>by obtain⟨_,_,ζ⟩:=η;have θ:=ι
|xac ζ η=>⟨ζ,η,?_⟩
|xcN ζ η θ ι μ=>by obtain⟨ζ,η,rfl,θ,ι⟩:=μ
|xdl ζ η θ ι=>EC ζ η (λ _ _ θ=>ι)
|xdm ζ η θ=>⟨ζ,η,rfl,θ⟩
|xdK ζ η θ=>⟨_,ζ,η,θ⟩
|xmd=>.int 0
|xat ζ η=>(ζ).length=η
|xjc=>R.map vN
|xe7 ζ η=>xi9 ζ η X.xe
|xeK ζ=>by exact False.elim ζ
|xcv ζ η=>.inr ⟨ζ,η⟩
|xme=>.ref it
|xaU ζ η θ ι μ=>xdj ζ η θ ι (xcc μ)
|Ν ζ=>c≠ζ
|xjd=>I.hok.fresh P3
|xfx ζ η θ ι=>J' ζ "__init__" η θ ι fd
|xmf=>Str.ofString "key"
|xcw=>cdAt L
|xcZ ζ η θ=>ar ζ η θ (ax _)
|xqF ζ=>X.s₀.heap.objs.size≤ζ
|xaL=>pv 5
|xmg=>K w.params
|xHE ζ=>Obj.mapSeq (λ _=>ζ)
|xbF=>List α
|xh2=>Option Nat
|xch=>s1 _ _
|xaJ=>xkL Nat Nat
|xae ζ η θ=>show ζ=η from θ
|xmh=>xs.toList.drop i
|xqG=>ai st
|xbG ζ=>xas (Wp ζ)
|xec ζ η=>aU (xcl ζ) (xcl η)
|IO ζ η=>by rw [ζ];exact η
|Ty ζ η=>by show IO (ag ζ) η
|xh3 ζ η θ=>by show IO (xkM ζ η) θ
|xqH ζ=>ζ≤xs.length
|Ω=>DB _
|xaV=>some c
|xgp ζ η=>by intro ζ;cases η
|xe8=>List Keyed
|xgq ζ=>T.take (64*ζ)
|xtD ζ=>xkL Str ζ
|xfy=>le_trans xcL
|TD ζ η θ=>∃f fd,Ε ζ η θ
|xfz=>xck "blocks"
|xfA=>xck "course"
|xba ζ η θ ι=>by subst ζ;show Tl η θ ι
|xed=>bt R
|xor ζ η=>K.lookup ζ=η
|xc0=>Option V
|xmi=>xbn rfl
|xdn ζ η θ=>aa ζ (xbo η θ)
|xbe ζ η θ ι μ=>aA ζ η θ (xbo ι μ)
|xqI ζ η θ ι=>by generalize ζ=η at*;generalize θ=ι at*
|xak=>xbr xah
|xDs ζ=>List.replicate ζ none
|xje ζ=>(B.take ζ).drop
|xkQ=>xck "many_signs"
|xbH ζ=>ζ≤1000
|xcx=>tots ps
|xos=>DT.mp z
|xgr=>P'.take i
|xfB ζ η θ ι=>by rw [ζ,η] at θ;cases ι
|xg9 ζ=>⟨Z9,ζ⟩
|xDt=>.seq its.toArray
|xbI ζ=>by show xe6 ζ g1
|xdo ζ=>xax ζ (b<256)
|xdp=>h.get? b
|xz2=>aV st
|xee ζ=>xaT (xcc ζ)
|xeL ζ η θ ι μ=>by refine ζ;obtain⟨η,θ,ι⟩:=μ
|xgs ζ η θ ι=>aH (xcZ ζ η θ) (ae ι)
|xwx ζ=>xqv "list" ζ
|xaF ζ η θ=>aC (v:=.int ζ) Z7 η (xbn θ)
|xfC=>some .cell
|xaW ζ η=>by exact absurd ζ η
|xdq=>s.heap.objs.size+1
|xwy ζ=>aE (j:=ζ) rfl
|Γ=>8*R.length
|xbs ζ=>⟨_,ζ⟩
|xgt=>J3.refl _
|xwz=>fP co
|xaG ζ=>by refine CS ζ
|SC ζ η=>by refine ζ;refine η
|xc1 ζ η=>by show xaG ζ;show xaG η
|xbf ζ η=>by show SC (xaT ζ) η
|xot ζ η θ=>by obtain⟨ζ,rfl,η⟩:=θ
|xe9 ζ η θ=>upd ζ η (.own θ)
|xha=>X.take n
|xaf=>SL n
|xwA=>Nat.sub_eq_zero_iff_le.1
|xfD ζ=>SL (ζ).length
|xb3=>most S p
|xkR ζ=>ζ≠X.env.locals
|xou ζ η θ=>cutV ζ η (some θ)
|xtE ζ η=>(L3.heap.update ζ η).get?
|xcy=>.ref x
|xfE ζ η=>⟨rfl,ζ,η⟩
|xc2 ζ η θ=>if ζ then _ else η::θ
|xcz ζ=>ab (aB ζ)
|xtF ζ=>Q (.bl ζ)
|xef ζ η θ=>λ ζ=>absurd η θ
|xbS ζ η θ=>if NE ζ then η else θ
|xgu=>none_of s0
|xtG ζ=>fO ζ S.length
|xfa=>Ψ SortSt
|xhb ζ η=>some (.frz ζ η)
|xfF ζ=>Α ζ Jaa
|τ=>by show xgp z z
|xgv ζ η θ=>xcW ζ η θ z9 ?_
|Re ζ η=>ζ=some η
|xaH ζ η θ=>Re ζ[η]? θ
|xfG ζ η=>Re (H ζ) η
|xov ζ η=>Re (s'.heap.get? ζ) η
|xaX ζ η θ ι=>by(rcases DQ ζ η with θ|ι)
|xtH=>K31.C.bt R
|xhc ζ η=>Re (h.get? ζ) η
|xcp ζ η=>decide (ζ=η)
|xfH=>λ _=>rfl
|xdL ζ=>occ ζ p
|xjf ζ η θ=>by obtain⟨_,_,FI,ζ,η⟩:=θ
|xeg=>‹_›
|xwB=>aL T.len
|xDu=>J3 blt
|xow ζ η θ=>by show xeJ ζ η (DU.mp θ)
|xbA=>ap aG
|xKM ζ=>xzY "list_iterator" (.fields ζ)
|xap=>kp _ _
|xtI ζ=>Heap.ExtBut ζ s.heap
|xfI ζ=>ζ≤B.length
|xox ζ=>List.replicate ζ a
|xDv ζ=>A'.length+ζ
|xhd=>xDv M.length
|xfJ ζ η θ=>by show xcI ζ η;exact θ
|xtJ ζ=>tots (puts ζ)
|xh4 ζ=>Vals ζ us
|xqJ=>sc.names.lookup x
|xz3 ζ=>λ _ _ _ _ _ _ _ q=>ζ
|xtK=>eqv blt
|xjg ζ=>JQ ζ Rb.length
|xeh=>I.tok _
|xjh=>Me K
|xfb ζ=>ζ<xs.length
|xz4 ζ=>ζ<sizeLine
|xh5=>xz4 ys.length
|xoy ζ=>ak (o:=.tup ζ)
|xz5=>L.map vN
|xqK ζ η=>Ps ζ Jaa η
|xbt=>Fn K mg
|xei ζ η=>by show xl8 ζ rfl η
|Sc ζ η θ=>λ ζ η θ=>?_
|xhe ζ=>xbs (JS.of ζ)
|xmj ζ=>by rw [ζ] at this
|xbB ζ η θ ι μ=>by have ζ:η:=θ;generalize ι=μ at*
|xgw ζ=>ζ≤T.length
|xbT ζ=>xea C ζ
|xkS=>xck "waiting"
|xcA=>.int i
|xHF=>Nat.not_lt.1
|xmk ζ=>ζ<L.length
|xcO ζ=>⟨ζ,?_⟩
|xh6 ζ η=>⟨ζ,.inr η⟩
|xkT ζ η θ ι μ=>by obtain⟨ζ,η,θ,ι⟩:=I.tuple μ
|xfK ζ η=>xzX ζ (some η)
|xml ζ=>(Dj.mp ζ).elim
|xwC ζ η=>let⟨n1,n2,n3,n4⟩:=Sd ζ;η
|xfL ζ=>ζ≤S.length
|xdM=>aT af
|xDw=>nomatch z
|xKN=>((s.heap.push (seqObj "list" #[] 0)).update s.heap.objs.size (Obj.mapSeq (·++its.toArray))).push
|xqL ζ=>(Qs.take ζ).count
|xh7=>none_of s1
|xej ζ η=>xby ζ l η
|xfM ζ η=>decide (ζ<η)
|xdN ζ=>ζ<S.length
|xkU ζ=>(ζ).Pairwise xbc
|xHG ζ=>Walk ζ W.length
|xkV=>X.env.qual++"<lambda>"
|xdO=>Dl ?_
|xgx ζ=>xs.length-ζ
|xz6=>KK κ
|xeM=>pairs B
|xqM ζ=>xi5 "signs_check" ζ
|Ζ ζ=>ζ=none
|XV ζ=>Ζ (H ζ)
|Θ=>XV l
|xkW ζ η=>Ζ ((ζ).lookup η)
|xag=>p.1
|xfc=>.ref t
|xb4=>Dt e
|xgy=>cn Q
|xhf=>Option JB
|xDx ζ=>W.length≤ζ
|xwD ζ=>X.length-ζ
|xtL ζ=>ζ≠s.heap.objs.size
|xfN=>List Env
|xek=>List Pc
|xtM=>V.int 0
|xh8 ζ=>bf (C:=ζ)
|xmm=>xcV xs.length
|xHH=>xqw C.length
|xaM ζ η θ ι=>by have ζ:=η;rw [θ] at ι
|xai=>Ν p
|xqN ζ=>call (.builtin ζ)
|xhg ζ=>ζ≤L.length
|xqO ζ=>(L.take ζ).count
|xdr ζ=>⟨dx,ζ⟩
|xji ζ η θ=>NE (codeIn ζ η θ)
|xwE ζ=>.int (kf ζ)
|xwF ζ=>(List.range ζ).filter
|xjj=>["before"]
|xcP=>kf x
|xjk=>G.map vN
|xjl=>Y.map vN
|xb5=>xch e
|xh9 ζ=>L.length≤ζ
|xz7 ζ=>bp ζ rfl
|xds ζ=>by show xcg g1 ζ g1
|xfd=>upd H
|xHI ζ η=>HE ζ η (Obj.mapFields (·.setIfInBounds 0 Value.none))
|xqP=>.bool true
|xaq=>H' l
|Υ ζ η θ=>J' K ζ η θ f fd
|xar=>s5 _ _
|Tm ζ η=>by rw [ζ];refine η
|xwG=>standAt apos.atName
|xtN ζ=>s1.heap.objs.size+ζ
|xbu=>aq (LE R1 g1)
|xjm ζ=>(xgq ζ).drop
|xhh ζ η θ ι=>by refine ζ;obtain⟨η,θ⟩:=ι
|xwH ζ η=>(xs.extract ζ η).toList
|xtO=>C9.cdAt L
|xwI ζ η θ ι=>by obtain⟨_,ζ⟩:=η;obtain⟨_,θ⟩:=ι
|xbJ=>Ι xg5
|xaN ζ=>by exact .inl ζ
|xad ζ η=>xaH ζ i η
|xz8=>run a
|xaY ζ=>ζ.2.2
|xjn ζ=>.cons ζ .nil
|xjo ζ=>NE (ζ).isSome
|xwJ ζ η=>xqv ζ (.fields η)
|xdP=>xDq wt
|xDy=>.builtin "object.__class__"
|xjp ζ=>wpAny _ X.A.in1 ζ _ _
|xtP ζ=>tots (pP ζ)
|xia ζ=>.ref (os ζ)
|xmn=>K.In s.heap
|xib ζ η=>by show IO (DF.mp ζ) η
|xz9 ζ=>T.length≤ζ
|xwK=>R.take i
|xhi=>.dT []
|xcQ=>SL 0
|xAa=>.type "StopIteration"
|xfe=>xi7 h'
|xkX ζ η θ=>by have:=ζ;show UV η this θ
|Uf=>H a
|xa5 ζ η=>by rw [<-ζ];exact η
|xgz ζ=>ζ<X.length
|xc3 ζ=>xqK Jaa ζ
|xb6 ζ η θ=>(ζ).take (η-θ)
|xaB=>H' c
|xb7=>L7 κ
|xb8=>Ι xs
|xdQ ζ η θ ι=>xaz ζ η θ (ae ι)
|xAb ζ η=>aM (DT.mpr ζ) (DA η)
|xdt ζ η=>⟨ζ,η,rfl⟩
|xfO ζ=>Ζ (H1 ζ)
|xbK=>C5 h
|xoz ζ η θ=>by obtain⟨_,_,ζ⟩:=η;exact θ
|xqQ=>tail.drop m
|xoA=>xa7 aj
|xff ζ=>xtz (ρ ζ)
|xqR ζ η θ=>by obtain⟨_,_,_,ζ⟩:=η;exact θ
|xbg=>xbn _
|xic=>Le blt kf
|xwL=>b.toList.drop ib
|xHJ ζ=>xd8 "blocks" ζ
|xdu ζ=>xtC Os ζ
|xjq ζ η θ=>Re ((ζ).get? η) θ
|xc4 ζ η θ ι=>⟨ζ,η,θ,rfl,ι⟩
|xAc=>D.nx σ
|xqS ζ η θ ι=>codeAny ζ η (.call θ ι)
|xid ζ=>⟨ζ,[]⟩
|xcR ζ=>by show xcV ζ;decide
|xkY ζ=>De ζ e1.symm
|xDz=>SM.J3 SG.kInt.blt
|xfP=>List Fr
|xmo ζ=>xav ζ rfl
|xmp ζ=>Ζ (X.mg ζ)
|xtQ ζ η θ ι μ=>by obtain⟨ζ,η⟩:∃θ,ι:=μ
|xdR=>C7 _
|xkZ=>Db _
|xAd=>.dT JV
|xc5 ζ η=>xgv ζ η s1
|xmq=>ag Mz.symm
|xAe ζ η=>I1.fpOk ζ (I1.hok.fresh η)
|xqT ζ=>cb (bC ζ)
|xqU ζ=>S.length+ζ
|xfQ ζ=>Ζ (mg ζ)
|xel ζ=>wpAny _ _ ζ _ _
|xfg=>xz8 L
|xwM ζ=>ζ=ps.length
|xem ζ η θ=>⟨ζ,LE η θ⟩
|xk0 ζ η θ=>⟨ζ,rfl,rfl,η,rfl,θ⟩
|xqV ζ=>.seq (ζ).toArray
|xDA=>Builtin.Tuple.tupleExact _
|xtR=>pcAt S
|xDB=>pf false
|xwN=>Mq κ
|xoB ζ=>W13.Kv ζ It
|xwO=>MF Tb
|xmr=>["number"]
|xdv=>nb A'
|xgA=>xa7 Os
|xfR=>xDu kf
|xtS=>Ζ X.A.handled
|xoC ζ=>Μ (xaY ζ)
|xtT=>xqU T'.length
|xoD=>L.drop xfg
|xaK=>Kc _ _
|xgB=>xb2 ?_
|xb9=>2*L.length
|xAf=>λ _=>none
|xwP ζ η θ ι=>holding ζ (getMethod η θ ι)
|xeN=>pv 6
|xms ζ=>tots (pcP ζ)
|xtU=>pendingOf sq0
|xwQ ζ=>ζ+As.flatten.length
|xqW=>List W13.Itm
|xwR=>B.take 3
|xtV=>.type "list"
|xaO=>[Φ]
|xqX ζ=>xzX ζ Id
|xwS=>xck "signs_check"
|xdw ζ η=>xae ζ η rfl
|xk1 ζ=>At κ ζ pe
|xqY=>xwM vs.length
|xqZ ζ=>ζ="signs_check"
|xcq ζ η=>∀x∈ζ,η
|xq0=>["thing","most"]
|xcB=>ap bo
|xDC=>Nat.lt_sub_iff_add_lt'.2
|xdS ζ η θ ι=>by show xbb ζ η (Wp θ) ι
|xq1 ζ η=>L.filter (xd9 ζ η)
|xci=>vN s
|Δ ζ=>1≤ζ
|xaZ=>q.1
|xAg=>base.Ns mainGlobals
|xie ζ=>(false,xg4 ζ)
|xk2 ζ=>tots (pR ζ)
|xq2 ζ η θ ι=>by obtain⟨⟨ζ,η⟩,hC,θ⟩:=ι
|xa0=>xan 1
|xk3 ζ η θ=>Re (findIn ζ xdH η) θ
|xfh=>JS K H
|WF=>H c
|xbh=>q.2
|xcC ζ=>by show ζ<1000;decide
|xtW=>["before","most"]
|xk4=>xtw prog w A
|xoE ζ=>ζ==sysModules
|xDD ζ=>W.length+ζ
|xKO=>xas ((Z'.map (λ z:JB×Bd=>(((z.2.1:Nat):Int),V.ref z.1))).map (·.2))
|xmt ζ=>KF (ζ).length
|xfS=>xg9 Z9
|xhj=>xgq Qf
|xwT ζ=>h1.push (seqObj "tuple" its.toArray ζ)
|xk5 ζ=>ζ="finished"
|xtX=>congrArg some
|xjr=>List Int
|xq3=>kv.zip its
|xjs=>List Itm
|xtY=>rest.take 2
|xtZ=>rest.drop 2
|xq4 ζ=>by show xaS ζ;dsimp only
|xhk ζ η=>decide (ζ≤η)
|xc6 ζ η=>by have:=ζ;show xmj η
|xDE=>xwz wt bg
|xt0=>chk 16 45
|xmu ζ=>ζ="rest_size"
|xbL=>s3 _ _
|xgC ζ=>I.hok ζ _
|xKP=>Int.ofNat_lt.2
|xt1 ζ η=>((ζ).take η).count
|xwU ζ=>nsIn ζ mainGlobals
|xoF=>xck "rest"
|xq5=>xjb "size"
|xq6 ζ=>(ζ).Pairwise xic
|xhl=>xDE fn
|xAh ζ η=>tailR ζ (xt0 η)
|xmv=>by simpa using this
|xoG=>E2.map vN
|xmw ζ η θ ι=>by obtain⟨ζ,η⟩:=θ;cases ι
|xfT ζ=>ζ->Ψ JD
|Κ=>xfT JC
|xoH=>(xoq).toList
|xeO=>rem T Rs
|xau ζ η=>by refine F.ok ζ η;intro _
|xt2 ζ=>Ζ (failedOf ζ)
|xoI ζ=>aQ bq ζ aj xl6
|xcr=>SL 1
|xAi ζ=>Heap.SameBut ζ s.heap
|xt3=>Cls K
|xwV ζ=>BP.val (C.take ζ)
|xwW=>aX KM
|W1=>Str->xHC
|xmx ζ=>B.length≤ζ
|xa1 ζ=>(xdo ζ)
|xq7 ζ η=>Re (h'.get? ζ) η
|xt4 ζ η=>(ζ,V.ref η)
|xc7 ζ η θ ι=>xc2 ζ (xt4 η θ) ι
|xq8 ζ η=>aS aZ ζ (aO η)
|xDF ζ=>ζ==Value.none
|xt5 ζ=>xDF (Value.ref ζ)
|xoJ ζ η=>.BoolOp ζ η pos
|xt6 ζ η=>.Subscript ζ η pos
|xoK ζ=>(F6 ζ).symm
|xAj=>a.toList.drop ia
|xfU=>.ref o
|xaP ζ=>ζ≠p
|xbi=>Txt K mg
|xoL=>S.pos xgy
|xk6=>aW I q
|xc8=>xk6 Z6
|xca=>s2 _ _
|xjt ζ=>.cons ζ ih
|xhm ζ η θ ι=>s ζ η θ (.inr ι)
|xHK ζ η θ=>by obtain⟨⟨_,_,o1⟩,⟨_,_,_,ζ⟩,⟨_,_,_,η⟩⟩:=θ
|xhn ζ η θ ι=>xc4 (.bl ζ) η θ ι
|xwX=>bootBuiltins x
|xif=>List JJ
|xAk=>congrArg Nat.succ
|xAl=>Nat.lt_one_iff.1
|xwY=>cg JV
|xdT=>tl T
|xt7=>row.drop u
|xcD=>SL i
|xbv=>ST a
|xt8=>xcV JV.length
|xbU=>[SZ]
|xk7=>.ref e
|xHL=>Kr CO CK
|xAm ζ=>s.heap.objs.size≤ζ
|xt9 ζ η=>eE ζ (.builtin η)
|xua ζ=>ζ=its.length
|xgD ζ η θ=>by show SC ζ η;refine θ
|xoM ζ=>none_of ζ nl
|xDG=>["_law_text_here","_law_cell"]
|xc9 ζ=>CV ζ Z9
|xig ζ=>CV (Di ζ)
|xq9=>.error e
|xmy ζ=>X.A.units+ζ
|xeP=>cw C
|xdU=>ST f
|xKQ=>Ξ ((backTo pos (starEach (e:: []) X.env)).any (·.1)=false)
|xAn ζ η=>ρ (behindInMarks ζ η)
|xub ζ=>A.under (.builtin "type.__call__" ζ)
|xfV ζ η θ ι=>xaT (xaz ζ η θ ι)
|xAo=>["_law_size","_law_cell"]
|xeQ=>sm _ _
|xbV ζ η θ ι=>if ζ=η then θ else ι
|xju ζ=>ζ<a.size
|xwZ=>sm.trans s3
|xra ζ=>λ _ _ z=>ζ
|xfW ζ η θ=>by refine ζ;show IO η θ
|xrb=>.fields vs
|xdV=>H' b
|xuc ζ η θ=>(I.hok ζ η θ).stay
|xk8=>Dk _
|xoN=>NE X.calm
|xjv=>sgl wt
|xdW=>KF n
|xud=>xjb "text"
|xjw ζ η θ=>∀ζ∈η,xwN θ
|xue ζ η=>xk3 ζ "__init__" η
|xfi ζ=>ζ->xty
|xbM=>xfi St
|xuf ζ=>autoParam ζ ZX
|xug ζ=>E9 ζ I.kIn
|xuh ζ=>D' ζ X.A
|xjx=>.sg s
|xKR=>Nat.not_le.1
|xmz ζ=>Ρ ζ ta
|xfX ζ=>xs[ζ]?
|xw0=>Value.ref b
|xmA=>List Key
|xbW=>h.1
|xjy=>rl T
|xw1 ζ η θ ι μ=>by obtain⟨ζ,η⟩:=θ;dsimp only at ι μ
|xui ζ η=>B.take (max ζ η)
|xrc ζ η θ ι=>Due ζ η (.thing θ ι)
|xen=>Ι ys
|xmB=>Array xHC
|xuj ζ η=>NE (makesIn ζ η)
|xuk=>xz6 xs
|xKS=>MP κ left key arr
|xw2 ζ=>(xKM ζ).objs.size
|xw3=>arrOf st'
|xfY=>ak nl
|xgE ζ=>ζ<xs.size
|xul ζ=>Ej (Di ζ)
|xih ζ η=>κ.blt (xh1 ζ) (xh1 η)
|xAp=>AllBare s'.gens
|xho=>.int j
|xoO ζ=>ζ=xs.length
|xDH=>putF f
|xjz ζ η θ ι μ=>cxOf ζ η θ ι μ base
|xKT=>s.heap.update a
|xmC ζ η=>["self",ζ,η]
|xoP=>X.drop m
|xhp=>krf 12
|xDI ζ=>congrArg (List.take ζ)
|xhq ζ η θ=>(ζ).map (λ η=>θ)
|xdX ζ η=>λ ζ η=>χ
|xHM=>.builtin "object.__init__"
|xhr ζ η θ=>aH (xcZ ζ η θ)
|xjA ζ=>xax fp ζ
|xeo ζ η θ=>by have:=ζ;rw [η,θ] at this
|xk9=>xwB Os
|xhs=>JS X.K H
|xgF ζ η=>by show xkX ζ η this
|xep=>xdR e
|xht=>256^B.length
|LT ζ=>λ z=>ζ
|xoQ ζ=>aJ (LT ζ)
|xhu=>LT xDw
|xDJ=>s.heap.IsSliceOf sl
|xrd ζ=>(ζ).map V.ref
|xre=>MA κ
|xoR ζ=>by simpa [CQ] using ζ
|xeR=>kv.1
|xeS=>Ψ VK
|xoS ζ=>ζ->Nat
|xcs=>xoS Nat
|xdY=>DD _ _
|xDK ζ=>I1.kept (t':=ζ)
|xoT=>.dK JV
|xAq=>ms.map V.int
|xgG=>far p
|xmD=>fW d
|xii=>C5 h1
|xoU=>Kk.of ht
|xbw=>g _ _ ?_
|xum=>Y.drop pl
|xKU ζ η=>.Call (.Attribute ζ η apos)
|xjB ζ η=>by unfold ζ;show xaG η
|xHN=>Km X JM
|xAr=>["singles","most"]
|xmE=>CY rfl
|xdx ζ η=>⟨o,ζ,η⟩
|xcj=>s6 _ _
|xjC ζ=>ζ->Bool
|xun ζ=>Value.int ζ t
|xjD ζ η θ ι=>by obtain⟨ζ,η,θ,ι⟩:=h
|xuo ζ=>I.turned ζ f0
|xrf=>.ref c'
|xmF ζ=>(ζ,.local)
|xKV ζ=>congrArg (List.map ζ)
|xeq ζ=>xon g1 ζ
|xrg=>xDr "copy"
|xoV ζ η=>xfG ζ (.own η)
|xij ζ η θ=>ae (xom ζ η θ)
|xDL ζ=>ζ+Y.length
|xrh=>xDL X.length
|xup=>te σ3
|xri=>bitsP ps
|xuq=>T.drop b
|xfj ζ η θ ι μ=>cR DJ ζ η θ ι (xa7 μ)
|xur=>S.take p
|xus=>F7.mp this
|xla ζ=>aE (dg ζ)
|xAs ζ η=>xs.toList.take (ζ+η)
|xut=>["bundle"]
|xAt=>us.map V.ref
|xuu=>T.take e
|xAu=>.type "tuple"
|xw4 ζ=>notedBy (xDo ζ)
|xlb ζ=>xe1 (th ζ)
|xAv=>xl7 its.toArray
|xjE ζ η θ ι=>λ ζ η=>absurd θ ι
|xmG ζ η=>ρ (blt ζ η)
|xuv=>model X.prog X.w
|xlc ζ=>ae (aB ζ)
|xfk=>DO _ rfl
|xDM ζ=>(rel.val ζ).isSome_eq
|xal=>H b
|xmH=>pos C
|xDN ζ η=>envX ζ η s.heap.objs.size
|xHO ζ=>by obtain⟨_,_,Co⟩:=ζ
|xjF ζ η=>cD (xbo ζ η)
|xDO ζ η=>I.fpOk ζ (I.hok.fresh η)
|xuw ζ η θ=>(ζ).filter (xd9 η θ)
|xjG=>Fl _
|xoW ζ η θ ι=>by obtain⟨ζ,η,_⟩:=θ;exact ι
|xmI=>by simpa using hb
|xAw=>.type "int"
|xDP=>wpAny_newList ?_
|xrj=>BP.val R
|xjH=>pv 8
|xfZ=>xKK 0 lo
|xeT ζ=>xbP ζ nl
|xf0=>xe1 q
|xoX=>ad e
|xcE=>xz1 C
|xrk ζ=>some (SL ζ)
|xrl=>h.get? a
|xda ζ η=>Sc ζ η e
|xdb=>XV b
|xw5=>xck "begun"
|xDQ ζ=>aH ζ (ae aK) az
|xw6 ζ=>autoParam ζ ZW
|xw7=>cl.lookup x
|xjI=>FA Z9
|xw8=>["bundles"]
|xrm=>.lst xs
|xAx=>xgm H'
|xDR=>putF "many_signs"
|xf1=>Ι xe2
|xdy ζ η θ=>xbQ ζ hr η θ
|xf2=>ap bh
|xHP=>.Name x
|xw9=>xtD NameKind
|xxa=>xbH T.length
|xxb ζ η θ=>a8 ζ η scope θ fp
|xjJ ζ=>by show xcI t ζ
|xoY=>xtK kf
|xdZ ζ η θ ι=>⟨_,ζ,η,θ,ι⟩
|xhv ζ η=>h ζ (xkZ η)
|xjK ζ=>xww K ζ []
|xDS=>List.replicate xbh
|xjL ζ=>KF (ζ+1)
|xxc ζ η θ=>fnOf ζ η (aY st) xz2 xqG θ kV
|xHQ=>KS Ce CO CK
|xam ζ=>by rw [ζ];lia
|xcS=>by show xam CM
|xAy=>X.base.get? b
|xAz=>I.base.free b
|xfl=>DY _
|xAA=>ixN xs.length
|xHR ζ=>(s1.heap.push ζ).objs.size
|xxd=>Dh.mp h.s1
|xxe=>Dh.mp h.s2
|xDT ζ η θ=>(ζ).eraseIdxIfInBounds (η+θ)
|xux=>Y'.take l
|xuy=>Y'.drop l
|xhw=>ed L
|xDU ζ η θ=>show s.heap.IsTuple ζ η from θ
|xuz=>.ref cd
|xrn ζ=>K31.WC ζ mg
|xmJ=>.ref b
|xjM=>.ref r
|xjN=>Q .non
|xmK ζ=>by show xqz ζ H1 I1 r1 q1
|xAB=>xHE #[]
|xbj ζ η=>by refine F.F.ok ζ η;intro _
|xer ζ η=>xcJ ζ p CO dx η
|xAC=>xbt "need_row"
|xuA ζ η=>λ _ ζ=>nomatch η
|xhx=>(lcAt S q).2
|xik ζ η θ ι=>xk0 ζ η (aU θ ι)
|xro ζ η=>aQ a6 ζ η xl6
|xoZ ζ η=>xHL ζ η ck
|xrp=>xHP pos
|xld=>al S p
|xbN ζ=>ζ<256
|xgH ζ=>xcq ζ (xbN x)
|xAD ζ=>IsRangeIter ζ it
|xDV=>λ _ _ _=>False
|xo0 ζ=>by have ζ:=rv.length
|xo1 ζ=>eval ζ env
|xxf=>ps.zip us
|xuB ζ=>IntsAre ζ ns
|xHS ζ=>List.replicate ζ its.toArray
|xil ζ=>Walk ζ p
|xxg=>Lq.refl _
|xf3 ζ=>(none,ζ)
|xrq=>codes L
|xDW=>h1.symm.trans e
|xo2 ζ=>bj ζ T0.cl
|xmL ζ η θ ι μ=>by have ζ:=η;obtain⟨θ,ι⟩:=μ
|xhy ζ=>xfu aG ζ
|xbC ζ η θ=>(xby ζ η θ)
|xjO ζ η θ=>xe7 ζ (EP η JM σ θ)
|xxh ζ=>xk4 ζ Q E
|xle ζ=>ζ="group"
|xxi ζ=>xop (NE false) ζ Dp
|xrr=>Array JC
|xAE ζ η=>tupleKind (b8 ζ η)
|xAF=>fs.lookup f
|xcF=>k _
|xHT=>s.heap.FunFrames X.base
|xDX=>.type "object"
|xgI=>val B
|xgJ=>bd ?_
|xAG ζ η=>(As.flatten.length,ζ,η)
|xDY=>SG.ord SG.kInt
|xDZ=>s'.heap.update c
|xuC=>C9.Good L
|xuD=>["piece"]
|xD0=>plainId_quiet E8
|xxj=>.tbl #[]
|xD1=>s₁.heap.get? b
|xlf=>four n
|xxk=>r.map vN
|xD2=>pv' E
|xgK=>xcd xs
|xo3 ζ η=>NE (blt ζ η)
|xd0=>vN n
|xdz=>vN b
|xrs=>xck "way"
|xdc=>RelV v u
|xKW ζ η θ=>tb {ζ with nx:=η,ct:=θ,bk:=D.nx}
|xbX ζ=>by exact .inr ζ
|xD3 ζ=>s2.heap.push (xwx ζ)
|xAH ζ η θ ι=>codeAny_mono ζ (Sc η θ ι)
|xuE ζ η=>by refine ζ;show xds η
|xlg ζ η θ=>xz7 Du ζ (xqD η θ)
|xdd=>Δ b
|xlh=>start N vs
|xde=>xfX i
|xdf=>xdK _ xoo xoo
|xli ζ η=>min 66 (run ζ (L.drop η))
|xHU=>items.toList.drop xfZ
|xo4=>xoX np
|xim ζ η=>(ζ+η).toNat
|xf4 ζ η=>by refine ζ;show xmK η
|xhz=>s0 _ _
|xdg=>s4 _ _
|xrt ζ η θ=>⟨ζ,iter,η,θ⟩
|xmM ζ=>(D7.mp ζ)
|xD4=>KC.k.trans hk
|xxl ζ=>Rs.flatten++ζ
|xD5 ζ η=>putF ζ (.bl η)
|xes ζ=>by show IO CM ζ
|xo5 ζ η=>BP.num (xzW xed ζ η)
|xet ζ=>by show xcQ<ζ;decide
|xcG=>g2 _ _ ?_
|xeu ζ η θ=>⟨ζ,rfl,η,θ⟩
|xuF ζ η=>(ζ).map (sgl η)
|xev=>Nat×Nat
|xD6 ζ=>wpAny_setField ζ hd
|xmN ζ η θ ι μ=>by obtain⟨ζ,η,θ,ι⟩:=id μ
|xAI=>IsTup s.heap
|xuG=>Gl X
|xHV=>I.mod.glob.keeps I.bk
|xAJ=>False.elim z
|xin=>PA X
|xmO ζ=>(ζ).stop i
|xHW ζ η=>Builtin.Slice.slicePlaces ζ η 1
|xD7 ζ=>subscripted ζ false
|xhA=>c.1
|xAK=>b.extract ib
|xAL=>SM.J3 SG.ltI
|xf5=>b.1
|xo6=>V.ref q
|xlj=>Good L
|xo7=>hP L
|xxm=>W13.Walk L
|xD8 ζ=>st.heap.objs.size+ζ
|xd1=>nB T
|xxn=>K31.Rows K
|xuH=>xqw 272
|xxo ζ=>xi5 "things" ζ
|xio ζ η θ=>by show xeJ ζ η (bY θ)
|xuI ζ η=>(ζ).push (xzZ η)
|xKX=>κ.blt (xh1 key)
|xmP ζ=>xKX (xuk ζ)
|xru ζ=>xfu bA ζ
|xrv ζ=>xfu bz ζ
|xo8=>tots xi8
|xHX ζ=>envOfC qual ζ s.heap.objs.size
|xrw=>xHX scope
|xd2=>KF b
|xjP ζ η=>by show IO (Dc ζ) η
|xAM=>Value.ref xdq
|xdh ζ η=>xcJ ζ p C dx η
|xAN ζ η θ=>xAb ζ ⟨η,.inl (xbd θ)⟩
|xip ζ η=>ζ+(η).length
|xo9=>xtR p
|xrx ζ=>two (xt0 ζ)
|xxp ζ=>xAh T.length ζ
|xlk=>L.length=272
|xfm=>SL m
|xD9 ζ=>ha JM ζ σ
|xfn=>LE b hb
|xuJ ζ η=>DZ (CZ ζ η)
|xEa=>Loc X.env.scope
|xhB=>PSs X
|xEb=>Option NameKind
|xAO ζ=>(ζ).symm.trans z
|xjQ ζ=>ζ+T.length
|xxq=>Rb.map vN
|xEc=>["_law_script"]
|xgL ζ=>if ζ then _ else _
|xmQ ζ η θ ι=>by show xma ζ η (F.ok θ ι)
|xEd ζ=>λ _ _ q=>ζ
|xew ζ=>by show xfJ t' ry ζ
|xmR ζ η=>xbT (fC ζ η)
|xry ζ=>backTo pos (xgl ζ)
|xll ζ=>Pv ζ σ H
|xmS=>Ζ xdV
|xAP ζ=>xug ζ True.intro
|xAQ=>y' X.prog X.w X.K X.mg X.base
|xjR ζ η θ ι=>JX ζ η p d (cz θ ι)
|xf6=>h _
|xjS=>xf6 _
|xd3=>z.1
|xmT=>FU _
|xEe ζ η=>swapsWith ζ η pos.line
|xmU ζ=>A.units+ζ
|xxr=>B.take i
|xAR ζ=>EX (I:=ζ)
|xrz ζ=>ζ<Rs.length
|xxs=>C.map vN
|xAS ζ=>cn (Qs.take ζ)
|xmV=>pv 7
|xAT ζ=>some (V.ref ζ)
|xAU ζ η=>wpS_bind (aR ζ η)
|xHY=>xs.toList.Pairwise xbc
|xuK=>xh1 key
|xd4=>b.2
|xhC=>KF m
|xmW ζ η=>cm (xqD ζ η)
|xAV=>xjb "wide"
|xAW=>pyNext xme
|xuL=>.ref xdq
|xd5=>t σ H
|xmX=>xcF _
|xlm ζ=>Q (vN ζ)
|xrA=>MG r H
|xf7=>LE l nl
|xd6=>st _ _
|xuM ζ=>σ.length=ζ
|xrB ζ=>I.cell ζ c
|xAX ζ η=>D' ζ (A.deeper η)
|xxt=>.ref sl
|xAY ζ η θ=>by simp only [ζ,η,or_false] at θ
|xmY=>by simpa using z
|xrC ζ=>S.length-ζ
|xrD ζ=>B.length-ζ
|xrE ζ=>B.length+ζ
|xjT ζ=>ζ<b.size
|xAZ ζ η θ=>by obtain⟨⟨old,ζ⟩,η⟩:=θ
|xA0=>["many_signs","signs_check"]
|xA1=>["_law_script","_law_k"]
|xuN ζ=>show ζ from r
|xmZ ζ η=>ab ζ (xcc η)
|xHZ ζ=>ζ=.function
|xA2=>xHZ scope.kind
|xrF ζ=>(ζ).count p
|xrG=>xoX nx
|xpa ζ=>xDQ (xqT ζ)
|xbk ζ η=>by unfold ζ;rw [η]
|xm0 ζ η=>vN (xo5 ζ η)
|xpb ζ=>xru (xrv ζ)
|xpc ζ=>xel (xgL (NE ζ))
|xH0 ζ η=>xk8 (xk8 (bx ζ η))
|xjU ζ=>RB C ζ r d
|xH1=>s.heap.IsListIter it
|xxu ζ η=>seqItems? ζ>>=η
|xrH=>.str x
|xEf=>I.base.there b
|xA3 ζ η=>by simp only [List.lookup,ζ,η]
|xA4=>Decidable c
|xH2=>ys.toList.map (·.1)
|xA5=>Wg.extBut _
|xm1=>stAt L
|xA6=>bD Du
|xuO=>hr.hd Z9
|xuP=>J3.mem O
|xA7=>J3.trans ?_
|xxv ζ=>ζ++Eb.reverse
|xKY ζ=>h4.update ζ (Obj.mapSeq λ _=>out.map (·.2))
|xEg=>congrArg V.int
|xrI=>row L
|xA8=>Pp.map th
|xA9=>K31.C.Mks K
|xuQ=>["head"]
|xrJ=>nb F'
|xm2=>.ref d
|xiq=>xcn H2
|xir=>Ι xkO
|xxw ζ η θ ι=>.Call (.Name ζ η) θ ι pos
|xEh ζ η θ=>by obtain⟨_,_,_,ζ⟩:=η;show xeK θ
|xln=>xch ha
|xex=>xtD V
|xxx=>.bl true
|xey=>Α 1
|xm3 ζ η=>h'.get? ζ=η
|xxy=>L.drop p
|xm4=>xDx 192
|xis=>J3 κ.blt xh1
|xez=>h.2
|xeA=>xqX b
|xxz=>J6 X.prog X.w
|xeB=>xfh a xs
|xrK=>MH κ a
|xaQ ζ=>Nat->ζ
|xhD ζ=>xaQ (xaQ ζ)
|xfo=>xmD r k
|xBa=>Option xev
|xxA ζ=>⟨o.slots,ζ⟩
|xuR ζ=>aR (i:=ζ)
|xit=>xrA H'
|xuS=>LG P w
|xEi=>Rn κ a0
|xjV ζ η=>JW C ζ η d R
|xm5=>xEi st'
|xxB=>I.freeC x
|xxC=>.Tuple es
|xBb ζ=>.Attribute ζ f
|xxD ζ=>(ζ).getD none
|xm6=>CY Z5
|xBc ζ=>a.extract ζ na
|xBd ζ=>b.extract ζ nb
|xxE ζ=>b9 ζ X.range
|xxF=>Q.count q
|xxG=>["signs"]
|xxH ζ=>tryCatch ζ _
|xBe ζ=>by(rcases u with _|_|_|_|ζ)
|xrL ζ=>S.length<ζ
|xBf ζ=>ζ="many_signs"
|xm7=>mk bg
|xEj=>call xb0
|xxI=>(xe4).trans
|xdA ζ=>autoParam (¬ζ) ZY
|xrM=>.int hi
|xfp ζ=>by show xe6 ζ g2
|xdB ζ=>ζ≠Tb
|xlo ζ η=>by show IO (Dq ζ) η
|xpd ζ=>Re ζ true
|xxJ=>xwz wt true
|xuT ζ=>us.length=ζ
|xiu ζ=>by(rcases ζ with rfl|rfl)
|xEk ζ η=>κ.negTrans ζ (xuk η)
|xrN=>by simpa using h1
|xKZ=>Calls.Name_function_global I.ok.kind
|xBg=>X.wish E
|xxK=>P.zip vs
|xpe ζ η=>CV (Et ζ η)
|xuU=>.ref z
|xpf=>kf y
|xxL ζ η=>by dsimp only at ζ;subst η
|xBh=>k.map kV
|xH3=>Data.seq vs.toArray
|xBi ζ=>(Dc ζ).trans
|xBj=>hT.same s1
|xeU=>JQ a b
|xeV=>ST p
|xEl=>.type "dict"
|xBk ζ=>CY (Kn.mpr ζ)
|xEm=>pendingOf Ll
|xhE=>KF i
|xBl ζ η=>TD "is_whole" ζ η
|xBm=>xej H1 []
|xa2=>H p
|xH4=>XV s.heap.objs.size
|xrO ζ=>xaY (xaY ζ)
|xBn=>b.drop s
|xxM=>JS.of hB
|xpg ζ η=>xwY (kk ζ η)
|xH5=>xua its.toArray.size
|xph=>xeQ e
|xpi ζ η=>xjA (xHN ζ η)
|xrP=>g x σ
|xjW=>ag hb
|xxN=>.tbl ps
|xEn=>I.base.keep b
|xH6 ζ=>cellsFrom ζ scope.names
|xjX=>sIx n
|xEo=>List.lookup x
|xEp=>IsPair s.heap
|xH7 ζ=>wpAny_setField_rec ζ Z6
|xlp ζ=>xKS (base+ζ)
|xEq=>Nat.not_lt.2
|xjY=>CZ hj
|xjZ=>bb.2
|xEr=>pb.facts tw
|xj0=>xas []
|xxO ζ=>NE (X.fn ζ)
|xEs=>Y.Pairwise xbc
|xct ζ η θ=>(xfv ζ η θ)
|xj1=>Ι xkP
|xrQ ζ=>ζ=S.length
|xxP ζ=>R.length≤ζ
|xj2=>xbT fs
|xBo ζ=>(KF ζ).toNat
|xj3=>Ly mg base
|xj4=>kindOf sq0=oneType'
|xj5=>xAx s'
|xBp ζ η=>(cpy ζ b η).length
|xd7 ζ=>xxh ζ s
|xj6=>xxi hs
|xrR ζ=>xbr (vN ζ)
|xm8 ζ η θ=>xlg (bP ζ) η θ
|xxQ ζ=>tots (xo7 ζ)
|xlq ζ η θ=>by show xbf ζ η;refine θ
|xH8=>X.s₀.heap.get? b
|xBq=>pure false
|xdC=>e::es
|xdD=>[y]
|xf8 ζ η=>(none,ζ,η)
|xH9=>a.toList.take na
|xIa=>b.toList.take nb
|xIb=>SM.eqv SG.kInt.blt
|xpj ζ η=>(ζ++η).Perm
|xEt=>h1.trans z
|xuV=>.ref c
|xIc=>X.mg "__name__"
|xId=>S.drop W.length
|xBr=>K31.C.K4 G
|xIe=>T.drop W.length
|xpk=>two c
|xxR ζ=>ζ++Rs.flatten
|xIf=>List.mem_append.1
|xiv=>xg3 P w K JU
|xlr=>xb1 i
|xK0=>xmc "getset_descriptor.__get__"
|xfq=>Ν d
|xf9 ζ η=>by show xh3 e ζ η
|xxS=>JS.of ac
|xBs=>List.replicate L.length V.non
|xga ζ η θ ι=>by show xtQ ζ rfl η θ ι
|xpl=>xk1 sq0
|xuW=>xoI υ
|xuX=>xoI UF
|xj7 ζ η θ ι μ=>xor ζ (some ⟨η,θ,.func ι,μ⟩)
|xj8=>(xcL).irr _
|xuY=>xkZ hy
|xgM=>xjL i
|xIg=>relabel scope X.env
|xj9=>xD2 i
|xeW ζ η θ=>(if ζ then η else θ)
|xBt=>xck "held"
|xka=>SL k
|xrS ζ=>G6 (Μ (hf ζ Z6))
|xBu ζ=>Value.str ζ t
|xEu=>frs X.stack
|xBv ζ=>.Constant ζ j
|xiw ζ η=>W ζ m' η σ3
|xm9 ζ=>(ζ).yld i
|xbl=>[x]
|xK1=>wpAny_newFunctionEnv_cells S.kind
|xpm ζ=>DS ζ Z9
|xIh ζ=>RR ζ s3.heap.objs.size
|xrT ζ=>ζ*S.length
|xeC ζ=>ζ≤12
|xK2=>Builtin.Builtins.bindParams "min"
|xBw ζ=>ns.length≤ζ
|xEv ζ=>aq (LE R2 ζ)
|xna=>xEv g2
|xls ζ=>xkL ζ V
|xnb=>DA xmi
|xbY ζ η θ=>by show xfB z ζ η θ
|xhF ζ η=>by rw [ζ];show xaG η
|xeD ζ=>.inl (xfE _ (JS.of ζ))
|xkb=>xi5 "course" x []
|xnc ζ η=>⟨ζ,rfl,η⟩
|xxT ζ=>xww ζ ps
|xBx=>xmC "text" "before"
|xxU ζ=>ae (xqA Os ζ)
|xxV=>.inr xmi
|xIi ζ=>ha pos JM ζ σ
|xix=>xej H4 (ys++xdD)
|xrU=>.int 1
|xhG=>hb b
|xuZ=>.cell v
|xu0=>I.pin p
|xIj ζ=>{s with toks:=ζ}
|xu1=>List JL
|xxW=>J.stop i
|xEw=>congrArg not
|xu2=>Cls X.K
|xxX=>Sem Bool
|xrV=>Fb _
|xEx=>bindL kindOf
|xEy=>bindC kindOf
|xIk=>HT.sIx its.length
|xgb=>x.1
|xBy=>.ref i1
|xBz=>.ref i2
|xxY ζ=>ζ<ns.length
|xlt=>Dc h2
|xBA ζ=>(EH.mp ζ).1
|xEz ζ η=>xs.toList.drop (ζ+η)
|xEA=>a.extract ia
|xEB=>DN hx
|xEC=>ps.map V.ref
|xBB=>Kk.of ac
|xxZ=>hB.sm.2
|xIl=>kla_fn "<lambda>"
|xu3=>sld R
|xBC ζ η=>by obtain⟨_,_,Tk,ζ⟩:=η
|xrW ζ=>ζ="begun"
|xED=>Value.bool _
|xEE=>xcV ys.length
|xEF ζ η=>NE (hasDictIn ζ η)
|xx0=>vN 0
|xlu=>Α 31
|xkc=>x.2
|xrX=>.int c
|xlv ζ η=>xdm ζ η rfl
|xnd ζ η=>by show IO ζ (Ec η)
|xiy ζ η=>by show ζ;show xaG η
|xlw=>xKK items.size hi
|xlx=>xh4 xs
|xu4 ζ η=>dig (xtO ζ η)
|xBD ζ η=>wpS (xDo w) A E s ζ η sq0
|xdi ζ=>xBD ζ Q
|xx1 ζ η=>(ζ).push (xl7 #[] η)
|xEG=>Δ Pp.length
|xne=>xDD n
|xBE=>xDE true
|xly ζ η=>(ζ).toList=η
|xgc=>xt3 C
|xgd=>xaP b
|xBF ζ=>JS.of (xeQ ζ)
|xu5=>xfi Bool
|xgf=>ta σ H
|xlz=>xor Tb none
|xpn ζ η θ ι=>xjh ζ η θ ι Jaa f fd
|xx2=>xoQ (hz xos)
|xrY=>(lcAt S q).1
|xpo=>xhz e
|xrZ ζ η θ=>xxc ζ η dV dc pm an θ ct
|xu6 ζ η=>xrO (lst ζ η)
|xu7 ζ η θ ι=>by show xiy ζ η;show xiy θ ι
|xgg=>sp vs H Q E
|xgh=>cW _ _ _ _
|xaC ζ η θ ι=>by exact⟨ζ,η,θ,ι⟩
|xbD ζ=>by rw [ζ];simp
|xIm ζ=>s.heap.IsList ζ items
|xIn ζ η=>{ζ with heap:=s3.heap.push η}
|xBG ζ=>rv.get (i:=ζ)
|xEH=>Option Bool
|xEI=>s3.trans s4
|xEJ ζ η=>VG ζ (rest.take η)
|xIo ζ=>wpAny_updateSeq ζ rfl
|xx3 ζ η=>NE (isFn ζ η)
|xEK ζ η=>{s with heap:=ζ,toks:=η}
|xgN ζ=>Lf X (compareOp ζ)
|xEL=>xjb "tail"
|xeX ζ=>xtF ζ H
|xu8 ζ η=>num ((b.drop ζ).take η)
|xr0 ζ η=>NE (xoY ζ η)
|xnf ζ η=>by show xuE (xaT ζ) η
|xr1=>xo7 Pp
|xEM=>xck "things"
|xEN ζ η=>(Ka ζ η).length_eq
|xgO=>p.2
|xEO ζ=>I.base.slot ζ o
|xu9=>by simpa using hu
|xlA=>hf b hb
|xBH ζ η=>λ _ _ _ _ _ st ζ=>η
|xK3 ζ=>wpAny_pyIter_range (IsRange.new ζ)
|xK4=>Around.frames_deeper e0.frames
|xgP=>y.1
|xK5=>codeAny_call_function hr.depth
|xIp ζ=>seqIndex_neg (HA ζ)
|xBI=>numAt ys
|xIq=>closureFor scope
|xva=>.ref q
|xdE=>k l
|xr2 ζ η=>CV ζ (Di η)
|xvb ζ η=>(ζ).flatten++η
|xEP ζ=>(S.map ζ).sum
|xEQ=>Di OW.symm
|xBJ=>["lengths","place","ahead"]
|xER=>["bale","place","many_signs"]
|xIr=>List.replicate z
|xgQ=>ST l
|xgR=>vN c
|xBK=>xck "wide"
|xBL ζ η=>JV.any (xd9 ζ η)
|xr3 ζ η=>Ρ ζ (tC η)
|xr4 ζ η=>aM ζ (DA η)
|xkd=>xec h1 h1
|xgS=>xfF 1
|xES ζ η=>List.replicate (ζ+η)
|xgT=>K31.Txt K mg
|xBM=>xbt "ones"
|xr5 ζ=>⟨#[],ζ⟩
|xgU=>XV p
|xgV=>z.2
|xr6=>StateT SortSt Sem
|xeE=>by show xcR 2
|xr7=>X.mg x
|xIs=>I1.hok.fresh P3
|xr8=>xk1 st'
|xvc ζ=>LT (hb ζ)
|xke ζ=>R.drop (ζ-ok)
|xkf ζ=>xro Os ζ
|xeF=>Pv (i+1)
|xET ζ=>xD5 "finished" ζ
|xEU ζ=>xuJ ζ I.ok.above
|xr9 ζ η=>(ζ++η).drop
|xIt=>(xIg).names.lookup
|xsa=>pv' E2 q
|xiz=>cK 0
|xhH ζ η θ ι=>by show Tl ζ η θ;exact ι
|xEV=>CV I.ok.bsz
|xpp ζ=>Meth ζ C
|xng=>Dc h1
|xBN ζ=>σ3.length=ζ
|xEW=>Tc.extBut _
|xEX=>Vg.extBut _
|xnh=>d8 ?_
|xEY=>Tx.map vN
|xBO ζ=>none_of ζ n5
|xni=>DE hk
|xBP=>De Qp
|xK6=>Nat.eq_zero_of_le_zero hB
|xIu ζ=>Walks.list (prog:=ζ)
|xEZ=>ak nq
|xE0=>K31.Ck.TL K
|xnj=>Α 32
|xnk=>xcn H1
|xlB ζ=>xtA ζ h
|xx4=>xja Os
|xx5=>xja υ
|xnl=>Ι xjc
|xnm=>xch hp
|xE1=>(xha).reverse
|xIv ζ η=>Re (s₁.heap.get? ζ) η
|xnn=>Ι xz5
|xno=>xgl es
|xsb ζ η=>NE (xfM ζ η)
|xK7=>Builtin.Tuple.tupleItemsOf xfc
|xpq ζ η θ ι μ=>by obtain⟨ζ,η⟩:=θ;have ι:=μ
|xBQ ζ=>xwJ "range" ζ
|xfr ζ=>ζ≤64
|xnp=>xwO H'
|xE2=>xfR xs
|xE3=>.bl false
|xK8=>xwW TB.cl Pu
|xpr ζ=>Q (some ζ) sq0
|xsc=>Eb++D0.reverse
|xsd ζ η=>DA (xbn (xh6 ζ η))
|xx6=>wpS_lift (F3 xgB)
|xx7=>xa7 On
|xnq=>xjK ps
|xps ζ=>λ _ h=>ζ
|xpt ζ η θ=>by unfold ζ;show IO η θ
|xgW ζ η θ=>xgs ζ η θ aK az
|xE4 ζ=>(xoB ζ).length
|xpu ζ η θ=>xA6 (xcZ ζ η θ)
|xnr ζ η θ ι=>Ρ (xxw ζ η θ ι)
|xvd ζ=>xaQ (Ψ ζ)
|xIw ζ=>xzY "range" (.fields ζ)
|xns=>xgl xdC
|xse ζ η=>xdu ζ (xxU η)
|xpv ζ η θ=>Binds K (xrZ ζ η θ)
|xpw ζ η θ=>xK8 ζ η (xbo θ aj)
|xa6 ζ=>ζ[i]?
|xK9=>PySem.Within mA
|xLa=>X.s₀.heap.FunFrames X.base
|xIx=>Vis X.env.scope
|xhI=>PT X
|xlC=>PS X
|xE5 ζ η=>h.IsListIter ζ η i
|xIy=>attributeBase e
|xaR ζ=>by have:=ζ;lia
|xE6=>HR.mp nd
|xE7=>λ _=>true
|xLb=>Builtin.Slice.sliceAdjust lo
|xIz=>s.heap.update p
|xhJ=>H4 l
|xIA=>s.heap.IsList p
|xLc ζ=>tail_any ζ slot_dict_getitem.lookup
|xhK=>c.2
|xE8=>B.drop n
|xnt=>fR d t
|xBR ζ η=>PW.pt (jw ζ η)
|xsf=>CY z
|xE9 ζ η=>(runP ζ η).length
|xBS=>by simp;assumption
|xIB ζ η=>(SM.Ka ζ η).length_eq
|xIC=>hp.subset hb
|xsg=>LI 0
|xhL=>H2 l
|xFa=>u.drop t
|xnu=>nb A
|xLd=>List.getElem?_eq_some_iff.1
|xnv=>SL b
|xhM=>ST C
|xhN=>SB s
|xve=>ax _
|xiA ζ η=>xbE H2 ζ η
|xpx=>Μ h
|xhO=>RelV y u
|xID=>xjb "lengths"
|xhP=>xcw q
|xFb=>B.take n
|xhQ=>xwy 0
|xhR=>xwy 1
|xvf ζ η=>backToKw ζ (keywordEach η X.env)
|xiB ζ η=>xcJ ζ p Ce dx η
|xIE=>xbt "_law_mixed"
|xBT=>JS.of hl
|xkg=>xwD 1
|xvg=>xfd a
|xsh=>xaY h
|xvh=>hidT s₁.heap H
|xFc=>N.map xAf
|xhS=>xie e
|xvi ζ η=>xaz ζ Lp.nd η
|xFd=>xul Vn.symm
|xkh ζ η=>(ζ-η).toNat
|xvj ζ η=>EL ζ η rfl ?_
|xFe=>.inr rfl
|xiC=>xuG x
|xhT=>xqC K xb0
|xhU=>te σ H
|xFf ζ η=>aM ζ (wpS_bind η)
|xFg=>xuN False
|xnw ζ η θ ι=>bW (D:=ζ) (K:=η) (a:=θ) (xs:=ι)
|xki ζ η θ ι μ=>by show xaS (Fx (xAR ζ η ?_ θ ι) μ)
|xvk=>xwx (xDt n)
|xiD=>xld b m
|xFh=>xa6 items
|xx8=>J6 P w
|xvl ζ η=>fP ζ η false false
|xsi=>xvg o
|xhV=>dw _ _ _
|xhW=>K7 H x W
|xhX=>gh _ _ _ _
|xFi ζ η θ=>by obtain⟨_,_,_,_,ζ⟩:=η;exact θ
|xx9=>wpAny M
|xya=>J.yld i
|xsj=>W i m
|xsk=>W 0 m
|xyb=>T.obj _
|xLe=>wpAny_sequenceKey ht.typeIs
|xLf ζ η=>(List.replicate ζ η).flatten.toArray
|xIF ζ=>d.params.defaults=ζ
|xFj ζ=>autoParam ζ ZV
|xyc ζ η=>cutV ζ η none
|xlD ζ=>bM ζ Z7
|xyd ζ η=>out.push ζ[η]
|xvm ζ=>ζ≤xs.size
|xvn ζ=>xs.toList=ζ
|xye ζ=>u.length-ζ
|xFk=>spCInit C
|xyf=>fC_no _
|xyg=>sld X
|xIG ζ=>Rs.flatten.length≤ζ
|xFl ζ=>xi5 "waiting" ζ
|xLg=>xmc "object.__setattr__"
|xpy ζ η θ ι μ=>by show xow ζ η θ;rw [ι] at μ
|xyh=>DZ xb4
|xyi ζ=>(ζ).count q
|xyj ζ=>Due ζ rest
|xyk ζ=>callWith pos ζ first
|xkj=>by show xjJ rx
|xlE ζ=>xoZ ζ co
|xlF ζ η θ=>xKW ζ η θ σ2
|xLh ζ=>["signs","back","size",ζ]
|xBU=>xLh "end"
|xyl=>xxb X N cl
|xlG ζ=>ho JM ζ σ
|xiE ζ=>ζ≤2000
|xym=>aX Os T.cl
|xIH=>X.env.kindOf x
|xFm=>.Compare a
|xLi=>wpAny_pyNext_range_item st
|xBV=>T.keep _
|xFn=>plainGet K
|xBW ζ=>by refine wpAny_call ζ
|xLj=>Str.ofString "__getitem__"
|xlH=>F4 _ _
|xII=>seqIndex_of h0
|xIJ=>sliceBounds lo
|xlI=>KW K
|xvo=>K.In h
|xFo=>IntsAre kv
|xiF=>EG _ _
|xnx=>FV _ Z9
|xvp=>Ea t1
|xpz=>aJ Z9
|xBX=>X.drop x
|xpA ζ η=>xHH (λ ζ=>vN η)
|xiG=>no _
|xFp=>["things"]
|xIK=>.type "module"
|xBY=>BP.val A
|xFq=>spLeft C
|xyn ζ η θ ι μ=>by(rw [ζ,η] at θ;injection ι with μ)
|xFr=>K31.C.Ww K
|xlJ=>ST d
|xBZ=>JS.of OL
|xvq=>xaD 122
|xpB=>ad hp
|xiH=>vN m
|xny ζ η θ ι=>∀ζ∈η,xbc θ ι
|xIL=>Y'.Pairwise xbc
|xpC=>xz0 Ll
|xB0=>(xoq).size
|xIM=>xjb "reader"
|xiI=>xmd 0
|xiJ=>Ν r
|xlK ζ η θ ι=>by show xot ζ η θ;cases ι
|xIN=>xbt "are_whole"
|xiK=>[xtM]
|xB1=>L.take p
|xnz=>(lcAt S p).2
|xpD ζ η=>by subst ζ;show xaN η
|xB2=>DF.mp hb
|xB3=>foldedSetIterable iter X.env
|xgi=>s _ _
|xsl=>xwY k
|xpE=>xfi It
|xvr ζ η=>fO ζ η ck g
|xB4=>(xo9).size
|xiL=>xll i
|xiM=>xjS z
|xpF=>xls κ
|xB5 ζ=>(DK ζ).symm
|xiN=>xuS H h
|xhY ζ η θ ι μ=>⟨ζ,η,θ,rfl,ι,μ⟩
|xIO=>Lv.trans xEZ
|xLk=>xbt "is_whole" ca Jab
|xvs=>xa6 X.N
|xpG=>KV JV vs
|xFs=>Eg _ _
|xnA=>xFs JO
|xiO=>MC _ _
|xiP=>k3 _ _
|xpH=>xsj ys σ' H'
|xiQ ζ=>o.data=ζ
|xpI ζ η θ ι μ=>by obtain⟨o,ζ,η,θ,ι⟩:=μ
|xLl=>wpAny_pyIter_rangeiter st
|xLm=>es.toList.any (·.refKey)
|xyo ζ=>Dl (CS ζ)
|xbm=>by simp at h
|xsm ζ=>Inv ζ []
|xLn=>lim.keeps x.toInCall.keep
|xFt=>.type T
|xLo=>numsOf its.toArray.toList
|xsn ζ=>kept ζ o
|xIP ζ=>ζ=s.heap.objs.size
|xLp=>Builtin.Range.rangeSize i
|xyp ζ=>ζ*B.length
|xLq ζ=>(Nat.mul_lt_mul_right ζ).mpr
|xB6 ζ=>ζ^bs.length
|xFu ζ η θ=>some (HO.ins ζ η θ)
|xyq ζ=>S.length=ζ
|xdF ζ=>out++ζ
|xFv=>Y.drop k2
|xLr=>List.length_eq_one_iff.1
|xIQ ζ=>(As.flatten.length,ζ)
|xLs=>Nat.le_min_of_le_of_le m2
|xyr ζ=>kf (φ ζ)
|xLt=>Builtin.Range.rangeSize 1
|xso=>CU K1
|xFw=>.own c'
|xFx ζ η θ ι=>by(rcases ζ with⟨η,rfl⟩|⟨θ,ι⟩)
|xys=>["first","inside"]
|xvt ζ=>by have ζ:=hr.units
|xB7 ζ=>ζ="waiting"
|xFy=>["row","many_signs"]
|xIR ζ=>xi5 "whole_bytes" ζ
|xyt ζ=>xbd (bd ζ)
|xiR ζ=>by exact(ζ).elim
|xcT ζ=>ζ->xtB
|xLu=>xmc "object.__class__"
|xFz ζ η=>TD "need_row" ζ η
|xiS=>by show xei hb hb
|xFA=>DF.mp z
|xsp ζ η=>(lc S p ζ η).2
|xiT=>xsp xb3 j
|xFB=>.inr xbg
|xsq ζ η θ=>xd8 "many_signs" ζ (xHJ η θ)
|xsr ζ η θ=>xq8 ζ η (aO θ)
|xeG ζ=>l≠ζ
|xyu ζ=>xbL (xca ζ)
|xB8 ζ=>xs.length=ζ
|xvu=>by show xbI (aq (xdX R1 g1))
|xyv=>KF xf5
|xyw ζ=>xaH L ζ s
|xB9 ζ=>xxz ζ s.heap
|xiU ζ η θ ι=>⟨ζ,H,η,θ,ι⟩
|xnB ζ η θ ι=>xiU (.int ζ) η θ ι
|xCa=>["signs","size","end"]
|xIS ζ=>(xIw ζ).objs.size
|xss ζ=>.ListComp elt ζ scope pos
|xIT=>EM hit.typeIs
|xLv=>args_listiter_next _
|xkk ζ η θ ι μ=>by obtain⟨z,ζ,η,θ,ι⟩:=μ
|xIU=>Data.fields _
|xvv=>PI X
|xnC ζ=>(ζ).go i
|xlL=>g i j
|xvw=>by simpa using h
|xFC ζ=>ζ==items.size
|xIV=>Int.not_lt.1
|xCb=>sub e
|xFD ζ η=>by obtain⟨_,ζ⟩:=Da.mp η
|xFE ζ η θ=>JA ζ (congrArg η θ)
|xkl=>H2 c
|xkm=>aF z
|xCc ζ=>(EH.mp ζ).2
|xIW=>Nat.lt_min.2
|xyx ζ η θ=>by have ζ:η:=θ;dsimp-zeta only
|xnD=>hn _
|xLw ζ=>PyProof.Rows.callWith_kw (e:=ζ)
|xyy ζ=>by simp [pairs] at ζ
|xIX=>QO.trans s4
|xIY=>Nat.le_min.2
|xkn=>aF e
|xCd=>u1 hr
|xCe ζ η=>tots (cP ζ η)
|xCf=>Dc hb
|xCg=>DR hx
|xLx=>List.take_eq_take_iff.2
|xvx ζ η θ ι=>hC.keep (λ ζ η θ _=>ι)
|xko=>SL 8
|xCh=>SL 272
|xkp=>SB b
|xCi=>xa7 KM
|xCj=>xa7 XL
|xnE=>xfw j
|xvy=>KF j
|xyz ζ=>KF (Μ ζ)
|xLy=>xmc "object.__init__"
|xIZ=>xjb "block"
|xI0=>xjb "signs"
|xI1=>xjb "other"
|xCk=>xgq j9
|xyA=>xDs n
|xnF ζ η θ=>by rw [ζ];show SC η θ
|xI2=>some .free
|xCl=>xdL []
|xyB ζ η=>.bl (xfM ζ η)
|xI3 ζ=>Ζ (fs.lookup ζ)
|xyC ζ η=>L.take (ζ+η)
|xpJ=>num (b.take 3)
|xyD=>xgq j
|xnG ζ=>κ.blt (xz6 xs ζ)
|xvz=>os i
|xfs ζ η=>by have:ζ:=η;subst this
|xkq=>xAc H
|xnH=>xDB T
|xCm=>xKR K2
|xkr=>xmz a
|xCn=>xwx (.seq vs.toArray)
|xFF=>xmC "number" "size"
|xvA ζ η=>BindsTo ζ fd (xid η)
|xks=>Rows K mg
|xyE=>xDo w
|xFG=>by show xHO R0.W.cost
|xCo=>(xed).drop t
|xCp=>xkZ hx
|xnI=>xhw j
|xkt=>xgH T
|xvB=>(lcAt S p).1
|xgX ζ η θ ι=>Kl Cp Ce CO CK ζ η θ ι Rs
|xCq=>xKL xs.length hi
|xCr=>["signs","place","back","most"]
|xyF=>xrK b out
|xst=>xlp i
|xyG=>s.toks+1
|xku=>WN T Rs
|xvC ζ η=>xDQ (PW.pt (iz ζ (eK η)))
|xkv=>TW T W
|xkw=>Kk K H
|xnJ ζ η θ ι μ=>aA ζ hr η (xdn θ ι μ)
|xI4=>xlI "__init__" "Check.__init__"
|xkx ζ=>(ζ:Nat)
|xyH ζ=>g1 _ _ (xbd ζ)
|xyI ζ η θ=>t {nx:=λ _ ζ=>η,rt:=θ}
|xyJ ζ=>dG ζ hg hm
|xky=>NS _ _
|xFH=>eD _ _
|xpK=>xFH Z8 Z8
|xkz=>fr _ _
|xkA=>cy κ a b
|xkB=>wpS (xDo w) A E s
|xkC=>cT _ _ _ _
|xgY=>k b
|xFI=>I.ok.bs b
|xsu=>hb JM
|xsv=>Su lo
|xsw=>d7 CX
|xFJ=>IsPart vl
|xFK=>IsPart vu
|xFL=>I.lstM hH
|xLz=>.type "BaseException"
|xvD ζ η θ=>by unfold ζ at η;split at θ
|xnK ζ=>ζ≤255
|xsx=>dig n
|xsy=>OK.1
|xI5 ζ=>ζ<xs.toList.length
|xsz=>wpS M
|xsA=>Ds κ
|xI6 ζ=>seqEpoch_at ζ rfl
|xLA ζ=>(List.nodup_append.mp ζ).1
|xsB=>C' H2
|xLB=>List.Sublist.count_le _
|xFM=>["block"]
|xLC=>Nat.ToInt.mod_congr rfl
|xFN=>hC.off kp
|xFO=>K31.Cds K
|xFP=>Option No
|xI7 ζ η=>{cls:=ζ,data:=.fields η}
|xsC ζ η=>by show xaS (aR ζ η)
|xsD=>xcd ys
|xCs ζ η=>xcd ((ζ).map η)
|xsE=>Ι xcK
|xsF=>Α 33
|xsG=>Ν ck
|xFQ=>Option xh2
|xhZ ζ=>xkM e ζ
|xFR=>xbA KM
|xCt=>xFR υ
|xsH=>h.Ns mainGlobals mg
|xsI=>xz9 64
|xsJ=>putF "blocks" xmd []
|xsK=>hf it Z6
|xFS=>(xcr).toNat
|xsL=>xjC κ
|xsM=>Vals xs its
|xsN=>Ζ xhA
|xsO=>xAQ CX
|xsP=>cz ps
|xFT ζ η θ=>xuR ζ η (wpS_bind θ)
|xFU=>I.kept (t':=s.toks)
|xsQ=>Vals L1 ds
|xsR=>xap e n1 n2
|xFV ζ=>xHQ ζ p co ck
|xFW=>xgN .NotEq
|xsS=>Lt blt kf
|xsT=>xxT X.K ds
|xsU=>Dy hi (xHF JO)
|xyK=>xBP hn
|xeY ζ=>by show IO e ζ
|xFX=>I.step (g':=s.gens)
|xCu ζ η θ=>aC (v:=ζ) η θ rfl
|xvE ζ η θ=>xCu (.ref ζ) η θ
|xCv ζ η θ=>Call_ (xyJ ζ η θ)
|xsV=>xgY ob
|xbO ζ η θ ι=>by have:ζ=η:=θ;subst this;exact ι
|xyL ζ=>(ζ).get? b
|xyM=>Q none
|xI8=>env.kindOf x
|xLD=>s.heap.Ns X.env.locals
|xyN=>Sem JC
|xyO=>Q true
|xvF ζ η θ ι=>by obtain⟨ζ,η,θ,ι⟩:=z9
|xyP=>J.go i
|xlM=>TJ K a
|xLE=>.ref s1.heap.objs.size
|xyQ ζ=>(ζ,first)
|xI9=>List Keyword
|xyR ζ=>ζ≠.free
|xyS ζ=>(ζ).take k
|xJa=>EZ hlen.symm
|xJb=>PySem.call f
|xLF=>h'.Ns s.heap.objs.size
|xyT=>tt σ3
|xJc=>intKind_is _
|xyU ζ=>IsZip ζ z
|xLG=>Nat.mul_le_mul_right _
|xCw=>this.1
|xFY ζ=>("rest_size",ζ)
|xCx=>[.none]
|xyV ζ=>Do (a:=ζ)
|xyW=>Mg blt
|xyX=>Mh blt
|xFZ=>dbl of
|xF0=>X.take k
|xJd=>SM.J3.refl _
|xJe=>ks.map kV
|xyY=>pin Z6
|xnL=>hb x
|xyZ=>vN 184
|xy0=>fQ r
|xF1=>["_law_cell","_law_size"]
|xJf=>A2.map vN
|xCy=>KW.i l9
|xpL=>xg4 o
|xy1=>xaD 126
|xvG=>xe1 s
|xJg=>methodObj xb0
|xF2 ζ η=>RL.filter (λ ζ=>η)
|xlN=>xDp A
|xlO=>KF p
|xy2=>(xmg).In
|xvH=>aU (xcl h)
|xCz ζ=>xvH (λ _=>ζ)
|xF3 ζ η θ=>by show IO (I.list_inj ζ η) θ
|xnM=>ag n
|xy3=>xed t
|xCA=>xaF 272 hm tm
|xCB=>xaF 12 hm tm
|xvI ζ η=>xou ζ none η
|xlP=>xdL R
|xJh=>xz4 JV.length
|xJi=>Ζ A.handled
|xgZ=>H x
|xy4 ζ η=>xwz ζ η false
|xnN=>kf i
|xCC=>xkZ hb
|xy5=>xwN key
|xlQ=>xwO H
|xCD=>Wp xwR
|xF4 ζ η=>xcq ζ (W13.SH η)
|xCE=>xl7 #[] e1
|xCF=>.inl xfS
|xlR=>xdo R
|xvJ ζ η=>show xju ζ from η
|xF5 ζ η=>xjw ζ xs.toList η
|xcU ζ η=>∀p∈ζ,η
|xvK ζ η=>by refine ζ;show xbI η
|xsW=>xDH v
|xy6=>DD _ 1
|xy7=>xjK Jaa
|xJj=>Pv xs.length ys
|xJk=>Pv i ys
|xsX=>xjh C
|xF6=>xsX "tell"
|xCG=>xuH ln
|xlS=>RelV x v
|xy8=>xEd q
|xy9=>LG X.prog X.w
|xJl ζ=>pyNext (.ref ζ)
|xlT=>xrP H
|xlU=>xmX xbZ e
|xlV=>CodeHd base c Tb
|xg0=>by exact .nil
|xF7 ζ η θ=>xlC (.Assign ζ η θ)
|xF8=>xzW xed t
|xsY=>xF8 s
|xlW=>xjU H b
|xlX=>xyl s H
|xJm=>its.toArray.size*k.toNat
|xlY=>xeG d
|xlZ ζ η=>xre ζ η out ia ib
|xza ζ=>xvv ζ iter
|xl0 ζ η=>xFV ζ η wt
|xsZ=>L9 K H
|xpM ζ η=>(xae u ζ η)
|xl1=>xIi s H _ I h
|xJn ζ η=>Ss K mg B ζ η CW C0 C1 C2 C3 CK J4 CO
|xbx ζ=>ζ≤n
|xzb ζ η=>Dl (hQ ζ η)
|xvL ζ=>ζ∉X.fs
|xF9 ζ=>Q (.bool ζ)
|xGa=>mA name
|xvM ζ=>min ζ n
|xJo=>xvM v.toNat
|xJp ζ η θ=>operate ζ (getItem η θ)
|xLH ζ η θ=>(Heap.get?_update_other ζ η θ).trans
|xCH ζ=>by show ζ;decide+kernel
|xpN ζ=>by unfold ζ at h⊢
|xzc ζ=>R.length=ζ
|xGb=>by exact Nat.one_pos
|xvN ζ=>b.size-ζ
|xvO=>a.size+b.size
|xLI=>Nat.add_sub_cancel ..
|xGc ζ=>{s' with heap:=ζ}
|xGd=>pairs r
|xLJ=>(Z'.map (·.2)).Perm
|xLK=>hZ.symm.subset hz
|xCI ζ=>ζ<C.length
|xLL=>Int.ofNat_add_ofNat _
|xpO ζ=>CL ζ xs
|xvP=>blk F i
|xGe ζ=>mk3.length=ζ
|xpP ζ=>⟨P3,ζ⟩
|xaI ζ η=>by exact⟨ζ,η⟩
|xGf ζ=>xi5 "group" ζ
|xpQ ζ=>Ρ ζ tb
|xpR ζ=>xfu bh ζ
|xiV ζ=>xon g ζ
|xGg ζ=>S.length≤ζ
|xiW ζ=>Lf X (binaryOp ζ)
|xCJ ζ=>Re ζ .free
|xnO=>by show xaS (wpS_get ?_)
|xpS ζ=>xwE ζ t2
|xpT ζ=>xfG ζ xAd
|xGh ζ=>Δ (ζ).length
|xs0 ζ η=>by show SC (xee ζ) η
|xiX ζ=>KF (p+ζ)
|xGi ζ=>LT (r.hd ζ)
|xpU ζ η=>bitsP ζ++η
|xeZ ζ η θ=>⟨_,rfl,ζ,rfl,η,θ⟩
|xzd=>(xtH).drop t
|xh0 ζ η θ ι=>bj ζ η θ ι J5
|xs1 ζ η θ ι=>by obtain⟨ζ,η,θ,rfl⟩:=ι
|xpV=>B.take (xb9-2)
|xGj ζ=>F'.drop (64*ζ)
|xze=>xGj xrJ
|xg1 ζ η θ=>by show xqy its ζ η hz θ
|xiY ζ=>xjV ζ r
|xiZ ζ=>xej H ζ
|xg2 ζ η θ=>xpn C ζ η θ
|xvQ=>Y++tail'
|xpW=>A'++T
|xs2=>A'++M
|xvR ζ=>xvj ζ rfl
|xs3 ζ η θ=>by refine ζ;show Tm η θ
|xCK ζ=>Mk K ζ f
|xkD=>xvr b m
|xzf=>g1 _ _ (xaT rfl)
|xpX ζ=>aF ζ hp
|xGk ζ=>xD9 s H ζ I h
|xnP=>xGk _
|xcb ζ=>λ q=>ζ
|xs4 ζ=>xcb (hc ζ)
|xJq=>Value.ref e
|xJr=>sb.extBut b
|xJs ζ=>dY (hq.keep ζ)
|xJt=>V5.extBut a
|xJu=>V5.extBut b
|xJv=>I.ok.noex b
|xnQ=>EE _
|xnR=>Q ()
|xeH=>[a]
|xvS=>hi JM
|xvT=>Gm hp
|xJw=>Data.cell v
|xvU=>hb _
|xGl=>.inl e
|xGm=>iM I.hok
|xzg=>Vb b
|xLM=>args_tuple_getitem _
|xGn=>max 0
|xLN=>ns.map WData.int
|xvV=>C' H1
|xLO=>s.heap.IsListIter i1
|xLP=>s.heap.IsListIter i2
|xLQ=>wpAny_onRaise ?_
|xvW=>.cp b
|xvX=>val R
|xCL ζ=>D2 (Dr ζ)
|xJx ζ=>(P.map ζ).sum
|xvY=>rlF n
|xvZ ζ η=>⟨ζ,Z5,η⟩
|xv0=>Dc oG
|xv1=>E4 Z9
|xJy=>hx.same s1
|xv2=>XF κ
|xv3=>XG κ
|xCM ζ=>F1 (Fp ζ)
|xnS=>a.1
|xLR=>wpAny_pyIter_enum he
|xJz ζ=>(R.map ζ).map
|xCN ζ=>S5 (OM ζ)
|xLS ζ=>Fk.mp (YU.symm.subset ζ)
|xJA=>u.take k
|xJB=>u.drop k
|xGo=>pM I.hok
|xGp=>px I.hok
|xnT=>K4 C
|xJC=>BP.num u
|xJD=>s0.trans Yi
|xGq=>hB.sm.1
|xJE=>T.take i
|xJF=>fI.at nI
|xJG=>ff.at nf
|xJH=>ok_cinit FI
|xnU=>TK R
|xLT=>S'.drop W.length
|xJI=>K31.C.Mk2 K
|xnV=>Tz L
|xv4=>dig 0
|xv5=>dZ hb
|xJJ=>pb.parts tw
|xGr=>["text"]
|xGs=>["bale"]
|xGt=>Kk.of Zt
|xJK=>h.b0 rfl
|xJL=>pl4.same s5
|xGu=>K31.U3 K
|xGv=>K31.S3 K
|xJM=>K31.Ck.CH K
|xJN=>K31.Ck.S4 K
|xJO=>K31.Ck.WA K
|xpY=>vN i
|xnW=>SB p
|xnX=>SB n
|xGw=>JS.of hS
|xCO ζ η=>xi6 (ζ).toNat η
|xJP=>le_of_lt xcL
|xkE ζ η θ=>xtx ζ η h' θ
|xLU=>a.toList.Pairwise xbc
|xLV=>b.toList.Pairwise xbc
|xv6=>xl9 s'
|xJQ=>xfw X.length
|xv7=>Ν i2
|xv8=>Ν i1
|xv9=>Ν TO
|xnY=>xqH i
|xwa=>xtD JB
|xnZ ζ=>by show Tl ζ e e
|xn0=>by show xnZ en
|xJR=>xbH B.length
|xGx=>xtG b ck1 g1
|xn1 ζ η=>by show xfJ rfl ζ η
|xwb=>xtJ Pp
|xwc=>xbT []
|xn2=>xmk q
|xCP ζ=>by show xaN (.inl ζ)
|xwd=>xtP Pp
|xLW=>xfO s1.heap.objs.size
|xJS ζ η=>call_meets ζ (xmo η)
|xn3=>xmo _
|xGy=>W13.Kv a
|xzh ζ η=>ap ζ (aT η)
|xzi=>xg4 e
|xJT=>xDE false
|xwe=>xeO j
|xn4=>xeO 0
|xwf ζ η θ=>aS aZ ζ η (aO θ)
|xn5=>xaP e
|xn6=>Hq A s.heap
|xCQ ζ=>CV (Dr ζ)
|xn7=>xuh k
|xn8=>r.length+3
|xJU=>xul YF.symm
|xJV=>xKV Prod.fst
|xwg=>xup H3
|xwh=>Δ xf0
|xJW=>SL W.length
|xzj=>x≠"__name__"
|xn9=>EP X JM σ Q
|xCR=>xry []
|xpZ=>xhD (KB->xbM)
|xJX=>xxJ false
|xwi=>xHN H'
|xoa=>xHN H
|xGz=>SM.eqv SG.ltI SG.ky
|xCS=>cpy B b
|xob=>xiv 1
|xCT=>xap e z
|xs5 ζ η θ=>bZ (D:=ζ) (lo:=η) (n:=θ)
|xzk ζ η=>xx2 (cJ (DA ζ) η)
|xzl=>a.size-1
|xGA=>aX Os T0.cl
|xwj=>xE2 ys
|xwk=>ap cS aj
|xs6=>xgi e
|xCU=>(xjy).take i
|xkF ζ η θ=>xKU ζ η θ [] pos
|xoc=>xyw q
|xGB=>bO bJ Z7
|xGC=>xGB T.list
|xJY=>["_law_j","_law_number"]
|xwl=>JS K H1
|xod=>K8 u W T ps
|xs7=>xda c o
|xwm=>Inv X Ks σ
|xwn=>N σ' H'
|xGD=>xGn total
|xoe=>sT _ _
|xCV=>xtG b c g1
|xof=>lc S p
|xzm=>xrI j p
|xzn=>xCS n
|xLX=>a.toList.drop xzl
|xwo=>xyF na nb
|xJZ=>he JM s σ H
|xs8 ζ η θ ι=>xc5 (xJZ ζ η θ) ι
|xa3 ζ=>λ b hb=>ζ
|xJ0 ζ=>FO ζ hit.typeIs
|xJ1 ζ=>Value.float ζ t
|xzo=>by simpa using e
|xJ2 ζ=>h.objs.size≤ζ
|xJ3 ζ=>wpAny_Name ζ hd
|xzp ζ=>by have ζ:=r.length
|xzq ζ η θ ι=>thn ζ (λ _ η θ=>ι)
|xJ4 ζ=>ζ<recursionLimit
|xJ5 ζ=>I1.laid (t':=ζ)
|xJ6 ζ=>F.run ζ X.stack
|xkG ζ=>h ζ Do
|xLY ζ=>typeLookup ζ "__getitem__"
|xLZ=>Mn.extBut Tc.extBut
|xL0=>wpAny_pyIter_zip hz
|xL1=>if_false_right.mp h
|xp0 ζ=>ζ+b.toNat
|xGE=>D9 KH
|xGF=>fb hn
|xp1 ζ η θ=>by(rcases ζ with rfl|η|θ)
|xL2=>Nat.not_le_of_lt JO
|xL3=>Int.lt_irrefl a
|xGG=>Ig ?_
|xL4=>SortSt.mk' oneType'
|xGH ζ η θ=>by obtain⟨ζ,_,η⟩:=E6.mp θ
|xCW ζ η θ=>jj ζ η (base:=θ)
|xGI=>pK ry
|xGJ=>HS hu
|xCX=>["reader","codes"]
|xL5=>X.mg "__builtins__"
|xJ7 ζ=>ζ≠mainGlobals
|xGK=>mH hu
|xL6=>SL its.toArray.size
|xzr=>vN ah
|xCY ζ=>bd (xbd ζ)
|xog ζ η=>xg6 hs ζ η
|xGL=>xja XL
|xGM=>xja On
|xGN=>tC xmd
|xL7=>Ν s.heap.objs.size
|xgj ζ=>by show Ty ζ e
|xkH ζ=>∀x∈scope.names,ζ
|xJ8 ζ η=>(ζ).app (J3.refl η)
|xJ9 ζ=>Re ζ builtinsNs
|xGO=>xwB On
|xL8=>xtI s.heap.objs.size
|xCZ ζ=>wa (xz3 ζ)
|xs9 ζ η θ ι=>xHG ζ η (xbq θ ι)
|xGP=>S.cw xgy
|xoh ζ η θ ι μ=>by show xaM ζ η θ ι;refine μ
|xGQ ζ η=>Υ "number" ζ η
|xzs=>xdL xwK
|xC0 ζ=>xl9 (xi7 ζ)
|xKa ζ=>xDz ζ out.toList
|xGR=>bC XL
|xKb ζ=>ζ≤rest.length
|xkI ζ=>Q (.int ζ) H
|xGS=>xoI Os
|xGT=>xid xbU
|xL9=>(xw3).toList.Pairwise
|xMa=>xoO its.toArray.size
|xMb=>by show xam Array.size_setIfInBounds
|xGU=>xKT xAB
|xGV=>xhy υ
|xzt ζ η=>xe7 (xg4 ζ) η
|xkJ ζ=>JX ζ H p d
|xoi ζ η=>xAN ζ KC η
|xGW=>xcc aj
|xl2 ζ=>by show xf9 nl ζ
|xC1 ζ=>xKP (xpm ζ)
|xGX=>DR xEB
|xzu ζ η=>xx1 (xKM ζ) η
|xKc ζ=>J8 H ζ ts bs
|xoj=>xKc A
|xkK ζ=>cst ζ W T
|xp2 ζ η θ ι=>bL MI ζ η Z7 θ ι .nil
|xwp ζ η=>aU xcm (λ ζ=>xlB η)
|xok ζ η=>xcZ ζ η aj
|xta ζ=>by show xjJ ζ;rfl
|xwq ζ=>by show xvu;refine ζ
|xGY=>xIj xyG
|xGZ=>xsW fs
|xG0 ζ η=>xsZ ζ (.type η)
|xG1 ζ η=>xg2 "number" ζ η
|xG2=>xvU Z6
|xG3=>jG I.hok eb
|xG4 ζ η=>xcp (V.int ζ) (V.int η)
|xKd=>.fields us
|xKe ζ η=>h.DictOf (b8 ζ η)
|xKf=>I.stkSub b
|xKg=>I.ok.cab x
|xft=>[b]
|xp3=>tn i
|xMc=>letOwnedTupleGo tg
|xC2=>Turn P
|xKh=>EZ hl.symm
|xC3=>pure x
|xp4=>hs i
|xi0=>[u]
|xC4=>xEj xi0
|xKi=>Un.kept hk
|xKj=>ZipApart z
|xMd ζ η=>Builtin.SmallTypes.nextOf ζ>>=η
|xG5 ζ η=>T.map (λ ζ=>η)
|xG6=>exp rs
|xe0 ζ=>∀H',ζ
|xwr=>xe0 (xcT Β)
|xKk=>spMove C
|xMe ζ=>V.str (Str.ofString ζ)
|xKl=>hx.same s0
|xC5=>.ref u
|xKm ζ η=>(Pc.cp ζ η).size
|xi1=>h k
|xC6=>by simpa using hy
|xC7=>Lq sq0
|xtb ζ=>D8 ζ hz
|xC8=>Ea Sk
|xG7 ζ=>(Ha ζ).mp
|xG8 ζ=>ζ=As.length
|xMf=>Nat.le_max_right _
|xG9 ζ=>ζ*RP.length
|xC9=>by simpa using h0
|xMg=>Ko (Z'.map (·.2))
|xDa=>jI rfl
|xKn=>Itm.rep r
|xMh ζ=>List.count_le_length (a:=ζ)
|xp5=>dW L
|xp6=>bV e
|xp7=>bS e
|xHa ζ=>JV.length+ζ
|xHb ζ=>valueAt ζ k
|xp8=>KT H
|xtc ζ=>spT ζ B
|xKo=>hD.uniq hn
|xKp=>kp.tr Kc
|xDb=>.ref h
|xMi ζ=>bitsP (W13.Itm.puts ζ)
|xHc ζ=>Rb.length+ζ
|xDc=>blk F'
|xp9=>gE _
|xKq=>E.map vN
|xMj ζ=>by obtain⟨⟨_,_,ζ⟩,_,_⟩:=pl.pr.obj
|xzv=>SL a
|xKr=>.ref fa
|xqa=>SB m
|xMk=>xck "__classdict__"
|xKs ζ=>by show xaS (wpS_modify ζ)
|xHd ζ=>xcd (itm ζ)
|xtd=>LE p hp
|xte=>LE j hj
|xDd=>xaD 114
|xHe ζ=>xd8 "wide" ζ
|xHf=>xcM xnt "take"
|xKt=>xck "count"
|xHg ζ η=>decide (ζ∈η)
|xKu=>xDp X.A.in1
|xws ζ η=>by obtain⟨ζ,e2⟩:=η
|xtf ζ=>Ρ ζ te
|xqb=>xan 3
|xqc=>xan 2
|xzw=>xfw k
|xqd=>RelV x u
|xi2 ζ η θ ι=>xcJ ζ η θ ι []
|xtg=>xKL 0 lo
|xgk ζ η=>by cases ζ;cases η
|xHh ζ=>Re l.most ζ
|xKv=>some v'
|xKw=>puts Pp
|xHi ζ=>xjh ζ "read"
|xth ζ=>xoy ζ nt
|xMl=>xbt "are_of_things"
|xti ζ=>xh8 ζ nx
|xKx=>.ret xqP
|xi3=>by exact this
|xKy=>xmp "range"
|xcH ζ=>∃m',ζ
|xtj ζ=>xoC ζ.2
|xqe=>[xci]
|xqf=>Δ s
|xtk ζ=>(hf ζ Z6).1
|xtl ζ=>(cI ζ nl).symm
|xwt ζ η=>by obtain⟨ζ,e⟩:=η
|xqg=>xaP l
|xzx ζ η=>xel (field ζ η>>=_)
|xqh ζ=>xzx xme ζ
|xKz=>xDK s1.toks
|xKA=>out.toList.Pairwise (SG.Kd SG.kInt)
|xHj ζ=>kla_obj "<lambda>" ζ params
|xKB=>codeAny xuv
|xMm=>I.hok.fresh xjG
|xHk=>putK JV k
|xzy=>xHk v
|xHl ζ=>xjh ζ "take" "BitReader.take"
|xDe=>(xwT 0).objs.size
|xKC=>xuG "range"
|xDf ζ η=>upd (xdh ζ η)
|xqi=>fC d e
|xwu=>fC n s
|xKD ζ=>λ i j=>.int ζ
|xzz ζ=>OM (xKD ζ)
|xwv ζ η=>rI ζ (xKD η)
|xqj=>D' k
|xtm=>xH0 hb e
|xKE=>h1.extBut Tc.extBut D.i1z
|xDg=>xaT (xra z)
|xqk=>[xx0]
|xql=>xdE _
|xHm=>["signs","back","size"]
|xqm=>xin xdC t
|xMn=>xK9 (fs.map (·.1))
|xKF=>OldK s₁.heap s'.heap
|xtn ζ=>xLk ζ NY
|xto ζ=>xsk [] ζ xBm
|xtp ζ=>NZ ζ ts ps
|xHn ζ=>fnOf name ζ params
|xHo ζ=>xwW TR.cl Tk GT ζ xoA
|xDh=>xHo L8
|xzA=>xy3 6
|xqn=>xJk H
|xtq ζ=>xpM ζ rx
|xtr ζ=>cx ζ hr Z7
|xts ζ=>Inv ζ JM σ' H' s'
|xqo=>xCK C
|xqp=>Pl Tb Cq CO CK Cp Ce pp NG NH po T Rs
|xDi=>Dl (xbd (Dl h))
|xtt ζ=>g ζ σ' H2
|xqq=>NC _ _
|xqr=>JQ 0 0
|xtu ζ=>NQ ζ CO CK
|xtv ζ=>S4 ζ mg CK CO
|xqs=>xx8 H h a
|xqt=>xJn D G' C G Ce
|xqu=>mw _ _ _ _
|xKG ζ=>{ζ with slots:=sl}
|xKH ζ=>isTrue ζ X.env
|xzB=>hc JM
|xzC=>wi σ
|xMo ζ η=>λ ζ s3⟨z,H3,I3,r3,k,e,q3⟩=>η
|xzD=>h2.1
|xDj ζ=>io (us:=ζ)
|xHp=>e0.bs b
|xzE=>Dq Z5
|xMp=>.seq its'.toArray
|xDk ζ=>by have ζ:=r'.length
|xMq=>pre_splitW VR
|xl3 ζ=>A ζ H'
|xl4 ζ=>B ζ H'
|xDl=>xkc≠.cell
|xMr ζ η=>Builtin.«list.sort» ⟨ζ,η⟩
|xKI ζ=>I.step (ch:=ζ)
|xHq=>Good ps
|xzF=>app B
|xHr=>Ord blt
|xHs=>O.neg _
|xl5 ζ=>hint+ζ
|xMs=>KR.k.trans hk
|xHt=>O.tot _
|xMt=>MD.k.trans hk
|xMu=>MD.f.trans hf
|xMv ζ=>h.sq0.app (J3.refl ζ)
|xzG=>De Ox
|xMw=>pe.toList.map two
|xzH ζ=>min ζ LA
|xzI ζ=>HM ζ rfl
|xHu=>.refl _
|xMx ζ=>(h.trans ζ).cons_inv
|xHv=>Jj.mp h
|xzJ=>ML sg
|xzK ζ η=>CY (show ζ from η)
|xzL=>ba.1
|xzM=>bb.1
|xzN=>num u
|xDm ζ=>atKey ζ k
|xDn=>CV Ts Kx
|xzO=>aF OO
|xzP ζ=>MK ζ pos
|xKJ ζ=>ζ≠builtinsNs
|xMy=>defaultsOf params
|xMz=>congrArg Nat.pred
|xHw=>c6 t.wb
|xHx=>iF Co.F S0.Zb R0.W.cl
|xzQ=>El hx
|xHy=>CK.Tn n
|xzR=>Rds K
|xzS=>EO JO
|xHz ζ η θ=>Qm ζ η (b.drop θ)
|xzT=>Qm []
|xol ζ=>two (ζ%65536)
|xzU=>vN 66
|xMA=>mk3.take W.length
|xHA=>CU hj
|xMB=>Int.emod_nonneg _
|xMC ζ=>Nat.le_total ζ xs.length
|xzV=>Ι []
|xHB=>.ref lw
namespace QQ
open PySem PyProof.Rows
def Cx2 (h:JI)(a:JB)(vs:xrr):Prop:=xaH vs 2 Value.none\/∃b ob us,vs[2]?=ST b/\b≠a/\Re xdp ob/\ob.data=xKd/\6≤us.size/\xaH us 2 Value.none
def Hq (A:JH)(h:JI):Prop:=xJi\/∃a o vs,A.handled=xbv/\xrl=Id/\xiQ xrb/\6≤vs.size/\Cx2 h a vs
def Hq.keep {A:JH}{h h':JI}(q:Hq A h)(k:∀a o vs,xrl=Id->xiQ xrb->6≤vs.size->xm3 a Id):Hq A h':=by
 rcases q with q|⟨a,o,vs,e,g,d,z,c⟩
 ·show xaN q
 ·refine .inr ⟨a,o,vs,e,k a o vs g d z,d,z,?_⟩;rcases c with c|⟨b,ob,us,e1,n,e2,e3,e4,e5⟩
  ·show xaN c
  ·show xbX ⟨b,ob,us,e1,n,xsV us e2 e3 e4,e3,e4,e5⟩
def jF:Re (entryFor table "proto.unchain") Builtin.«proto.unchain»:=entryFor_of_fast (by kernel_rfl)
def pk (hq:Hq A h0)(hk:∀b o,h0.get? b=Id->xeA/\b≠e)(he:xfK e oe)(hd:oe.data=xrb)(hz:2<vs.size)
  (h:∀h' o',xq7 e o'->o'.cls=oe.cls->xAi e h'->E xk7 xfe):xd7 (raiseNew xk7:Sem α):=by
 show xjB raiseNew (wpAny_handled ?_);rcases hq with q|⟨a,o,us,ea,ga,da,zz,za⟩
 ·show IO q (CS (Dl (wpAny_throw (h s.heap oe he rfl (Heap.SameBut.refl ..)))))
 ·rw [ea];obtain⟨ga,nae⟩:=hk a o ga;have ne:NE (xcX !=xJq):=by simp [bne,nae]
  show xpc (xcX !=xJq) _;rw [Dq ne];have fin:xd7 (updateField e 2 SZ>>= λ _=>throw xk7):=by
   show xaG (xD6 he hz ?_:xel (setField xk7 2 SZ) s);exact wpAny_throw (xjS (Heap.get?_update_self _ he (Obj.isFreed_of_fields (Obj.data_mapFields hd _))) (Obj.cls_mapFields _ _) (HE ..))
  show xaG (EK (wpAny_runValue (HU jF ?_)));show xzx SZ 2 s;rcases za with za|⟨b,ob,vb,eb,nb,gb,db,sz,zb⟩
  ·show xaG (EL ga da za ?_);show xpc (xDF Value.none) s;show xhF (Dq Z7) (Dl xdO);exact fin
  ·show xbp gb nbe (hk b ob gb) (CS (EL ga da eb ?_));have n1:ρ (xt5 b):=rfl;have n2:ρ (xw0==xJq):=by simp [nbe]
   have n3:ρ (xw0==xcX):=by simp [nb]
   simp only [n1,n2,n3,Fj,Ii];show xaG (Dl (Dl ⟨Code.quiet_builtin _ Z8,HU jF ?_⟩));show xiy (xzx xmJ 2 s) (EL gb db zb ?_);show xpc (xDF Value.none) s;show xhF (Dq Z7) (Dl xdO);exact fin
def dY {prog:JE}(hq:xn6)
  (h:∀h' e,(∀b o,xeA->xcu=Id)->(∃o,xm3 e Id/\o.cls=xAa)->E' xk7 xfe):
  xk4 (newExc xAa []>>= λ v=>(raiseNew v:Sem α)) R E' s:=by
 show xaG ?_;simp only [newExc,newTuple];show xc1 (Gg ?_ (by size_fits)) (wpAny_of_eq (by first|rfl|(simp only [firstArgMember];rfl)) ?_);refine Gg ?_ (by size_fits);have k2:∀b o,xeA->xyL ((xzY "tuple" (xqV ([]:xaE))).push (xwJ "StopIteration" (#[xmb,.none,.none,.none,.bool false,.none]++ownMembersOf xAa [])))=Id:=
  λ b o e=>xdR xep
 refine pk hq (λ b o e=>xcO (k2 b o e)) xfk rfl (by show IO Array.size_append (CZ (show 2<6 by decide) xdY)) λ h' o' ge ce sb=>?_
 ·intro z;show xeo xb4 z Hu;show xaW this (Jd.mpr xjG)
 ·refine h h' _ (λ b o e=>xJr o (xcl z) (k2 b o e)) ⟨o',ge,ce⟩;show xeo xb4 z Hu;show xaW this (Jd.mpr xjG)
def jx {h:JI}(g:h.get? it=Id)(d:xiQ xrb)(z:vs.size<6)(g':xhc a o')(d':o'.data=xKd)(z':6≤us.size):a≠it:=by
 rintro rfl;show Tl g g' g';show Tl d d' d';lia
def QM {items}(hq:xn6)
  (hit:xH1 l i) (hl:xIm l) (hx:Ζ xFh)
  (hQ:∀h',xtI it h'->xyM xfe):xd7 xAW:=by
 show xmN o ho hc hd hit;obtain⟨ol,YB,_,nl,Vt⟩:=hl;show xjB pyNext (Hj (xIT HV (xJ0 HV entry_listiter_next ?_ xLv)));show xiy (xqh 0 s) (xvj ho hd);show xpc (xt5 l) s;rw [Dc (show¬(NE (xt5 l)) from Dp)];show xu7 (xqh 1 s) (xvj ho hd) (xel (xxu xah _) s) (Gb YB Vt ?_);simp only [Dz,hx];show xaG (F3 (CS (xD6 ho Z6 ?_)));have V5:=xHI (h:=s.heap) it;refine xJs (λ a o' us e d' z'=>xJt o' (jx ho hd Z6 e d' z') e) (λ h' e k z9=>?_)
 show xa8 o' ge ce z9 (CS (HB (xav ge ce) Il ?_));exact xzb _ (λ b ob hb e1=>xsV (xJu ob hb e1))
def pN {items}(hq:xn6)
  (hit:s.heap.IsTupleIter it t i) (ht:s.heap.IsTuple t items) (hx:Ζ xFh)
  (hQ:∀h',xtI it h'->xyM xfe):xd7 xAW:=by
 show xmN o ho hc hd hit;obtain⟨ol,YB,_,nl,Vt⟩:=ht;show xjB pyNext (Hj (xIT F.slot_tuple_iterator_next (xJ0 F.slot_tuple_iterator_next F.entry_tuple_iterator_next ?_ (F.args_tuple_iterator_next_1 _))));show xiy (xqh 0 s) (xvj ho hd);show xpc (xt5 t) s;rw [Dc (show¬(NE (xt5 t)) from Dp)];show xu7 (xqh 1 s) (xvj ho hd) (xel (xxu xfc _) s) (Gb YB Vt ?_);simp only [Dz,hx];show xaG (F3 (CS (xD6 ho Z6 ?_)));have V5:=xHI (h:=s.heap) it;refine xJs (λ a o' us e d' z'=>xJt o' (jx ho hd Z6 e d' z') e) (λ h' e k z9=>?_)
 show xa8 o' ge ce z9 (CS (HB (xav ge ce) Il ?_));exact xzb _ (λ b ob hb e1=>xsV (xJu ob hb e1))
def My {x left step:Int}(hq:xn6)(hit:xAD s.heap x left step)(hleft:left≤0)
  (hQ:∀h',xtI it h'->xyM xfe):xd7 xAW:=by
 have hT:s.TypeIs xme "range_iterator":=xmo hit;show xjB pyNext (Hj (EM hT F.slot_range_iterator_next (FO F.slot_range_iterator_next hT F.entry_range_iterator_next ?_ (F.args_range_iterator_next_1 _))));show xu7 (xqh 0 s) (xvR hit) (xqh 1 s) (xvR hit);show xiy (xqh 2 s) (xvR hit);show xel (xgL (left≤0)) s;show xhF (Dq hleft) (F3 (CS ?_));refine dY hq λ h' e k z9=>?_
 show xa8 o' ge ce z9 (CS (HB (xav ge ce) Il ?_));exact xzb _ (λ b ob hb e1=>xsV e1)
def ka (hq:xn6)(ht:xAI t items)
  (hQ:∀h',xL8 h'->Q items.toList xfe):xd7 (unpackItems xfc items.size none):=by
 have nt:xtL t:=by show xoW o ho ht (DZ (Dt ho))
 show xjB unpackItems ?_;show xjB notIterableAtAll (wpAny_specialOf ht.typeIs slot_tuple_iter.lookup xdO);simp only [Fj,Ii];show xaG (EK (iter_tuple ht (CS (EK (draw_tuple nt items.size 0 _ _ (xlv _ xfk) (ht.push _) Z5 (Sc g1 i1 b1))))));rw [show List.take items.size (List.drop 0 items.toList)=items.toList by show IO EY (Dv Z6),Dc Z6];have k1:∀b o,xtL b->xeA->g1.get? b=Id:=λ b o hb e=>b1.extBut b o hb xep
 have q1:Hq A g1:=hq.keep λ a o _ e _ _=>k1 a o xyh e
 have t1:IsTup g1 t items:=(ht.push _).extBut b1.extBut nt;show xaG (EK (pN q1 (show g1.IsTupleIter _ t _ from i1) (show g1.IsTuple t items from t1) Z6 (LE g2 x2)));simp only [Option.isSome_none,Fj,Ii];exact xzb g2 (λ b o hb e=>x2 b o hb (k1 b o hb e))
def NB {x1}(hq:xn6)(ht:xAI t items)
  (hn:xat (assignEach elts env) items.size) (hstar:Ζ ((assignEach elts env).findIdx? (·.1)))
  (h:∀h',xL8 h'->xxh (assignInOrder ((assignEach elts env).map (·.2)) items.toList) xfe):
  xd7 (assign (.Tuple elts x1 pos) env xfc):=by
 show xhF assign_Tuple (wpAny_standAt ?_);unfold unpack;rw [hn,hstar];exact CS (EK (ka hq ht h))
universe QQ
namespace L2
open PySem PySem.Spec PyProof.Rows
abbrev Key:=Sum Int Str
def kJ:Key->xjC JC
 | .inl k,v=>Value.isInt k v
 | .inr x,v=>Value.isStrOf x v
def CI (w:JF):Key->Int
 | .inl k=>hashInt k
 | .inr x=>hashStr w x
theorem bv:∀{k} {v},NE (kJ k v)->(∃i t,k=Sum.inl i/\v=xun i)\/(∃x t,k=Sum.inr x/\v=xBu x)
 | .inl i,v,h=>by
  show xa4 t e (Value.isInt_shape h) (.inl (xdm i t e))
 | .inr x,v,h=>by
  show xa4 t e (Value.isStrOf_shape h) (.inr (xdm x t e))
def tM (i)(t):NE (kJ (.inl i) xlr):=by simp [kJ,Value.isInt]
def uy (x)(t):NE (kJ (.inr x) (xrH t)):=by simp [kJ,Value.isStrOf]
def AL (a b):xcp (Sum.inl a:Key) (Sum.inl b)=(a==b):=by
 by_cases e:a=b
 ·subst e;simp
 ·have h:¬(Sum.inl a:Key)=Sum.inl b:=xcb (e (Sum.inl.inj q))
  show IO (EQ h) (Gz.mpr e).symm
def AO (a b):xcp (Sum.inr a:Key) (Sum.inr b)=xcp a b:=by
 by_cases e:a=b
 ·subst e;simp
 ·have h:¬(Sum.inr a:Key)=Sum.inr b:=xcb (e (Sum.inr.inj q))
  rw [EQ h,EQ e]
def zv (a)(b):ρ (xcp (Sum.inl a:Key) (Sum.inr b)):=EQ (xcb (nomatch q))
def zF (a)(b):ρ (xcp (Sum.inr a:Key) (Sum.inl b)):=EQ (xcb (nomatch q))
noncomputable def b8 (prog) (w):PySem.KeyKind prog w Key where
 is:=kJ
 hash:=CI w
 inj:=λ v a b ha hb=>by
  rcases bv ha with⟨i,t,rfl,rfl⟩|⟨x,t,rfl,rfl⟩
  ·rcases bv hb with⟨j,u,rfl,e⟩|⟨y,u,rfl,e⟩
   ·injection e with e1 _;rw [e1]
   ·exact nomatch e
  ·rcases bv hb with⟨j,u,rfl,e⟩|⟨y,u,rfl,e⟩
   ·exact nomatch e
   ·injection e with e1 _;rw [e1]
 byValue:=λ k v h=>by
  rcases bv h with⟨i,t,rfl,rfl⟩|⟨x,t,rfl,rfl⟩<;>rfl
 pyHash:=λ hv h=>by
  rcases bv hv with⟨i,t,rfl,rfl⟩|⟨x,t,rfl,rfl⟩
  ·exact wpAny_pyHash_int h
  ·exact wpAny_pyHash_str h
 eqBool:=λ hu hv h=>by
  rcases bv hu with⟨i,t,rfl,rfl⟩|⟨x,t,rfl,rfl⟩
  ·rcases bv hv with⟨j,u,rfl,rfl⟩|⟨y,u,rfl,rfl⟩
   ·show UV AL h (wpAny_eqBool_int h)
   ·show UV zv h (SeqAt.EqAt.int_str i t y u _ _ _ _ h)
  ·rcases bv hv with⟨j,u,rfl,rfl⟩|⟨y,u,rfl,rfl⟩
   ·show UV zF h (SeqAt.EqAt.str_int x t j u _ _ _ _ h)
   ·show UV AO h (wpAny_eqBool_str h)
 «strs»:=λ k x t v h=>by
  rcases bv h with⟨i,u,rfl,e⟩|⟨y,u,rfl,e⟩
  ·exact nomatch e
  ·injection e with e1 _
   subst e1;cases v<;>rfl
def m6 (prog)(w)(i)(t):NE ((b8 prog w).is (.inl i) xlr):=tM i t
def og (prog)(w)(x)(t):NE ((b8 prog w).is (.inr x) (xrH t)):=uy x t
def RelV:V->Ψ JC
 | .non,u=>u=Value.none
 | .bl b,u=>u=Value.bool b
 | .int i,u=>∃t,u=xun i
 | .str x,u=>∃t,u=xBu x
 | .byt b,u=>∃t,u=Value.bytes b t
 | .flt b,u=>∃t,u=xJ1 b
 | .ref a,u=>u=xcX
 | .ty n,u=>u=Value.type n
abbrev Vals:KB->Ψ xaE:=Paired RelV
theorem Vals.length (r:xlx):xB8 us.length:=Paired.length r
theorem Vals.get:∀{xs} {us} {i:Nat} {x},xlx->xde=Χ->∃u,xa6 us=xao/\xqd
 |_,_,_,_,.nil,e=>by simp at e
 |_,_,0,_,.cons r _,e=>by simp at e;subst e;exact xbd r
 |_,_,i+1,x,.cons _ t,e=>by
  show xa9 u h1 h2 (Vals.get t (by show xzo)) ⟨u,by show xrN,h2⟩
theorem Vals.set (r:xqd):∀{xs} {us} i,xlx->Vals (xs.set i x) (us.set i u)
 |_,_,_,.nil=>.nil
 |_,_,0,.cons _ t=>.cons r t
 |_,_,i+1,.cons q t=>.cons q (Vals.set r i t)
def Vals.append (h:xlx)(s:Vals ys ws):Vals (xs++ys) (us++ws):=by
 induction h with
 |nil=>exact s
 |cons r _ ih=>exact xjt r
theorem Vals.take (n)(h:xlx):Vals (xs.take n) (us.take n):=by
 induction h generalizing n with
 |nil=>cases n<;>exact .nil
 |cons r _ ih=>cases n with
  |zero=>show xg0
  |succ n=>exact .cons r (ih n)
theorem Vals.drop:∀{xs} {us} n,xlx->Vals (xs.drop n) (us.drop n)
 |_,_,0,r=>r
 |_,_,_+1,.nil=>.nil
 |_,_,n+1,.cons _ t=>Vals.drop n t
def Lr:xc0->Ψ xHC
 |some v,some u=>xdc
 |none,none=>True
 |_,_=>False
def KV:xpF->Ψ (xkL κ JC):=Paired λ(p:κ×V) (q:κ×JC)=>xag=xaZ/\RelV xgO xbh
def kV:Key->V
 | .inl i=>xcA
 | .inr x=>xrH
inductive HO where
  |lst (xs:KB)
  |tup (xs:KB)
  |dK (JV:xls Key)|dT (JV:xls xmA)
  |set (S:xjC Int) (n:Nat)
  |ins (C dx:JB) (fs:xex)
  |own (x:JB)
  |xd (fs:xex)
  |met (f x:JB)
  |rng (lo hi:Int)
  |frz (o:JK) (u:HO)
  |tbl (ps:xrr)
  |ext (φ:Ψ JI)
abbrev Hp:=JB->Option HO
noncomputable def upd (H:Hp) (a:JB) (o:HO):Hp:=λ b=>xbV b a Id xal
def ac {H:Hp}:xsi a=Id:=by show xbk upd Τ
def ag {H:Hp}(h:b≠a):xsi b=xal:=by show xbk upd (Dc h)
def dz {H:Hp}{a:JB}{o u:HO}:upd xsi a u=xvg u:=by
 funext b;unfold upd;split<;>rfl
def aF {H:Hp}(h:Uf=Id)(h':xal=xao)(d:o≠u):a≠b:=by
 intro e;subst e;show UV h h' (d (DK h'))
def ad {H:Hp}(h:Uf=Id)(h':xdb):a≠b:=by
 intro e;show xba e h h' h'
section
variable (P:JE)(w:JF)
def J6 (H:Hp)(h:JI)(a:JB):Ψ HO
 | .lst xs=>xmm/\∃its n,xsM/\xhc a xvk
 | .tup xs=>xmm/\∃its,xsM/\IsTup h a its.toArray
 | .dK JV=>xt8/\ρ (xoE a)/\∃vs,xpG/\xKe P w a vs
 | .dT JV=>xt8/\ρ (xoE a)/\∃xs,
   Paired (λ p q=>xag=xaZ/\H (Μ q)=xCs xag kV/\RelV xgO (xaY q)) JV xs/\
   ∃o es ep,xrl=Id/\o.ExactDict/\xiQ (.dict es ep)/\es.toList=xs.map (entryOfKey (xAE P w))/\(xs.map (·.1)).Nodup
 | .set S n=>h.SetOf (intKind P w) a S n
 | .ins C dx fs=>xoV dx a/\xbH fs.length/\dx≠a/\xhc a (instObj C dx)/\
   ∃mA,h.Ns1 dx mA/\(∀f,Lr xAF (mA f))/\xMn
 | .own _=>∃o,xrl=Id
 | .xd fs=>∃mA,h.Ns1 a mA/\∀f,Lr xAF (mA f)
 | .rng lo hi=>∃t u v,xhc a (xBQ #[xb1 lo,xrM u,xrU v])
 | .frz o u=>xrl=Id/\J6 H h a u
 | .tbl ps=>xhc a (xI7 .none ps)
 | .met f x=>xhc a (xJg xcy)
 | .ext φ=>φ h/\(∃o,xrl=Id)/\∀h1 h2,φ h1->(∀o,h1.get? a=Id->h2.get? a=Id)->φ h2
def LG (H:Hp)(h:JI):Prop:=∀a o,Uf=Id->xqs o
universe s
section
variable {P:JE}{w:JF}{H H':Hp}{h h':JI}{a:JB}{o:HO}
theorem J6.lt (x:xqs o):a<h.objs.size:=by
 cases o with
 |lst xs=>show xFi e x xb4
 |tup xs=>show xqR p x p.lt
 |dK JV=>obtain⟨_,_,_,_,o,_,_,e,_⟩:=x;exact xb4
 |dT JV=>obtain⟨_,_,_,_,o,_,_,e,_⟩:=x;exact xb4
 |set S n=>obtain⟨o,_,_,_,e,_⟩:=x;exact xb4
 |ins C dx fs=>obtain⟨_,_,_,e,_⟩:=x;exact xb4
 |own y=>obtain⟨_,e⟩:=x;exact xb4
 |xd fs=>obtain⟨_,⟨_,_,_,e,_⟩,_⟩:=x;exact xb4
 |rng lo hi=>show xqR e x xb4
 |frz ob u=>obtain⟨e,_⟩:=x;exact xb4
 |tbl ps=>exact Dt (xae xrl (some _) x)
 |met f y=>exact Dt (xae xrl (some _) x)
 |ext φ=>obtain⟨_,⟨_,e⟩,_⟩:=x;exact xb4
def Paired.mapP {l₁:xbF}{l₂:List β}(h:Paired F l₁ l₂)(f:∀a b,F a b->G a b):Paired G l₁ l₂:=by
 induction h with
 |nil=>show xg0
 |cons r _ ih=>exact xjt (f _ _ r)
def J6.stay (x:xqs o)(k:∀b u,(b=a\/xoV b a)->xdp=xao->xcu=xao)
  (ho:∀b,xoV b a->Re xdV (.own a)) (ht:∀b xs,xal=xgK->xdV=xgK):xx8 H' h' a o:=by
 induction o with
 |lst xs=>show xkk its n r e x;exact⟨z,its,n,r,xlU⟩
 |tup xs=>obtain⟨z,its,r,ob,e,c⟩:=x;exact⟨z,its,r,ob,xlU,c⟩
 |dK JV=>obtain⟨z,y,vs,r,ob,es,ep,e,c⟩:=x;exact⟨z,y,vs,r,ob,es,ep,xlU,c⟩
 |dT JV=>
  obtain⟨z,y,xs,r,ob,es,ep,e,c⟩:=x;exact⟨z,y,xs,Paired.mapP r λ p q z=>⟨xd3,ht _ _ (Μ z),xaY z⟩,ob,es,ep,xlU,c⟩
 |set S n=>obtain⟨ob,es,ep,t,e,c⟩:=x;exact⟨ob,es,ep,t,xlU,c⟩
 |ins C dx fs=>
  obtain⟨d,z,ne,e,mA,⟨od,es,ep,e2,c⟩,r⟩:=x;exact⟨ho _ d,z,ne,xlU,mA,⟨od,es,ep,xmX (.inr d) e2,c⟩,r⟩
 |own y=>show xa4 ob e x ⟨ob,xlU⟩
 |xd fs=>obtain⟨mA,⟨od,es,ep,e,c⟩,r⟩:=x;exact⟨mA,⟨od,es,ep,xlU,c⟩,r⟩
 |rng lo hi=>obtain⟨t,u,v,e⟩:=x;show xaC t u v xlU
 |frz ob u ih=>show xa4 e q x ⟨xlU,ih q⟩
 |tbl ps=>
  have e:xhc a (xI7 .none ps):=x;show xq7 a (xI7 .none ps);exact k a _ xbZ e
 |met f y=>
  have e:xhc a (xJg (.ref y)):=x;show xq7 a (xJg (.ref y));exact k a _ xbZ e
 |ext φ=>obtain⟨p,⟨o,e⟩,st⟩:=x;exact⟨xd6 p λ o q=>xmX xbZ q,⟨o,xlU⟩,st⟩
theorem LG.lt (x:xiN)(e:Uf=Id):a<h.objs.size:=(x a o e).lt
def LG.fresh (x:xiN)(e:xJ2 a):XV a:=by
 cases q:Uf with
 |none=>rfl
 |some u=>show xaW (CZ (x.lt q) e) xmT
def LG.kept (x:xiN)(k:∀b u,xdp=xao->xcu=xao):xuS H h':=λ a o e=>
 (x a o e).stay (λ b u _ q=>xgY u q) (λ _ q=>q) xy8
def LG.laid (x:xiN)(k:∀b u,xdp=xao->xcu=xao)(hp:xJ2 a)(new:xx8 xsi h' a o):xuS xsi h':=λ b u e=>by
 have hn:=x.fresh hp;by_cases hb:b=a
 ·show xba hb ac e e;exact new
 ·show UV xjW e ((x b u e).stay (λ c v _ q=>k c v q) (λ c q=>by show xh3 q hn q) λ c xs q=>by show xh3 q hn q)
universe s
def Rd (H:Hp)(a:JB)(u:HO):Prop:=Uf=xao\/∃o,Uf=xhb o u
def Rd.ok {P:JE}(r:Rd H a u)(x:xiN):xqs u:=by
 rcases r with r|⟨o,r⟩
 ·exact x a u r
 ·obtain⟨_,q⟩:=x a _ r;exact q
def Mut:Ψ (Option HO)
 |some (.lst _)=>True
 |some (.dK _)=>True
 |some (.dT _)=>True
 |some (.set _ _)=>True
 |some (.ins _ _ _)=>True
 |some (.ext _)=>True
 |_=>False
section
variable {P:JE}{w:JF}{H:Hp}{h h':JI}{x e:JB}{o':HO}
def LG.write (ok:xiN)(mu:Mut xgZ)(he:e=x\/xoV e x)(k:∀b u,b≠e->xdp=xao->xcu=xao)(YK:∃u,xm3 e xao)
  (new:xx8 (xfd x o') h' x o'):xuS (xfd x o') h':=λ b u q=>by
 have nown:∀c y,xoV c y->Ν x:=λ c y r z=>by subst z;show UV r mu mu
 have ntup:∀c xs,WF=xgK->Ν x:=λ c xs r z=>by subst z;show UV r mu mu
 by_cases hb:b=x
 ·show xba hb ac q q;exact new
 ·rw [xjW] at q;by_cases NM:b=e
  ·have q':xoV b x:=by
    rcases he with z|z
    ·show xaW (NM.trans z) hb
    ·show IO NM z
   show Tl q q' q';show xa4 v hv YK ⟨v,by show IO NM hv⟩
  ·refine(ok b u q).stay (λ c v hc r=>k c v ?_ r) (λ c r=>by show Ty (nown c b r) r) λ c xs r=>by show Ty (ntup c xs r) r
   rcases hc with rfl|hc
   ·exact NM
   ·rintro rfl;rcases he with z|z
    ·exact nown c b hc z
    ·show xhH hc z z (hb rfl)
universe s
structure Un (fs ex:xaa)(H H':Hp)(h h':JI):Prop where
 keep:∀b o,xdp=Id->xdb->b∉fs->b∉ex->xcu=Id
 slot:∀b o,xdp=Id->xdb->b∈fs->b∉ex->∃sl,Re xcu (xKG o)
 free:∀b o,xdp=Id->xdb->b∉ex->xmS
 there:∀b o,xdp=Id->b∉ex->∃o',Re xcu o'
 tups:∀b xs,xal=xgK->xdV=xgK
 frzs:∀b o u,xal=xhb o u->xdV=xhb o u
 tbls:∀b ps,xfG b xxN->∃more,Re xdV (.tbl (ps++more))
section
variable {fs fs' ex ex':xaa}{H H1 H2:Hp}{h h1 h2 h':JI}{a x e:JB}{o:HO}
def Un.any (u:Un fs ex H H1 h h1)(q:Re xdp ob)(n:xdb)(hx:b∉ex):∃sl,Re (h1.get? b) (xKG ob):=by
 by_cases hb:b∈fs
 ·exact u.slot b ob q n hb hx
 ·show xaI ob.slots (u.keep b ob q n hb hx)
def Un.kept (k:∀b u,xdp=xao->xcu=xao):Un fs ex H H h h':=
 ⟨λ b ob q _ _ _=>xsV q,λ b ob q _ _ _=>⟨ob.slots,xsV q⟩,λ _ _ _ n _=>n,λ b ob q _=>⟨ob,xsV q⟩,xy8,λ _ _ _ q=>q,λ _ ps q=>xr5 (by show xbD q)⟩
def Un.refl:Un fs ex H H h h:=Un.kept xy8
def Un.laid (k:∀b u,xdp=xao->xcu=xao)(hp:xJ2 a)(hn:XV a):Un fs ex H xsi h h' where
 keep:=λ b u q _ _ _=>xgY u q
 slot:=λ b u q _ _ _=>⟨u.slots,xgY u q⟩
 free:=λ b u q n _=>by show Ty (xuJ (Dt q) hp) n
 there:=λ b u q _=>⟨u,xgY u q⟩
 tups:=λ b xs q=>by show xh3 q hn q
 frzs:=λ b u xs q=>by show xh3 q hn q
 tbls:=λ b ps q=>xr5 (by rw [xkM q hn,q];simp)
def Un.write (mu:Mut xgZ)(he:e=x\/xoV e x)(k:∀b u,b≠e->xdp=xao->xcu=xao)(YK:∃u,xm3 e xao):Un fs ex H (xfd x o) h h':=by
 have hx:∀b,xdb->b≠x:=λ b n z=>by subst z;show UV n mu mu
 have hb:∀b,xdb->b≠e:=λ b n z=>by
  subst z;rcases he with r|r
  ·exact hx b n r
  ·show Tl n r r
 have hm:∀b u,xal=xao->¬Mut xao->b≠x:=λ b u q nm z=>by subst z;show UV q mu (nm mu)
 refine⟨λ b u q n _ _=>xgY u (xhG n) q,λ b u q n _ _=>⟨u.slots,xgY u (xhG n) q⟩,λ b u q n _=>by show Ty (hx b n) n,λ b u q _=>?_,
  λ b xs q=>by show Ty (hm b _ q (LT z)) q,λ b u xs q=>by show Ty (hm b _ q (LT z)) q,λ b ps q=>xr5 (by rw [ag (hm b _ q (LT z)),q];simp)⟩
 by_cases NM:b=e
 ·subst NM;exact YK
 ·show xaI u (xgY u NM q)
universe s
noncomputable def trk (h:JI) (H:Hp):xaa:=xwF h.objs.size (λ a=>(Uf).isSome)
def hidT (h:JI)(H:Hp):JI:=PySem.W.hideAll h (trk h H)
def tu (h)(H:Hp):(hidT h H).objs.size=h.objs.size:=PySem.W.hideAll_size _ _
def vU (e:xdp=Id)(n:xdb):xyL (hidT h H)=Id:=
 PySem.W.hideAll_get _ e λ hm=>by
  have q:xjo xal:=(Fk.mp hm).2;rw [n] at q;simp at q
def yP (e:xyL (hidT h H)=Id):xdp=Id/\xdb:=by
 have e':xdp=Id:=PySem.W.of_hideAll (trk h H) e;refine xcO e';cases q:xal with
 |none=>rfl
 |some x=>
  have hm:b∈trk h H:=Fk.mpr ⟨G1.mpr (Dt e'),by simp [q]⟩;have z:Ζ (xyL (hidT h H)):=PySem.W.hideAll_none (trk h H) hm;show xnZ z
structure Mod (K:Frag)(mg:W1)(base:JI):Prop where
 kin:K.In base
 glob:xAg mg
 blt:∃mb,base.Ns builtinsNs mb/\∀x:Str,xzj->mb x=xwX
 nolimit:base.NoLimit
structure Cx where
 prog:JE
 w:JF
 K:Frag
 mg:W1
 base:JI
 A:JH
 N:xaj
 s₀:JD
 H₀:Hp
 env:Env
 outer:xfN
 stack:xfN
 ex:xaa
 fn:xjC Str
 calm:Bool
 pn:π
 xe:Κ
def BkH (H:Hp)(a:JB)(c:JC):Prop:=c=.none\/∃b ob us,c=xmJ/\b≠a/\xal=xhb ob (.own b)/\ob.data=xKd/\6≤us.size/\xaH us 2 Value.none
def Qt (A:JH)(H:Hp):Prop:=xJi\/∃a o vs c,A.handled=xbv/\Uf=xhb o (.own a)/\xiQ xrb/\(vs[2]?=xaV/\6≤vs.size)/\BkH H a c
def frs (l:xfN):xaa:=l.filterMap (·.frame)
abbrev Cx.fs (X:Cx):xaa:=frs X.outer
def Vis (sc:Scope)(x:Str):Prop:=xqJ=xdI\/xqJ=xfC\/xCJ xqJ
def Loc (sc:Scope)(x:Str):Prop:=xqJ=xdI\/xqJ=xfC
def Cg (env:Env)(h:JI)(m:W1)(x:Str)(u:JC):Prop:=
 (xI8=xdI/\m x=xao)\/((xI8=xfC\/xCJ xI8)/\∃c,env.cells.lookup x=xaV/\h.IsCell c xao)
structure Cx.Ok (X:Cx):Prop where
 mod:Mod X.K X.mg X.base
 kind:xHZ X.env.scope.kind
 glob:X.env.globals=mainGlobals
 blt:X.env.builtins=builtinsNs
 above:xqF X.env.locals
 inj:∀x y c,xdG=xaV->X.env.cells.lookup y=xaV->x=y
 has:∀x,(xIH=xfC\/xCJ xIH)->∃c,xdG=xaV
 cab:∀x c,xxO x->xdG=xaV->xqF c
 hd:Qt X.A X.H₀
 frames:Re X.A.frames X.stack
 stk:X.stack=X.outer\/(X.stack=X.env::X.outer/\Re X.env.frame X.env.locals)
 exf:xax X.ex (xkR b/\∀x c,xdG=xaV->Ν b)
 bs:∀b o,xAy=Id->xH8=Id/\Ζ (X.H₀ b)
 bsz:X.base.objs.size≤X.s₀.heap.objs.size
 noex:∀b o,xAy=Id->b∉X.ex
 exfs:xax X.ex (xvL b)
 funs:xLa X.outer
 frf:xax X.fs (Ζ (X.H₀ b))
structure Inv (X:Cx)(JM:π)(σ:List xc0)(H:Hp)(s:JD):Prop where
 ok:X.Ok
 os:s.os=X.s₀.os
 bare:AllBare s.gens
 base:Un X.fs X.ex X.H₀ H X.s₀.heap s.heap
 loc:∃m,xLD m/\∀(i:Nat) (x:Str) (v:V),xvs=Χ->xad σ xab->xIx x->∃u,xdc/\Cg X.env s.heap m x u
 cell:∀x c,xdG=xaV->∃v,s.heap.IsCell c v
 free:XV X.env.locals
 freeC:∀x c,xdG=xaV->XV c
 pin:xcU (X.pn++JM) (xfK xag xgO/\XV xag/\xkR xag/\xvL xag/\∀v,(xgO).data≠ xuZ)
 hok:xy9 H s.heap
 len:xuM X.N.length
section
variable {X:Cx}{JM:π}{σ:List xc0}{H H':Hp}{s:JD}{h':JI}
def Cx.Ok.nofr (ok:X.Ok){b:JB}{o:JK}(e:xAy=Id):xvL b:=λ hb=>by
 have:=(ok.funs.mem hb).1;show Tl e this this
theorem Inv.bs (I:Pi):∀b o,xAy=Id->xeA/\xdb:=λ b o e=>
 ⟨xEn o (xFI o e).1 (xFI o e).2 (I.ok.nofr e) (xJv o e),xAz o (xFI o e).1 (xFI o e).2 (xJv o e)⟩
def Inv.bk (I:Pi):∀b o,xAy=Id->xeA:=λ b o e=>(I.bs b o e).1
theorem Inv.mod (I:Pi):Mod X.K X.mg X.base:=I.ok.mod
def BkH.keep {H H':Hp}{c:JC}(h:BkH H a c)(k:∀b o u,xal=xhb o u->xdV=xhb o u):BkH H' a c:=by
 rcases h with h|⟨b,ob,us,e,n,g,r⟩
 ·show xaN h
 ·show xbX ⟨b,ob,us,e,n,xmX _ g,r⟩
def Inv.qt (I:Pi):Qt X.A H:=by
 rcases I.ok.hd with q|⟨a,o,vs,c,e,f,d,z,b⟩
 ·show xaN q
 ·show xbX ⟨a,o,vs,c,e,I.base.frzs _ _ _ f,d,z,b.keep I.base.frzs⟩
def Inv.hq (I:Pi):QQ.Hq X.A s.heap:=by
 rcases I.qt with q|⟨a,o,vs,c,e,f,d,z,b⟩
 ·show xaN q
 ·obtain⟨g,_⟩:=xgC a f;refine .inr ⟨a,o,vs,e,g,d,xgV,?_⟩;rcases b with b|⟨b,ob,us,e1,n,f1,r⟩
  ·show xaN ((xd3).trans (xtX b))
  ·obtain⟨g1,_⟩:=xgC b f1;show xbX ⟨b,ob,us,(xd3).trans (xtX e1),n,g1,r⟩
def Inv.kIn (I:Pi):X.K.In s.heap:=I.ok.mod.kin.keeps I.bk
theorem Inv.lt (I:Pi):xg7 X.env.locals:=let⟨_,hn,_⟩:=I.loc;hn.lt
def Inv.sz (I:Pi):xqF s.heap.objs.size:=CV I.ok.above (Dr I.lt)
def Inv.nofs (I:Pi){a:JB}(h:xAm a):xvL a:=λ hb=>by
 obtain⟨_,o,ho,_⟩:=I.ok.funs.mem hb;show xaW (CZ (Dt ho) (CV I.sz h)) xmT
def Inv.cne (I:Pi):∀x c,xdG=xaV->Ν X.env.locals:=λ x c e z=>by
 obtain⟨v,o,ho,hd⟩:=xrB x e;obtain⟨m,⟨o',es,ep,Qq,YL,_⟩,_⟩:=I.loc;show xbY Qq ho ho;show Tl YL hd hd
theorem Inv.funs (I:Pi):xHT X.outer:=by
 have all:∀(l:xfN),(xax (frs l) (b∈X.fs))->xLa l->xHT l:=by
  intro l
  induction l with
  |nil=>intro _ _;trivial
  |cons env r ih=>
   intro hs hl;obtain⟨hk,⟨L,o,hf,hn,ho,hd⟩,hr⟩:=hl;have hL:L∈X.fs:=hs L (by unfold frs;rw [IQ,hf];exact Do);show xa4 sl e (xEO L ho (I.ok.frf L hL) hL (LT (I.ok.exfs L z hL))) ⟨hk,⟨L,_,hf,hn,e,hd⟩,ih (xa3 (hs b (by unfold frs;rw [IQ,hf];exact xCC))) hr⟩
 exact all X.outer (λ _ hb=>hb) I.ok.funs
theorem Inv.stack (I:Pi):xHT X.stack:=by
 rcases I.ok.stk with e|⟨e,hf⟩
 ·show xeY I.funs
 ·rw [e];obtain⟨m,hn,_⟩:=I.loc;refine .cons (by rw [I.ok.kind];decide) hf hn ?_ I.funs;exact Heap.get?_none_of_le (xEV I.ok.above)
def Inv.stkSub (I:Pi):xax xEu (b∈X.env.locals::X.fs):=xa3 (by
 rcases I.ok.stk with e|⟨e,hf⟩
 ·show UV e hb xCC
 ·rw [e] at hb;unfold frs at hb;rw [IQ,hf] at hb;exact hb)
def Inv.stkFree (I:Pi):xax xEu xdb:=xa3 (by
 show xl8 (xKf hb) e hb
 ·show xeY I.free
 ·obtain⟨_,o,ho,_⟩:=I.ok.funs.mem hb;exact xAz o ho (I.ok.frf b hb) (LT (I.ok.exfs b z hb)))
def Inv.step {g':Array GenState}{t':Nat}{d':Drawn}{ch:xaa}(I:Pi)
  (UU:xax ch ((b∈X.ex\/xqF b)/\xkR b/\(∀x c,xdG=xaV->Ν b)/\xcU (X.pn++JM) (xag≠b)))
  (keep:∀b o,xkR b->xvL b->b∉ch->xeA->xdb->xcu=Id)
  (slot:∀b o,xkR b->b∈X.fs->b∉ch->xeA->xdb->∃sl,Re xcu (xKG o)) (free:∀b o,b∉ch->xeA->xdb->xmS)
  (there:∀b o,b∉ch->xeA->∃o',Re xcu o')
  (tups:∀b xs,xal=xgK->xdV=xgK) (frzs:∀b o u,xal=xhb o u->xdV=xhb o u) (tbls:∀b ps,xfG b xxN->∃more,Re xdV (.tbl (ps++more)))
  (ns:∀m,xLD m->h'.Ns X.env.locals m) (hok:xy9 H' h') (hg:AllBare g'):
  xAx {s with heap:=h',gens:=g',drawn:=d',toks:=t'}:=by
 have neL:∀b o,xH8=Id->xkR b:=λ b o e=>xEU xb4
 have neC:∀b o,xH8=Id->b∉X.ex->b∉ch:=λ b o e hx hb=>by
  rcases(UU b hb).1 with z|z
  ·exact hx z
  ·show xaW (CZ xb4 z) xmT
 have cellK:∀x c,xdG=xaV->∀v,s.heap.IsCell c v->h'.IsCell c v:=λ x c e v ⟨o,ho,hd⟩=>by
  have Sd:c∉ch:=LT (Μ (UU c z).2 x c e rfl)
  by_cases hc:c∈X.fs
  ·show xa4 sl q (slot c o (I.cne x c e) hc Sd ho (xxB c e)) (xav q hd)
  ·exact xdx (keep c o (I.cne x c e) hc Sd ho (xxB c e)) hd
 refine⟨I.ok,I.os,hg,⟨λ b o e n hb hx=>?_,λ b o e n hb hx=>?_,λ b o e n hx=>?_,λ b o e hx=>?_,λ b xs e=>tups b xs (I.base.tups b xs e),λ b o xs e=>frzs b o xs (I.base.frzs b o xs e),xda b ps⟩,?_,xda x c,?_,xda x c,xtd,hok,I.len⟩
 ·exact keep b o (neL b o e) hb (neC b o e hx) (xEn o e n hb hx) (xAz o e n hx)
 ·obtain⟨sl,e1⟩:=xEO b e n hb hx;show xa4 sl' e2 (slot b _ (neL b o e) hb (neC b o e hx) e1 (xAz o e n hx)) ⟨sl',e2⟩
 ·show xa4 o' e1 (xEf o e hx) (free b o' (neC b o e hx) e1 (xAz o e n hx))
 ·show xa4 o' e1 (xEf o e hx) (there b o' (neC b o e hx) e1)
 ·obtain⟨m1,e1⟩:=I.base.tbls b ps e;show xa4 m2 e2 (tbls b _ e1) ⟨m1++m2,by rw [e2,Array.append_assoc]⟩
 ·show xa8 m hn hl I.loc ⟨m,ns m hn,λ i x v e1 e2 e3=>?_⟩;show xa8 u r l (hl i x v e1 e2 e3) (xac u r);rcases l with l|⟨k,c,e,z⟩
  ·show xaN l
  ·show xbX ⟨k,c,e,cellK x c e _ z⟩
 ·show xa4 v z (xrB x e) ⟨v,cellK x c e v z⟩
 ·obtain⟨m,⟨o,_,_,ho,_⟩,_⟩:=I.loc;exact free _ o (LT (Μ (UU _ z) rfl)) ho I.free
 ·obtain⟨v,o,ho,hd⟩:=xrB x e;exact free c o (LT (Μ (UU c z).2 x c e rfl)) ho (xxB c e)
 ·obtain⟨e,n,ne,nf,d⟩:=xu0 hp;have Sd:xag∉ch:=LT (xaY (UU xag z).2 p hp rfl)
  exact⟨keep xag xgO ne nf Sd e n,free xag xgO Sd e n,ne,nf,d⟩
def Inv.un {t':Nat}(I:Pi)(u:Un X.fs [] H H' s.heap h')(hok:xy9 H' h'):xkE H' s t':=by
 obtain⟨m,⟨o,es,ep,ho,r⟩,_⟩:=id I.loc;show xa4 sl hL (u.any ho I.free Z6) (xFX (d':=s.drawn) (ch:=[]) (λ _ z=>xDw) (λ b o _ hb _ e n=>u.keep b o e n hb Z6) (λ b o _ hb _ e n=>u.slot b o e n hb Z6) (λ b o _ e n=>u.free b o e n Z6) (λ b o _ e=>u.there b o e Z6) u.tups u.frzs u.tbls (λ m' hm=>by
  obtain⟨o',Vx,ep',Qq,r'⟩:=hm;show xhH ho Qq Qq (xdZ Vx ep' hL r')) hok I.bare)
def Inv.call {g':Array GenState}{t':Nat}{d':Drawn}(I:Pi)(u:Un xEu ch H H' s.heap h')(hok:xy9 H' h')(hg:AllBare g')
  (UU:xax ch ((b∈X.ex\/xqF b)/\xkR b/\(∀x c,xdG=xaV->Ν b)/\xcU (X.pn++JM) (xag≠b))):
  xAx {s with heap:=h',gens:=g',drawn:=d',toks:=t'}:=by
 obtain⟨m,⟨o,es,ep,ho,r⟩,_⟩:=id I.loc;show xa4 sl hL (u.any ho I.free (LT (Μ (UU _ z) rfl))) (I.step UU (λ b o hL hb hc e n=>u.keep b o e n (LT ((Dm.mp (xKf z)).elim hL hb)) hc) (λ b o _ _ hc e n=>u.any e n hc) (λ b o hc e n=>u.free b o e n hc) (λ b o hc e=>u.there b o e hc) u.tups u.frzs u.tbls (λ m' hm=>by
  obtain⟨o',Vx,ep',Qq,r'⟩:=hm;show xhH ho Qq Qq (xdZ Vx ep' hL r')) hok hg)
def Inv.turned {t':Nat}{it:JB}(I:Pi)(k:∀b o,b≠it->xeA->xcu=Id)(hn:XV it)(hL:xkR it)
  (h1:it∈X.ex\/xqF it) (h2:∀x c,xdG=xaV->Ν it) (h3:xcU (X.pn++JM) (xag≠it)):xkE H s t':=by
 have nit:∀b u,xal=xao->b≠it:=λ b u e z=>by show xbY hn e e
 refine xFX (ch:=[it]) xfn (λ b o _ _ hc e _=>xgY o (LT (hc (by simp [z]))) e) (λ b o _ _ hc e _=>xxA (xgY o (LT (hc (by simp [z]))) e)) (λ _ _ _ _ n=>n) (λ b o hc e=>⟨o,xgY o (LT (hc (by simp [z]))) e⟩) (λ _ _ e=>e) (λ _ _ _ e=>e) (λ b ps e=>xr5 (by show xbD e)) (LE m hm) (xda b u) I.bare
 ·have e:b=it:=by show xmI
  subst e;show xaC h1 hL h2 h3
 ·show xpI es ep ho r hm;exact⟨o,es,ep,xcF o (G6 hL) ho,r⟩
 ·refine xuc b u e (λ c v hc q=>k c v ?_ q) (λ _ q=>q) xy8
  rcases hc with z|z
  ·show IO z (nit b u e)
  ·exact nit c _ z
def Inv.tok (I:Pi)(t:Nat):xl9 (xIj t):=I.un (h':=s.heap) (t':=t) Un.refl I.hok
theorem Inv.kept {t':Nat}(I:Pi)(k:∀b u,xzX b xao->xcu=xao):xkE H s t':=I.un (Un.kept k) (I.hok.kept k)
theorem Inv.laid {a:JB}{o:HO}{t':Nat}(I:Pi)(k:∀b u,xzX b xao->xcu=xao)(hp:xAm a)(new:xxz xsi h' a o):
  xkE xsi s t':=I.un (Un.laid k hp (I.hok.fresh hp)) (I.hok.laid k hp new)
theorem Inv.write {x e:JB}{o:HO}{t':Nat}(I:Pi)(mu:Mut xgZ)(he:e=x\/xoV e x)(k:∀b u,b≠e->xzX b xao->xcu=xao)(YK:∃u,xm3 e xao)
  (new:xxz (xfd x o) h' x o):xkE (xfd x o) s t':=I.un (Un.write mu he k YK) (I.hok.write mu he k YK new)
def Inv.pins_of {Ks:π}(I:Pi)(h:xcU Ks (xfK xag xgO/\XV xag/\xkR xag/\xvL xag/\∀v,(xgO).data≠ xuZ)):xwm H s:=
 ⟨I.ok,I.os,I.bare,I.base,I.loc,I.cell,I.free,I.freeC,λ p hp=>xml hp (LT (xu0 (xnQ z))) (h p),I.hok,I.len⟩
def nD {N:xaj}(hN:N.Nodup){i j:Nat}(a:xa6 N=Χ)(b:N[j]?=Χ):i=j:=by
 obtain⟨h1,e1⟩:=Da.mp a;show xa4 h2 e2 (Da.mp b) ((List.getElem_inj hN).mp (e1.trans e2.symm))
def uA {M:Model}{A:JH}(I:Pi)(hN:X.N.Nodup)(hi:xvs=Χ)(hx:xEa x)(r:xdc)
  (h:∀s',Inv X JM (σ.set i xab) H s'->(∃a,xAi a s'.heap/\(a=X.env.locals\/Re xdG a))->xnR s') (hf:xw6 (xxO x\/xqE=xdI)):xx9 A (storeName X.env x u) Q E s:=by
 obtain⟨m,hn,hl⟩:=id I.loc;have hcls:ρ (X.env.scope.kind== .class||(X.env.scope.kind== .module&&X.env.locals !=X.env.globals)):=by rw [I.ok.kind];rfl
 have hiσ:i<σ.length:=by show IO I.len (xco hi)
 have cne:=I.cne;have tracked:∀{a} {h'},(∃o,xqX a/\XV a)->xAi a h'->xy9 H h':=λ {a h'} ha hs b ob e=>by
  show xma Lu ha (xuc b ob e (λ c w' hc q=>xog c ?_ q) (λ _ q=>q) xy8)
  rintro rfl;rcases hc with rfl|hc
  ·show xnZ Lu
  ·show Tl Lu hc hc
 rcases hx with hk|hk
 ·refine wpAny_storeName_local hk hn (Sc h' hn' hs) hcls;obtain⟨oL,_,_,hoL,_⟩:=id hn;refine xf6 ⟨I.ok,I.os,I.bare,⟨λ b o e n hb hx=>?_,λ b o e n hb hx=>?_,I.base.free,λ b o e hx=>?_,I.base.tups,I.base.frzs,I.base.tbls⟩,xav hn' (λ j y v' e1 e2 e3=>?_),xda y c,I.free,I.freeC,xtd,tracked ⟨oL,hoL,I.free⟩ hs,by simpa using I.len⟩ (xav hs xbZ)
  ·exact xog b (xEU xb4) (xEn o e n hb hx)
  ·show xa4 sl e1 (xEO b e n hb hx) ⟨sl,xog b (xEU xb4) e1⟩
  ·show xa4 o' e1 (xEf o e hx) ⟨o',xog b (xEU xb4) e1⟩
  ·by_cases hj:j=i
   ·show xba hj hi e1 e1;show xhH (Fy hiσ) e2 e2 ⟨u,r,.inl ⟨hk,Z6⟩⟩
   ·rw [Hk (G6 hj)] at e2;show xa8 u' r' q (hl j y v' e1 e2 e3) (xac u' r');rcases q with⟨k,e⟩|⟨k,c,e,z⟩
    ·refine .inl (xcO k);have:y≠x:=λ e=>hj (nD hN e1 (e▸hi))
     simp [this,e]
    ·show xbX ⟨k,c,e,z.sameBut hs (cne y c e)⟩
  ·show xa4 w' z (xrB y e) ⟨w',z.sameBut hs (cne y c e)⟩
  ·obtain⟨e,n,ne,nf,d⟩:=xu0 hp;exact⟨xog xag ne e,n,ne,nf,d⟩
 ·have Xo:xxO x:=by
   rcases hf with z|z
   ·exact z
   ·show Tl z hk hk
  obtain⟨c,hc⟩:=I.ok.has x (.inl hk);show xbp w' z (xrB x hc) (wpAny_storeName_cell I.ok.kind hk hc z (Sc h' Ls hs));show xa8 oc MN hocd (id z) (h xfe ⟨I.ok,I.os,I.bare,⟨λ b o e n hb hx=>?_,λ b o e n hb hx=>?_,I.base.free,λ b o e hx=>?_,I.base.tups,I.base.frzs,I.base.tbls⟩,⟨m,hn.sameBut hs (G6 (cne x c hc)),λ j y v' e1 e2 e3=>?_⟩,xda y c',I.free,I.freeC,xtd,tracked ⟨oc,MN,xxB c hc⟩ hs,by simpa using I.len⟩ ⟨c,hs,.inr hc⟩)
  ·exact xog b (xuJ xb4 (xKg c Xo hc)) (xEn o e n hb hx)
  ·show xa4 sl e1 (xEO b e n hb hx) ⟨sl,xog b (xuJ xb4 (xKg c Xo hc)) e1⟩
  ·show xa4 o' e1 (xEf o e hx) ⟨o',xog b (xuJ xb4 (xKg c Xo hc)) e1⟩
  ·by_cases hj:j=i
   ·show xba hj hi e1 e1;show xhH (Fy hiσ) e2 e2 ⟨u,r,.inr ⟨.inl hk,c,hc,Ls⟩⟩
   ·rw [Hk (G6 hj)] at e2;show xa8 u' r' q (hl j y v' e1 e2 e3) (xac u' r');rcases q with q|⟨k,c',e,z'⟩
    ·show xaN q
    ·refine .inr ⟨k,c',e,z'.sameBut hs ?_⟩;rintro rfl;exact hj (nD hN e1 (I.ok.inj _ _ _ e hc▸hi))
  ·by_cases hcc:c'=c
   ·subst hcc;exact xbs Ls
   ·show xa4 w2 z2 (I.cell y c' e) ⟨w2,z2.sameBut hs hcc⟩
  ·obtain⟨e,n,ne,nf,d⟩:=xu0 hp;refine⟨xog xag ?_ e,n,ne,nf,d⟩;intro q;rw [q,MN] at e;have q':oc=xgO:=DK e;exact d w' (by show xa5 q' hocd)
def o0 {M:Model}{A:JH}(I:Pi)(hN:X.N.Nodup)(hi:xvs=Χ)(hx:xEa x)(r:xdc)
  (h:∀s',Inv X JM (σ.set i xab) H s'->xnR s') (hf:xw6 (xxO x\/xqE=xdI)):xx9 A (storeName X.env x u) Q E s:=
 uA I hN hi hx r (λ s' I' _=>h s' I') hf
def Inv.call' {s':JD}{ch:xaa}(I:Pi)(ho:s'.os=s.os)(u:Un xEu ch H H' s.heap s'.heap)(hok:xy9 H' s'.heap)(hg:xAp)
  (UU:xax ch ((b∈X.ex\/xqF b)/\xkR b/\(∀x c,xdG=xaV->Ν b)/\xcU (X.pn++JM) (xag≠b))):xj5:=by
 obtain⟨h',g',d',t',o'⟩:=s';have e:o'=s.os:=ho;subst e;exact I.call (g':=g') u hok hg UU
universe s
abbrev XK:=JC->xfi xhf
abbrev St:=List xc0
abbrev VK:=xfi V
abbrev TE:=St->Hp->xeS
abbrev TT:=St->Hp->Ψ (xu5)
abbrev TA:=St->Hp->Ψ (xfi KB)
structure Ends where
 nx:xbM
 rt:VK
 bk:xbM:=xoo
 ct:xbM:=xoo
abbrev TS:=Ends->xbM
inductive EP (X:Cx) (JM:π) (σ:St) (Q:VK) (u:JC) (s':JD):Prop
 |mk (v:V) (H':Hp) (h0:xj5) (h1:xdc) (h2:xbr v):xn9 u s'
inductive TP (X:Cx) (JM:π) (σ:St) (Q:xu5) (b:Bool) (s':JD):Prop
 |mk (H':Hp) (h0:xj5) (h1:xbr b):TP X JM σ Q b s'
inductive AP (X:Cx) (JM:π) (σ:St) (Q:xfi KB) (us:xaE) (s':JD):Prop
 |mk (vs:KB) (H':Hp) (h0:xj5) (h1:xh4 vs) (h2:xbr vs):AP X JM σ Q us s'
def SP (X:Cx)(JM:π)(D:Ends)(f:Flow)(s':JD):Prop:=
 match f with
 | .next=>∃σ' H',xts X/\D.nx σ' H'
 | .brk=>∃σ' H',xts X/\D.bk σ' H'
 | .cont=>∃σ' H',xts X/\D.ct σ' H'
 | .ret u=>∃v σ' H',xts X/\xdc/\D.rt v H'
def PE (X:Cx)(e:JJ)(t:TE):Prop:=
 ∀(JM:π) (s:JD) (σ:St) (H:Hp) Q,Pi->xd5 Q->xjO xzi X Q s
def PT (X:Cx)(e:JJ)(t:TT):Prop:=
 ∀(JM:π) (s:JD) (σ:St) (H:Hp) Q,Pi->xd5 Q->xe7 (xKH e xzi) (TP X JM σ Q) s
def PW (X:Cx)(e:JJ)(t:TT):Prop:=
 ∀(whole:xyN) (JM:π) (s:JD) (σ:St) (H:Hp) (Q:xu5),Pi->xd5 Q->xe7 (xKH e whole) (TP X JM σ Q) s
def PW.pt {X:Cx}{t:TT}(h:PW X e t):xhI e t:=xf6
def PA (X:Cx)(es:xif)(t:TA):Prop:=
 ∀(pos:Pos) (JM:π) (s:JD) (σ:St) H Q,Pi->xd5 Q->xe7 (spliced (xry es)) (AP X JM σ Q) s
def PS (X:Cx)(st:JL)(t:TS):Prop:=
 ∀(JM:π) (s:JD) (σ:St) H D,Pi->t D σ H->xe7 (exec st X.env) (SP X JM D) s
def PSs (X:Cx)(st:xu1)(t:TS):Prop:=
 ∀(JM:π) (s:JD) (σ:St) H D,Pi->t D σ H->xe7 (execs st X.env) (SP X JM D) s
def thn {Q Q':xfT α}(h:xx9 A t Q E s)(hQ:∀a s,Q a s->Q' a s):xx9 A t Q' E s:=xdl h hQ x x
section
variable {X:Cx}
inductive LI (i:Nat) (σ:St) (H:Hp) (Q:VK):Prop
 |mk (v:_) (h0:xad σ xab) (h1:Q v H):LI i σ H Q
def tC (v:V):TE:=λ _ H Q=>Q v H
def zM {i:Nat}{pos:Pos}(hN:xvs=Χ)(hv:xIx x)(hd:xff (x==xgn))(NL:xff (x==xMk)):Ρ xrp (LI i):=by
 intro JM s σ H Q I h;obtain⟨v,e,h⟩:=h;obtain⟨m,hn,hl⟩:=I.loc;obtain⟨u,r,l⟩:=hl i x v hN e hv;have fin:xn9 u s:=xiU v I r h;rcases l with⟨hk,hm⟩|⟨hk,c,hc,LL⟩
 ·exact xJ3 (wpAny_loadName_local I.ok.kind hk hn hm fin)
 ·rcases hk with hk|hk
  ·exact xJ3 (wpAny_loadName_cell I.ok.kind hk hc LL fin)
  ·exact xJ3 (wpAny_loadName_free I.ok.kind hk hc LL fin NL)
def aj {i j pos}:xr3 (xBv xcA pos) xcA:=λ _ _ _ H _ I h=>wpAny_Constant_int (xiU xcA xeh xbg h)
def dl {b j pos}:xr3 (xBv (.bool b) pos) (.bl b):=λ _ _ _ H _ I h=>Constant_bool (xhn b H I h)
def cU {j pos}:xr3 (xBv .none pos) .non:=λ _ _ _ H _ I h=>Constant_none (xc4 .non H I h)
def jA {x j pos}:xr3 (xBv xrH pos) xrH:=λ _ _ _ H _ I h=>Calls.Constant_str (xiU xrH xeh xbg h)
def Gl (X:Cx)(x:Str):Prop:=Re xIH .globalImplicit
def fu {E:Κ}{JM:π}{σ:St}(I:Pi)(hg:xiC)(hm:xr7=xao)(h:Q u s)
  (hd:xff (x==xgn)):xi9 (xg4 xrp) Q E s:=
 xKZ hg (Calls.loadGlobal_global (by show IO I.ok.glob xHV) hm h) hd
def dG {E:Κ}{JM:π}{σ:St}{pos:Pos}(I:Pi)(hg:xiC)(hm:xmp x)(hv:xwX=xao)(h:Q u s)
  (hn:xtz xzj) (hd:xff (x==xgn)):xi9 (xg4 xrp) Q E s:=by
 show xa9 mb h1 h2 I.mod.blt (xKZ hg (Calls.loadGlobal_builtin (by show IO I.ok.glob xHV) hm (by show IO I.ok.blt (h1.keeps I.bk)) ((h2 x hn).trans hv) h) hd)
def aC (hg:xiC)(hm:xr7=xao)(r:xdc)(hd:xff (x==xgn)):xr3 xrp v:=
 λ _ _ _ H _ I h=>fu I hg hm (xiU v I r h) hd
def lS {pos:Pos}(hg:xiC)(hm:xmp x)(hv:xwX=xao)(r:xdc)(hn:xtz xzj)(hd:xff (x==xgn)):xr3 xrp v:=
 λ _ _ _ H _ I h=>xyJ I hv (xiU v I r h) hn hd
variable {a b:JJ}{ta tb:TE}{pos:Pos}
def PC (X:Cx)(op:CmpOp)(a b:JJ)(t:TE):Prop:=
 ∀(JM:π) (s:JD) (σ:St) (H:Hp) Q,Pi->xd5 Q->
  xzt a (λ v s₁=>xzt b (λ u s₂=>xjO (compareOp op v u) X Q s₂) s₁) s
def pI (b)(h:op≠ .In)(h2:op≠ .NotIn):xAn op b:=by
 have e1:ρ (op==CmpOp.In):=by cases op<;>first|rfl|show xaW rfl h
 have e2:ρ (op==CmpOp.NotIn):=by cases op<;>first|rfl|show xaW rfl h2
 cases b
 case Set l k _=>show ρ (k==0&&(op== .In||op== .NotIn)&&l.all (constantsAlone 8));rw [e1,e2,Bool.or_self,Bool.and_false,Jx]
 all_goals rfl
def B4 (ta:TE):TE:=λ σ H Q=>xgf λ x H1=>xtF (! xcp x .non) H1
def RelV.none_iff (r:xlS):(xDF v)=xcp x .non:=by
 cases x with
 |non=>cases r;rfl
 |bl _=>cases r;rfl
 |int _=>show xta r
 |str _=>show xta r
 |byt _=>show xta r
 |flt _=>show xta r
 |ref _=>cases r;rfl
 |ty _=>cases r;rfl
def xX {j pos'}(ha:xkr):PC X .IsNot a (xBv .none pos') (B4 ta):=by
 intro JM s σ H Q I h;show xf4 (xc5 xnP v) x;exact Constant_none (isnot_none_gen ⟨.bl _,H1,I1,by rw [r1.none_iff];rfl,q1⟩)
inductive tB_p (Q:xu5) (x:V) (H1:Hp):Prop
 |mk (c:_) (h0:x=.bl c) (h1:Q c H1):tB_p Q x H1
def tB (t:TE):TT:=λ σ H Q=>xd5 λ x H1=>tB_p Q x H1
def qR {op:CmpOp}(h:PC X op a b t)(h1:xAn op b:=by first|exact pI _ Z9 Z9|rfl):xhI (xFm [op] xft pos) (tB t):=by
 intro JM s σ H Q I hw;show xf4 (wpAny_isTrue_Compare1 (xcW (h JM s σ H _ I hw) v s1 h1 (xcW h1 u s2 h2 (xgv h2 c s3))) h1) x;show xlK d q q1 r1;exact FW ⟨H1,I1,q⟩
def bC {e:JJ}(h:Ρ e t)(he:xuf (∀whole,xKH e whole=(do let v<-whole;standAt e.pos;holding [v] (truthy v)))):xhI e (tB t):=by
  intro JM s σ H Q I hw
  show xf4 (isTrue_plain (xc5 (h JM s σ H _ I hw) v) (he _)) x
  show xlK d q q1 r1
  exact FW ⟨H1,I1,q⟩
variable {tA tB':TT}{rest:xif}
def B7 (t u:TT):TT:=λ σ H Q=>xd5 λ c H1=>xbS c (u σ H1 Q) (Q false H1)
def tOr (t u:TT):TT:=λ σ H Q=>xd5 λ c H1=>xbS c (xyO H1) (u σ H1 Q)
def Cy (t:TT):TT:=λ σ H Q=>xd5 λ c H1=>Q (! c) H1
def gz (ha:xhI a tA):PW X (xoJ .And xeH) tA:=by
 intro wh JM s σ H Q I h;refine isTrue_and (xcW (xGk Q) c s1 e ?_);cases c with
 |true=>exact isTrue_and_nil e
 |false=>exact e
def eK (ha:xhI a tA):PW X (xoJ .Or xeH) tA:=by
 intro wh JM s σ H Q I h;refine isTrue_or (xcW (xGk Q) c s1 e ?_);cases c with
 |false=>exact isTrue_or_nil e
 |true=>exact e
def jw (ha:xhI a tA)(hb:PW X (xoJ .And (b::rest)) tB'):PW X (xoJ .And (a::b::rest)) (B7 tA tB'):=by
 intro wh JM s σ H Q I h;show xeL (isTrue_and (xc5 xnP c)) H1 I1 q1 z9;cases c with
 |true=>exact hb wh JM s1 σ H1 Q I1 q1
 |false=>exact⟨H1,I1,q1⟩
def iz (ha:xhI a tA)(hb:PW X (xoJ .Or (b::rest)) tB'):PW X (xoJ .Or (a::b::rest)) (tOr tA tB'):=by
 intro wh JM s σ H Q I h;show xeL (isTrue_or (xc5 xnP c)) H1 I1 q1 z9;cases c with
 |true=>exact⟨H1,I1,q1⟩
 |false=>exact hb wh JM s1 σ H1 Q I1 q1
def cb (ha:xhI a tA):xhI (.UnaryOp .Not a pos) (Cy tA):=by
 intro JM s σ H Q I h;exact isTrue_not (xcW (xGk (λ c H1=>Q (! c) H1)) c s1 z9 (by show xa9 H1 I1 q1 z9 ⟨H1,I1,q1⟩))
inductive Rh (tb:TE) (σ:St) (Q:VK) (x:V) (H1:Hp):Prop
 |mk (c:_) (h0:x=.bl c) (h1:xbS c (tb σ H1 Q) (xtF false H1)):Rh tb σ Q x H1
def Bf (ta tb:TE):TE:=λ σ H Q=>xgf λ x H1=>Rh tb σ Q x H1
inductive Rc (Q:VK) (x:V) (H1:Hp):Prop
 |mk (c:_) (h0:x=.bl c) (h1:xtF (! c) H1):Rc Q x H1
def BF (ta:TE):TE:=λ σ H Q=>xgf λ x H1=>Rc Q x H1
def lK {op}{t:TE}(h:Ρ a t):Ρ (xoJ op xeH) t:=λ JM s σ H Q I hw=>BoolOp_one (h JM s σ H Q I hw)
def k8 (ha:xkr)(hb:xpQ (xoJ .And (b::rest))):Ρ (xoJ .And (a::b::rest)) (Bf ta tb):=by
 intro JM s σ H Q I h;show xf4 (BoolOp_and (xc5 xnP v)) x;show xlK c q1 q1 r1;refine FW ?_;cases c with
 |true=>exact xsu s1 σ H1 Q I1 q1
 |false=>exact xhn false H1 I1 q1
def AE (ha:xkr):Ρ (.UnaryOp .Not a pos) (BF ta):=by
 intro JM s σ H Q I h;show xf4 (UnaryOp_ (xc5 xnP v)) x;show xlK c q1 q1 r1;exact not_of (FW (xhn (! c) H1 I1 q1))
def tIf (t:TT)(ta tb:TE):TE:=λ σ H Q=>xd5 λ c H1=>xbS c (ta σ H1 Q) (tb σ H1 Q)
def jy {c:JJ}(hc:xhI c tA)(ha:xkr)(hb:xpQ b):Ρ (.IfExp c a b pos) (tIf tA ta tb):=by
 intro JM s σ H Q I h;show xeL (wpAny_IfExp (xc5 (xzB s σ H _ I h) d)) H1 I1 q1 z9;cases d with
 |true=>exact xD9 s1 H1 Q I1 q1
 |false=>exact xsu s1 σ H1 Q I1 q1
universe s
def JS (K:Frag)(H:Hp)(a:JB)(xs:KB):Prop:=
 Rd H a xrm\/
  ∃(o:JK) (its:xrr) (n:Nat),xor a Id/\o.cls=xtV/\Ζ o.dict/\xiQ (.seq its n)/\xcV its.size/\Vals xs its.toList
def Kk (K:Frag)(H:Hp)(a:JB)(xs:KB):Prop:=
 Rd H a (.tup xs)\/
  ∃(o:JK) (its:xrr) (n:Nat),xor a Id/\o.cls=xAu/\xiQ (.seq its n)/\xcV its.size/\Vals xs its.toList
noncomputable def CJ:JC->xc0
 | .none=>some .non
 | .bool b=>some (.bl b)
 | .int i _=>xdJ i
 | .str x _=>some xrH
 | .bytes b _=>some (.byt b)
 | .float b _=>some (.flt b)
 | .ref a=>xbv
 | .type n=>some (.ty n)
 |_=>none
def RelV.abs (r:xqd):CJ u=Χ:=by
 cases x with
 |non=>cases r;rfl
 |bl _=>cases r;rfl
 |int _=>show xta r
 |str _=>show xta r
 |byt _=>show xta r
 |flt _=>show xta r
 |ref _=>cases r;rfl
 |ty _=>cases r;rfl
def RelV.inj (r:xqd)(q:xhO):x=y:=DK (r.abs.symm.trans q.abs)
theorem Vals.inj (h:xlx)(g:xh4 ys):xs=ys:=by
 induction h generalizing ys with
 |nil=>cases g;rfl
 |cons r _ ih=>cases g with
  |cons r' t'=>rw [r.inj r',ih t']
section
variable {X:Cx}{JM:π}{σ:St}{H:Hp}{s:JD}{a:JB}{xs ys:KB}
def JS.of {K:Frag}(h:Uf=xb8):xeB:=.inl (.inl h)
def Kk.of {K:Frag}(h:Uf=xgK):xkw a xs:=.inl (.inl h)
def Inv.list (I:Pi)(h:xhs a xs):∃its:xaE,xsM/\PlainL s.heap a its.toArray/\xmm:=by
 rcases h with h|⟨o,its,n,hk,hc,hd,hs,hz,r⟩
 ·show xkk its n r e (h.ok I.hok);show xaC its r (xhY _ n e rfl rfl) z
 ·refine⟨its.toList,r,⟨o,n,I.kIn a o hk,hc,hd,by simpa using hs⟩,?_⟩;show xzp e;simp only [Ee] at e;exact EZ e hz
def Inv.tuple (I:Pi)(h:Kk X.K H a xs):∃its:xaE,xsM/\xAI a its.toArray/\xmm:=by
 rcases h with h|⟨o,its,n,hk,hc,hs,hz,r⟩
 ·obtain⟨z,its,r,p⟩:=h.ok I.hok;show xaC its r p z
 ·refine⟨its.toList,r,⟨o,I.kIn a o hk,hc,n,by simpa using hs⟩,?_⟩;show xzp e;simp only [Ee] at e;exact EZ e hz
def Inv.list_inj (I:Pi)(h:xhs a xs)(h':xhs a ys):xs=ys:=by
 obtain⟨its,r,⟨o,n,e,_,_,d⟩,_⟩:=I.list h;obtain⟨its',r',⟨o',n',e',_,_,d'⟩,_⟩:=I.list h';show Tl e e' e';rw [d] at d';injection d' with d1 _
 show xbO its its' (by simpa using congrArg Array.toList d1) (r.inj r')
universe s
noncomputable abbrev Cx.wish (X:Cx) (E:Κ):Cx:={X with xe:=E}
noncomputable abbrev Cx.nox (X:Cx):Cx:=X.wish xoo
theorem Cx.Ok.wish {X:Cx}(ok:X.Ok)(E:Κ):(xBg).Ok:=
 ⟨ok.mod,ok.kind,ok.glob,ok.blt,ok.above,ok.inj,ok.has,ok.cab,ok.hd,ok.frames,ok.stk,ok.exf,ok.bs,ok.bsz,ok.noex,ok.exfs,ok.funs,ok.frf⟩
def Cx.Ok.unwish {X:Cx}{E:Κ}(ok:(xBg).Ok):X.Ok:=
 ⟨ok.mod,ok.kind,ok.glob,ok.blt,ok.above,ok.inj,ok.has,ok.cab,ok.hd,ok.frames,ok.stk,ok.exf,ok.bs,ok.bsz,ok.noex,ok.exfs,ok.funs,ok.frf⟩
section
variable {X:Cx}{JM:π}{σ:St}{H:Hp}{s:JD}{E:Κ}
theorem Inv.wish (I:Pi)(E:Κ):xHD xBg H s:=⟨I.ok.wish E,I.os,I.bare,I.base,I.loc,I.cell,I.free,I.freeC,I.pin,I.hok,I.len⟩
theorem Inv.unwish (I:xHD xBg H s):Pi:=⟨I.ok.unwish,I.os,I.bare,I.base,I.loc,I.cell,I.free,I.freeC,I.pin,I.hok,I.len⟩
theorem SP.unwish {D:Ends}{f:Flow}{s':JD}(h:SP xBg JM D f s'):SP X JM D f s':=by
 cases f with
 |next=>show xjD σ' H' I q;show xaC σ' H' I.unwish q
 |brk=>show xjD σ' H' I q;show xaC σ' H' I.unwish q
 |cont=>show xjD σ' H' I q;show xaC σ' H' I.unwish q
 |ret u=>obtain⟨v,σ',H',I,r,q⟩:=h;exact⟨v,σ',H',I.unwish,r,q⟩
theorem PSs.nox {st:xu1}(h:PSs X.nox st t):xhB st t:=λ JM s σ H D I hw=>
 xdl (h JM s σ H D (I.wish _) hw) (xEd q.unwish) z xAJ
universe s
section
variable {X:Cx}{st:JL}{rest:xu1}{t u:TS}{e:JJ}{te:TE}{pos:Pos}
def Bx:TS:=λ D σ H=>xkq
def Bh (t u:TS):TS:=λ D σ H=>t {D with nx:=u D} σ H
def az:xhB [] Bx:=λ _ _ σ H _ I h=>HP ⟨σ,H,I,h⟩
def ab (h1:xlC st t)(h2:xhB rest u):xhB (st::rest) (Bh t u):=by
 intro JM s σ H D I h;refine wpAny_execs_cons (xcW (h1 JM s σ H {D with nx:=u D} I h) f s1 q ?_);cases f with
 |next=>
  obtain⟨σ',H',I',q⟩:=q;exact h2 JM s1 σ' H' D I' q
 |ret v=>exact q
 |brk=>exact q
 |cont=>exact q
def ae (h1:xlC st t):xhB [st] t:=by
 intro JM s σ H D I h;refine wpAny_execs_cons (xcW (h1 JM s σ H D I h) f s1 q ?_);cases f with
 |next=>exact HP q
 |ret v=>exact q
 |brk=>exact q
 |cont=>exact q
def AS:TS:=λ D σ H=>D.bk σ H
def oh:xlC (.Break pos) AS:=λ _ _ σ H _ I h=>wpAny_Break ⟨σ,H,I,h⟩
def Inv.quiet {JM:π}{σ:St}{H:Hp}(I:Pi):ρ (interactive X.env):=by simp [interactive,I.ok.kind]
def BK (te:TE):TS:=λ D σ H=>xhU λ _ H1=>xAc H1
def aB (he:xtf e)(hs:Ξ (xEe e none X.env=xBq)):xlC (.Expr e pos) (BK te):=by
 intro JM s σ H D I h;exact wpAny_Expr_any (xcW (xJZ _ I h) v s1 z9 (by show xmK x;show xaC σ H1 I1 q1)) I.quiet hs
def Ch (te:TE):TS:=λ D σ H=>xhU D.rt
def aw (he:xtf e):xlC (.Return (some e) pos) (Ch te):=by
 intro JM s σ H D I h;exact wpAny_Return_some (xcW (xJZ _ I h) v s1 z9 (by show xmK x;exact⟨x,σ,H1,I1,r1,q1⟩))
def CF (c:TT)(t u:TS):TS:=λ D σ H=>c σ H λ b H1=>xbS b (t D σ H1) (u D σ H1)
def aH {c:JJ}{a b:xu1}{tc:TT}(hc:xhI c tc)(ha:xhB a t)(hb:xhB b u):xlC (.If c a b pos) (CF tc t u):=by
 intro JM s σ H D I h;show xeL (wpAny_If (xc5 (xzB s σ H _ I h) d)) H1 I1 q1 z9;cases d with
 |true=>exact xD9 s1 H1 D I1 q1
 |false=>exact xsu s1 σ H1 D I1 q1
def u8:TS:=xDV
def aK:xlC st u8:=λ _ _ _ _ _ _ h=>h.elim
def ig {sts:xu1}:xhB sts u8:=λ _ _ _ _ _ _ h=>h.elim
universe s
abbrev TG:=V->St->Hp->Ψ (xbM)
abbrev TGs:=KB->St->Hp->Ψ (xbM)
def PG (X:Cx)(JP:JJ)(t:TG):Prop:=
 ∀(JM:π) (s:JD) (σ:St) H v u Q,Pi->xdc->t v σ H Q->
  xe7 (assign JP X.env u) (λ _ s'=>∃σ' H',xts X/\xbr σ') s
def PGs (X:Cx)(ts:xif)(t:TGs):Prop:=
 ∀(JM:π) (s:JD) (σ:St) H vs us Q,Pi->xh4 vs->t vs σ H Q->
  xe7 (assignInOrder ((assignEach ts X.env).map (·.2)) us) (λ _ s'=>∃σ' H',xts X/\xbr σ') s
abbrev Al:=V->V->V->Hp->Ψ (xty)
def BS (X:Cx)(t:Al):Prop:=
 ∀(JM:π) (s:JD) (σ:St) H o i v ov iv u Q,Pi->RelV o ov->RelV i iv->xdc->t o i v H Q->
  xe7 (setItem ov iv u) (λ _ s'=>∃H',xj5/\Q H') s
section
variable {X:Cx}{pos:Pos}
def cK (i:Nat):TG:=λ v σ H Q=>Q (σ.set i xab) H
def aN {i:Nat}{x:Str}(hN:X.N.Nodup)(hi:Ξ (xvs=Χ))(hx:xw6 (xEa x))(hf:xw6 (xxO x\/xqE=xdI)):PG X xrp (cK i):=by
 intro JM s σ H v u Q I r h;exact wpAny_assign_Name (o0 I hN hi hx r (λ s' I'=>xdK H I' h) hf)
inductive V1 (vs:KB) (σ:St) (H:Hp) (Q:xbM):Prop
 |mk (h0:vs=[]) (h1:Q σ H):V1 vs σ H Q
inductive N3 (t:TG) (u:TGs) (vs:KB) (σ:St) (H:Hp) (Q:xbM):Prop
 |mk (v:_) (r:_) (h0:vs=v::r) (h1:t v σ H λ σ' H'=>u r σ' H' Q):N3 t u vs σ H Q
def gC:PGs X [] V1:=by
 intro JM s σ H vs us Q I r h;obtain⟨e,h⟩:=h;subst e;cases r;exact assignInOrder_nil ⟨σ,H,I,h⟩
def cm {e:JJ}(h1:PG X e t)(h2:PGs X es u)
  (hs:Ξ ((assignEach (e::es) X.env).map (·.2)=assign e X.env::(assignEach es X.env).map (·.2))):PGs X xdC (N3 t u):=by
 intro JM s σ H vs us Q I r h;show xjD v vr e1 h;subst e1;cases r with
 |cons r rr=>
  show Tm hs (assignInOrder_cons (xzq (h1 JM s σ H _ _ _ I r h) s1 z9 ?_));show xvF σ1 H1 I1 q1;exact h2 JM s1 σ1 H1 _ _ Q I1 rr q1
inductive V0 (K:Frag) (n:Nat) (t:TGs) (v:V) (σ:St) (H:Hp) (Q:xbM):Prop
 |mk (a:_) (xs:_) (h0:v=SZ) (h1:xkw a xs) (h2:xB8 n) (h3:t xs σ H Q):V0 K n t v σ H Q
def jI {es:xif}{k:Nat}(hc:xoN)(h:PGs X es t)
  (hn:Ξ (xat (assignEach es X.env) n)) (MD:Ξ ((assignEach es X.env).findIdx? (·.1)=none)):PG X (xxC k pos) (V0 X.K n t):=by
 intro JM s σ H v u Q I r hw;obtain⟨a,xs,e1,hq,hl,hw⟩:=hw;subst e1;cases r;show xkT its rv ht hz hq;refine QQ.NB I.hq ht (by simp [hn,<-hl,rv.length]) MD (LE h' hx)
 have I1:xl9 xfe:=xFU (λ b o e=>hx b o xyh e)
 exact h JM _ σ H xs _ Q I1 (by simpa using rv) hw
def Ct (to ti:TE)(t:Al):TG:=λ v σ H Q=>to σ H λ o H1=>ti σ H1 λ i H2=>t o i v H2 λ H3=>Q σ H3
def pQ {o i:JJ}{to ti:TE}{t:Al}(ho:Ρ o to)(hi:Ρ i ti)(hs:BS X t)
    (ha:xuf (∀v,assign (xt6 o i) X.env v=(do
      let ov<-holding [v] xpL
      let iv<-holding [v,ov] (xg4 i)
      standAt pos
      holding [v,ov,iv] (setItem ov iv v)
      release [v,ov,iv] []))):PG X (xt6 o i) (Ct to ti t):=by
  intro JM s σ H v u Q I r h
  show xhF ha (EK (xc5 (xlG s H _ I h) ov))
  show xmK x
  show xaG (EK (xgv (xvS s1 σ H1 _ I1 q1) iv s2))
  show xqz y H2 I2 r2 q2
  show xaG (wpAny_standAt (CS (EK (xzq (hs JM s2 σ H2 x y v ov iv u _ I2 r1 r2 r q2) s3 z9 ?_))))
  show xa9 H3 I3 q3 z9 (wpAny_release ⟨σ,H3,I3,q3⟩)
def Be (te:TE)(g:TG):TS:=λ D σ H=>xhU λ x H1=>xrP H1 D.nx
def qp {tg e:JJ}{te:TE}{g:TG}(he:xtf e)(hg:PG X tg g)(hs:Ξ (swapsWithSole [tg] e pos.line X.env=xBq))(hw:Ξ (swappedStores [tg] e X.env=pure none))
  (h1:Ξ ((assignEach [tg] X.env).map (·.2)=[assign tg X.env])):xF7 [tg] e pos (Be te g):=by
 intro JM s σ H D I h;show xf4 (wpAny_Assign_stores (xs8 _ I h v) hs hw) x;show IO h1 (xzq (hg JM s1 σ H1 x v _ I1 r1 q1) s2 q q)
def am {i:Nat}{x:Str}{e:JJ}{pos':Pos}(hN:X.N.Nodup)(he:xtf e)(hi:Ξ (xvs=Χ))(hx:xw6 (xEa x))(hs:Ξ (xEe e (some (xHP pos')) X.env=xBq))(hf:xw6 (xxO x\/xqE=xdI)):
  xF7 [xHP pos'] e pos (Be te (cK i)):=by
 intro JM s σ H D I h;show xf4 (wpAny_Assign_Name (xs8 _ I h v) hs) y;exact o0 I1 hN hi hx r1 (λ s2 I2=>xdK H1 I2 q1) hf
inductive T8 (c:TT) (tb:TS) (D:Ends) (σ:St) (H:Hp):Prop
 |mk (W:xaQ xbM) (h0:(∃m,W m σ H)) (h1:∀m σ H,W m σ H->c σ H λ b H1=>xbS b (∃N,(∀σ' H',xwn->xcH (m'<m/\W m' σ' H'))/\xKW D N N σ H1) (xAc H1)):T8 c tb D σ H
def bD {c:JJ}{body:xu1}{tb:TS}(hp:PassesOwn xuv X.A X.env X.xe)(hc:xhI c tc)(hb:xhB body tb):xlC (.While c body [] pos) (T8 tc tb):=by
 intro JM s σ H D I h;obtain⟨W,⟨m0,w0⟩,turn⟩:=h;refine wpAny_While (codeAny_whileLoop (λ n s'=>∃σ' H',xts X/\W n σ' H') ?_ m0 ⟨σ,H,I,w0⟩);rintro n s1 ⟨σ1,H1,I1,w1⟩;show xeL (xvT (xgv (xzB s1 σ1 H1 _ I1 (turn n σ1 H1 w1)) b s2)) H2 I2 q2 z9;cases b with
 |true=>
  obtain⟨N,hN,q2⟩:=q2;show Tm Τ (xvT (xcW (xsu s2 σ1 H2 _ I2 q2) f s3 q3 ?_));cases f with
  |next=>
   obtain⟨σ3,H3,I3,n3⟩:=q3;show xa9 m' hm w3 (hN σ3 H3 n3) ⟨m',hm,σ3,H3,I3,w3⟩
  |cont=>
   obtain⟨σ3,H3,I3,n3⟩:=q3;show xa9 m' hm w3 (hN σ3 H3 n3) ⟨m',hm,σ3,H3,I3,w3⟩
  |brk=>exact q3
  |ret v=>exact q3
 |false=>
  show xjP Dp (HP ⟨σ1,H2,I2,q2⟩)
universe s
structure It where
 go:xfi Nat
 yld:xaQ (Hp->xfi V)
 stop:xfi Nat
def Km (X:Cx)(JM:π)(H:Hp)(b:JB):Prop:=
 xdb/\xkR b/\xvL b/\(b∈X.ex\/xqF b)/\(∀x c,xdG=xaV->Ν b)/\xcU (X.pn++JM) (xag≠b)
def Inv.fpOk {X:Cx}{JM:π}{σ:St}{b:JB}(I:Pi)(hb:xAm b)(hn:xmS):xwi b:=by
 refine⟨hn,Gq (CZ I.lt hb),I.nofs hb,.inr (CV I.sz hb),λ x c e z=>?_,Sc p hp z⟩
 ·show xa4 v q (xrB x e) (absurd (CZ q.lt (by show IO z hb)) xmT)
 ·show xaW (CZ (Dt (xu0 hp).1) (by show IO z hb)) xmT
structure Turn (P:JE)(w:JF)(K:Frag)(tg:JJ)(J:It)(fp:xaa)(it:JB)(tn:xvd JI):Prop where
 mem:it∈fp
 obj:∀i h,xp3 h->xjA (∃o,xdp=Id/\∀v,o.data≠ xuZ)
 keep:∀i h h',xp3 h->(xjA (∀o,xdp=Id->xcu=Id))->xp3 h'
 item:∀(X:Cx),X.prog=P->X.w=w->X.K=K->xoN->∀(i:Nat) (JM:π) (s:JD) (σ:St) (H:Hp) (E:Κ),Pi->(xpi H b)->xp3 s.heap->xyP H->
  xtw P w X.A xAW (λ r s1=>∃u,r=xao/\
   xtw P w X.A (xMc xme u) (λ _ s2=>∃x H',xAx s2/\xqd/\xya H x H'/\tn (i+1) s2.heap/\xjA xmS) E s1) E s
 done:∀(X:Cx),X.prog=P->X.w=w->X.K=K->xoN->∀(i:Nat) (JM:π) (s:JD) (σ:St) (H:Hp) (E:Κ),Pi->(xpi H b)->xp3 s.heap->xxW H->
  xtw P w X.A xAW (λ r s1=>Ζ r/\xl9 s1) E s
 self:∀(A:JH) (i:Nat) (s:JD) (Q:Κ) (E:Κ),xp3 s.heap->Q xme s->xtw P w A (pyIter xme) Q E s
abbrev TI:=St->Hp->Ψ (xpE)
def PIE (X:Cx)(JM:π)(σ:St)(tg:JJ)(R:xpE)(itv:JC)(s2:JD):Prop:=
 ∃(it:JB) (fp:xaa) (tn:xvd JI) (J:It) (H':Hp),itv=xme/\xAx s2/\Turn X.prog X.w X.K tg J fp it tn/\tn 0 s2.heap/\(xpi H' b)/\R J H'
def PI (X:Cx)(tg iter:JJ)(wi:TI):Prop:=
 ∀(JM:π) (s:JD) (σ:St) H (R:xpE),Pi->xzC H R->
  xzt iter (λ v s1=>xe7 (pyIter v) (PIE X JM σ tg R) s1) s
def u5 (ho:xqX it)(hc:o.cls=.type n)(hd:xiQ xrb)
  (hn: ρ (["enumerate","zip","dict_itemiterator","dict_reverseitemiterator","odict_iterator","itertools.zip_longest","itertools.pairwise"].contains n)) (hQ:xnR s):xx9 A (xMc xme u) Q E s:=by
 unfold letOwnedTupleGo;cases tg<;>first
  |exact Dl hQ
  |(cases u<;>first
    |exact Dl hQ
    |(show xaG (wpAny_load ho ?_)
      rw [hc,hd];show xx9 A (xgL (NE (["enumerate","zip","dict_itemiterator","dict_reverseitemiterator","odict_iterator","itertools.zip_longest","itertools.pairwise"].contains n&&vs[0]?==some (rawInt _)))) Q E s;show xjP (by intro h;show xfB hn Jx h h) (Dl hQ)))
def TJ (K:Frag)(a:JB):It:=
 ⟨λ i H=>∃xs x,xeB/\xde=Χ,λ i H x H'=>H'=H/\∀xs,xeB->xde=Χ,λ i H=>∃xs,xeB/\xs.length≤i⟩
def Su (lo:Int)(n:Nat):It:=⟨λ i _=>i<n,λ i H x H'=>H'=H/\x=.int (lo+i),λ i _=>n≤i⟩
def uh {P:JE}{w:JF}{K:Frag}{tg:JJ}(a it:JB):xC2 w K tg xlM [it] it (λ i h=>xE5 it a) where
 mem:=Z6
 obj:=λ i h st b hb=>by
  have e:b=it:=by show xmI
  subst e;obtain⟨o,e,c,d⟩:=st;exact xdx e (λ v z=>by show Tl d z z)
 keep:=λ i h h' st k=>st.at λ o e=>k it Z6 o e
 item:=by
  intro X hP hw hK hc i JM s σ H E I hf st hg;subst hP hw hK;obtain⟨xs,x,hq,hx⟩:=hg;show xg1 rv p hq;obtain⟨u,hu,ru⟩:=rv.get hx;obtain⟨f0,f1,f2,f3,f4,f5⟩:=xsK;refine wpAny_pyNext_list_item st p.isList (by show xu9) (Sc h' st' sb)
  have I1:xl9 xfe:=xuo (λ b o hb e=>xg6 sb b hb e) f1 f3 f4 f5;show xmN o e c d st';exact xnc u (u5 e c d Z9 ⟨x,H,I1,ru,xb2 (λ ys hy=>by show xF3 hy hq hx),st',xa3 xlA.1⟩)
 done:=by
  intro X hP hw hK hc i JM s σ H E I hf st hg;subst hP hw hK;obtain⟨xs,hq,hx⟩:=hg;show xg1 rv p hq;obtain⟨f0,f1,f2,f3,f4,f5⟩:=xsK;show xo0 hl;exact QQ.QM I.hq st p.isList (by simp;exact xKh hx) λ h' eb=>xb2 (xuo (λ b o hb e=>eb b o hb e) f1 f3 f4 f5)
 self:=xBH h (wpAny_pyIter_listiter st h)
def qm {P:JE}{w:JF}{K:Frag}(it)(lo)(n):xC2 w K tg (xsv n) [it] it (λ i h=>xAD h (lo+xkx i*1) (xaf-xkx i) 1) where
 mem:=Z6
 obj:=λ i h st b hb=>by
  have e:b=it:=by show xmI
  subst e;exact xav st (λ v z=>by
   have z':xIU=xJw:=z;cases z')
 keep:=λ i h h' st k=>k it Z6 _ st
 item:=by
  intro X hP hw hK hc i JM s σ H E I hf st hg;subst hP hw hK;obtain⟨f0,f1,f2,f3,f4,f5⟩:=xsK;refine xLi (by have:i<n:=hg;lia) (Sc h' QN sb)
  have st':xAD h' (lo+xgM*1) (xaf-xgM) 1:=by
   have e1:lo+xgM*1=lo+xcD*1+1:=Z5;have e2:xaf-xgM=xaf-xcD-1:=Z5;rw [e1,e2];exact QN
  have I1:xkE H s xyG:=xuo (λ b o hb e=>xJr o hb e) f1 f3 f4 f5;refine xbd (u5 st' rfl rfl Z9 ⟨.int (lo+i),H,I1,xcO s.toks,xmi,st',xa3 xlA.1⟩);rw [Int.mul_one]
 done:=by
  intro X hP hw hK hc i JM s σ H E I hf st hg;subst hP hw hK;obtain⟨f0,f1,f2,f3,f4,f5⟩:=xsK;exact QQ.My I.hq st (by have:n≤i:=hg;lia) λ h' eb=>xb2 (xuo (λ b o hb e=>eb b o hb e) f1 f3 f4 f5)
 self:=xBH h (xLl h)
section
variable {X:Cx}{tg:JJ}
inductive RW (K:Frag) (R:xpE) (x:V) (H1:Hp):Prop
 |mk (a:_) (h0:x=SZ) (h1:(∃xs,xwl a xs)) (h2:R xlM H1):RW K R x H1
def BD (K:Frag)(tl:TE):TI:=λ σ H R=>tl σ H λ x H1=>RW K R x H1
def bP {l:JJ}{tl:TE}(hl:Ρ l tl):xvv tg l (BD X.K tl):=by
 intro JM s σ H R I h;show xf4 (xc5 (hl JM s σ H _ I h) v) x;obtain⟨a,e,⟨xs,hq⟩,q⟩:=q1;subst e;cases r1;obtain⟨its,rv,p,hz⟩:=I1.list hq;show SC (wpAny_pyIter_list p.isList ?_) ⟨s1.heap.objs.size,[s1.heap.objs.size],_,_,H1,rfl,xKz (λ b o e=>xep),uh a _,xlv _ xfk,xfn,q⟩;have e:b=s1.heap.objs.size:=by show xmI
 subst e;exact xAe P3 P3
def m8 {JM:π}{σ:St}{lo hi:Int}(I:Pi)(h1:-(2^62)≤lo)(h2:lo<2^62)(h3:-(2^62)≤hi)(h4:hi<2^62)
  (q:R (xsv (xkh hi lo)) H):xi9 (pyIter xmb) (PIE X JM σ tg R) E (xEK (xIw #[xb1 lo,xrM u,xrU v]) tk):=by
 refine xK3 .. (small_one h1 h2 h3 h4) ?_;have I1:xtx H s (xIw #[xb1 lo,xrM u,xrU v]) tk:=I.kept λ b o e=>xep
 refine⟨xIS #[xb1 lo,xrM u,xrU v],[xIS #[xb1 lo,xrM u,xrU v]],_,_,H,rfl,
  xDK tk (λ b o e=>xep),qm _ lo (xkh hi lo),?_,xfn,q⟩
 ·have e1:lo+KF 0*1=lo:=Z6;have e2:KF (xkh hi lo)-KF 0=Builtin.Range.rangeSize lo hi 1:=by rw [rangeSize_one];split<;>lia
  show IsRangeIter _ _ (lo+KF 0*1) (KF (xkh hi lo)-KF 0) 1;rw [e1,e2];exact xfk
 ·have e:b=xIS #[xb1 lo,xrM u,xrU v]:=by show xmI
  subst e;exact xAe P3 P3
inductive RV (R:xpE) (vs:KB) (H1:Hp):Prop
 |mk (j:_) (h0:vs=[xho]) (h1:-(2^62)≤j) (h2:j<2^62) (h3:R (Su 0 j.toNat) H1):RV R vs H1
def A6 (ta:TA):TI:=λ σ H R=>xgf λ vs H1=>RV R vs H1
inductive RU (R:xpE) (vs:KB) (H1:Hp):Prop
 |mk (i:_) (j:_) (h0:vs=[xcA,xho]) (h1:(-(2^62)≤i/\i<2^62/\-(2^62)≤j/\j<2^62)) (h2:R (Su i (xkh j i)) H1):RU R vs H1
def BB (ta:TA):TI:=λ σ H R=>xgf λ vs H1=>RU R vs H1
def b9 {a:JJ}{ta:TA}{p pos:Pos}(hg:xKC)(hm:xKy)(ha:xin xeH ta)(hs:Ξ (xgl xeH=[xie a])):xvv tg (xxw "range" p xeH []) (A6 ta):=by
 intro JM s σ H R I h;show xf4 (xCv I boot_range (EW (xc5 xl1 us) hs rfl)) vs;obtain⟨j,e,q1,q2,q⟩:=q1;subst e;cases r1 with
 |cons r rr=>
  cases rr;show xfJ t r (call_range_1 (m8 I1 Z5 Z5 q1 q2 (by simpa using q)))
def gW {a b:JJ}{ta:TA}{p pos:Pos}(hg:xKC)(hm:xKy)(ha:xin [a,b] ta)(hs:Ξ (xgl [a,b]=[xie a,xie b]))(NI:Ξ (xgl xft=[xie b])):
  xvv tg (xxw "range" p [a,b] []) (BB ta):=by
 intro JM s σ H R I h;show xf4 (xCv I boot_range (EW (xc5 xl1 us) (by rw [hs,NI]) (by rw [NI];rfl))) vs;obtain⟨i,j,e,⟨q1,q2,q3,q4⟩,q⟩:=q1;subst e;cases r1 with
 |cons r rr=>
  cases rr with
  |cons r' rr=>
   cases rr;show xjJ r;show xfJ t' r' (call_range_2 (m8 I1 q1 q2 q3 q4 q))
def Cn (wi:TI)(g:TG)(tb:TS):TS:=λ D σ H=>xzC H λ J H1=>∃W:xhD xbM,(∃m,xsk σ H1)/\∀i m σ H,xsj σ H->
 (xxW H/\xkq)\/(xyP H/\∃N,(∀σ' H',xwn->xcH (m'<m/\W (i+1) m' σ' H'))/\∀x H',xya H x H'->xrP H' λ σ2 H2=>xlF D N N H2)
noncomputable def my (fp:xaa) (h:JI):π:=fp.filterMap λ b=>xhq xdp o (b,o)
def bx {fp:xaa}(hb:b∈fp)(e:xdp=Id):(b,o)∈my fp h:=List.mem_filterMap.mpr ⟨b,hb,by rw [e];rfl⟩
def tZ {fp:xaa}(hp:p∈my fp h):xag∈fp/\xhc xag xgO:=by
 obtain⟨b,hb,e⟩:=List.mem_filterMap.mp hp;cases q:xdp with
 |none=>show xnZ q
 |some o=>
  rw [q] at e;have e':(b,o)=p:=DK e;subst e';show xaI hb q
def Inv.pinned {JM:π}{σ:St}{H:Hp}(I:Pi)(hf:xpi H b)(ho:xjA (∃o,xeA/\∀v,o.data≠ xuZ)):Inv X (JM++my fp s.heap) σ H s:=
 I.pins_of λ p hp=>xml hp (LT (xu0 (xk8 z))) (LT (by
  show xwt hb (tZ z);obtain⟨f0,f1,f2,_⟩:=hf xag hb;obtain⟨o,e',d⟩:=ho xag hb;show xhH e e' e' ⟨e,f0,f1,f2,d⟩))
def Inv.unpinned {JM pl:π}{σ:St}{H:Hp}(I:Inv X (JM++pl) σ H s):Pi:=I.pins_of λ p hp=>xu0 (xk8 (xnQ hp))
def bp (hp:PassesOwn xuv X.A X.env X.xe)(hc:xoN)(hi:xza tg wi)(hg:PG X tg g)(hb:xhB body tb)
  (hs:xuf (∀x,xB3 x=xC3)):xlC (.For tg iter body [] pos) (Cn wi g tb):=by
 intro JM s σ H D I h;refine wpAny_For (xcW (xvS s σ H _ I h) v s1 h1 (xcW h1 itv s2 h2 ?_)) hs;obtain⟨it,fp,tn,J,H2,e,I2,T,Mm,f2,W,⟨m0,w0⟩,turn⟩:=h2;subst e;have Qz:∀{H'},(xjA xmS)->xpi H' b:=λ hn b hb=>⟨hn b hb,(f2 b hb).2⟩
 refine codeAny_forLoop_any (λ n s'=>∃i σ' H',xts X/\xp3 s'.heap/\(xjA xmS)/\W i n σ' H') ?_ m0 ⟨0,σ,H2,I2,Mm,xa3 (f2 b hb).1,w0⟩;rintro n s3 ⟨i,σ3,H3,I3,KJ,fr3,w3⟩;rcases turn i n σ3 H3 w3 with⟨stop,qn⟩|⟨go,N,hN,step⟩
 ·show xhh (xvT (xgv (T.done X rfl rfl rfl hc i JM s3 σ3 H3 X.xe I3 (Qz fr3) KJ stop) r s4)) hr I4 z9;subst hr;exact HP ⟨σ3,H3,I4,qn⟩
 ·show xeL (xvT (xgv (T.item X rfl rfl rfl hc i JM s3 σ3 H3 X.xe I3 (Qz fr3) KJ go) r s4)) u hr h4 z9;subst hr;refine xvT (xzq h4 s5 z9 ?_);obtain⟨x,H5,I5,r5,y5,W4,Qj⟩:=z9;have I5':=I5.pinned (Qz Qj) (xyb _ W4);refine xvT (xzq (hg _ s5 σ3 H5 x u _ I5' r5 (step x H5 y5)) s6 z9 ?_);show xvF σ6 H6 I6 q6;refine xvT (xcW (xvU s6 σ6 H6 _ I6 q6) f s7 q7 ?_);have again:∀{σ7} {H7},Inv X (JM++my fp s5.heap) σ7 H7 s7->N σ7 H7->∃m,m<n/\∃i σ' H',Inv X JM σ' H' s7/\xp3 s7.heap/\(xjA xmS)/\xsj σ' H':=λ {σ7 H7} I7 n7=>by
   show xa8 m' hm w7 (hN σ7 H7 n7) ⟨m',hm,i+1,σ7,H7,I7.unpinned,xBV _ _ W4 λ b hb o e=>(I7.pin (b,o) xtm).1,xfn,w7⟩;show xa9 o e d (xyb _ W4 b hb) (Μ (I7.pin (b,o) xtm))
  cases f with
  |next=>obtain⟨σ7,H7,I7,n7⟩:=q7;exact again I7 n7
  |cont=>obtain⟨σ7,H7,I7,n7⟩:=q7;exact again I7 n7
  |brk=>obtain⟨σ7,H7,I7,q7⟩:=q7;show xaC σ7 H7 I7.unpinned q7
  |ret v=>obtain⟨x7,σ7,H7,I7,r7,q7⟩:=q7;exact⟨x7,σ7,H7,I7.unpinned,r7,q7⟩
universe s
def bW {K:Frag}{a:JB}{xs:KB}{g:TG}{tb:TS}{D:Ends}(Pv:xaQ xbM)(h0:xll 0)(hl:∀i σ H,xnY->xiL->xeB)
  (hs:∀i x σ H,xde=Χ->xiL->xlT λ σ2 H2=>xlF D xeF xeF H2) (hd:∀σ H,xll xs.length->xkq):
  ∃W:xhD xbM,(∃m,xsk σ H)/\∀i m σ H,xsj σ H->
   (xmO xlM H/\xkq)\/(xnC xlM H/\∃N,(∀σ' H',xwn->xcH (m'<m/\W (i+1) m' σ' H'))/\∀x H',xm9 xlM H x H'->xrP H' λ σ2 H2=>xlF D N N H2):=by
 refine xac (λ i m σ H=>m=xgx i/\xnY/\xiL) ⟨xs.length,Z6,Ω,h0⟩;rintro i m σ H ⟨rfl,hi,p⟩;have q:=hl i σ H hi p;by_cases JO:xfb i
 ·show xhh (.inr ⟨⟨xs,xs[i],q,by simp [JO]⟩,xeF,λ σ' H' p'=>xay (xgx (i+1)) xnA JO p',Sc x H' y⟩) e y y;subst e;exact xp4 x σ _ (y xs q) p
 ·have e:xoO i:=xsU;show xpD e ⟨⟨xs,q,P3⟩,hd σ H p⟩
def bZ {lo:Int}{g:TG}{tb:TS}{D:Ends}(Pv:xaQ xbM)(h0:xll 0)
  (hs:∀i σ H,i<n->xiL->g (.int (lo+i)) σ H λ σ2 H2=>xlF D xeF xeF H2) (hd:∀σ H,xll n->xkq):
  ∃W:xhD xbM,(∃m,xsk σ H)/\∀i m σ H,xsj σ H->
   (xmO (xsv n) H/\xkq)\/(xnC (xsv n) H/\∃N,(∀σ' H',xwn->xcH (m'<m/\W (i+1) m' σ' H'))/\∀x H',xm9 (xsv n) H x H'->xrP H' λ σ2 H2=>xlF D N N H2):=by
 refine xac (λ i m σ H=>m=n-i/\xbx i/\xiL) ⟨n,Z6,Ω,h0⟩;rintro i m σ H ⟨rfl,hi,p⟩;by_cases JO:i<n
 ·show xhh (.inr ⟨JO,xeF,λ σ' H' p'=>xay (n-(i+1)) xnA JO p',Sc x H' y⟩) e y y;subst e y;exact xp4 σ _ JO p
 ·have e:i=n:=xsU;show xpD e (xpP (hd σ H p))
abbrev R2:=V->V->Hp->xeS
def Lf (X:Cx)(f:JC->JC->xyN)(r:R2):Prop:=
 ∀(JM:π) (s:JD) (σ:St) H x y v u Q,Pi->xlS->xhO->r x y H Q->
  xjO (f v u) X Q s
def UnR (X:Cx)(f:JC->xyN)(r:V->Hp->xeS):Prop:=
 ∀(JM:π) (s:JD) (σ:St) H x v Q,Pi->xlS->r x H Q->
  xjO (f v) X Q s
def eE (X:Cx)(f:JC)(r:KB->Hp->xeS):Prop:=
 ∀(JM:π) (s:JD) (σ:St) H xs us Q,Pi->xlx->r xs H Q->
  xjO (call f us) X Q s
def S5 (r:R2)(ta tb:TE):TE:=λ σ H Q=>xgf λ x H1=>tb σ H1 λ y H2=>r x y H2 Q
def tUn (r:V->Hp->xeS)(ta:TE):TE:=λ σ H Q=>xgf λ x H1=>r x H1 Q
inductive rI (C:Int->Ψ Int) (g:Int->Int->V) (x:V) (y:V) (H:Hp) (Q:VK):Prop
 |mk (i:_) (j:_) (h0:x=xcA) (h1:y=xho) (h2:C i j) (h3:Q xlL H):rI C g x y H Q
inductive OM (g:Int->Int->V) (x:V) (y:V) (H:Hp) (Q:VK):Prop
 |mk (i:_) (j:_) (h0:x=xcA) (h1:y=xho) (h2:Q xlL H):OM g x y H Q
inductive rU (g:Int->V) (x:V) (H:Hp) (Q:VK):Prop
 |mk (i:_) (h0:x=xcA) (h1:Q (g i) H):rU g x H Q
section
variable {X:Cx}{a b c:JJ}{ta tb tc:TE}{pos:Pos}
def binT (ha:xkr)(hb:xpQ b){JM:π}{s:JD}{σ:St}{R:V->xfi V}(I:Pi)
  (h:xgf λ x H1=>tb σ H1 λ y H2=>R x y H2) {Q:Κ} {f:JC->JC->xyN}
  (hf:∀v u s2 x y H2,xgm H2 s2->xlS->xhO->R x y H2->xe7 (f v u) Q s2):
  xzt a (λ v s₁=>xzt b (λ u s₂=>xe7 (f v u) Q s₂) s₁) s:=by
 show xf4 (xc5 xnP v) x;refine xgv (xsu s1 σ H1 _ I1 q1) u s2
 show xqz y H2 I2 r2 q2;exact hf v u s2 x y H2 I2 r1 r2 q2
def ap {op:Operator}{r:R2}(ho:xiW op r)(ha:xkr)(hb:xpQ b):Ρ (.BinOp a op b pos) (S5 r ta tb):=by
 intro JM s σ H Q I h;exact wpAny_BinOp (binT ha hb I h λ v u s2 x y H2 I2 rx ry q=>xlG s2 H2 x y v u Q I2 rx ry q)
def wG {op:UnaryOp}{r:V->Hp->xeS}(ho:UnR X (unaryOp op) r)(ha:xkr):Ρ (.UnaryOp op a pos) (tUn r ta):=by
 intro JM s σ H Q I h;exact UnaryOp_ (xcW xnP v s1 z9 (by show xmK x;exact xlG s1 H1 x v Q I1 r1 q1))
def Ze {f:JC->JC->xyN}{g:Int->Int->Int}
  (rule:∀(i j:Int) (t u:Tok) (s:JD) (Q:Κ) (E:Κ),C i j->Q (.int xlL s.toks) xGY->xi9 (f xlr (xho u)) Q E s):
  Lf X f (xwv C xlL):=by
 intro JM s σ H x y v u Q I rx ry h;obtain⟨i,j,rfl,rfl,hc,q⟩:=h;show xkj;show xew (rule i j t t' s _ _ hc (xnB xlL xeh xbg q))
def wa {g:Int->Int->Int}
  (rule:∀(i j:Int) (t u:Tok) (s:JD) (Q:Κ) (E:Κ),Q (.int xlL s.toks) xGY->xi9 (f xlr (xho u)) Q E s):
  Lf X f (xzz xlL):=by
 intro JM s σ H x y v u Q I rx ry h;show xcN i j rfl q h;show xkj;show xew (rule i j t t' s _ _ (xnB xlL xeh xbg q))
def yQ {f:JC->JC->xyN}{g:Int->xjC Int}
  (rule:∀(i j:Int) (t u:Tok) (s:JD) (Q:Κ) (E:Κ),xF9 xlL s->xi9 (f xlr (xho u)) Q E s):
  Lf X f (OM λ i j=>.bl xlL):=by
 intro JM s σ H x y v u Q I rx ry h;show xcN i j rfl q h;show xkj;show xew (rule i j t t' s _ _ (xhn xlL H I q))
def Cb (i j:Int):Prop:=0<j/\j<1073741824
def Bv (i j:Int):Prop:=0≤j/\j≤1000000/\i.natAbs<2^64
def Yd (i j:Int):Prop:=(-(2^64)<i/\i<2^64)\/(-(2^64)<j/\j<2^64)
def Yd.ok (h:Yd i j):IntMulOk i j:=by
 rcases h with⟨h1,h2⟩|⟨h1,h2⟩
 ·exact .of_left (intBits_le_64 h1 h2)
 ·exact .of_right (intBits_le_64 h1 h2)
def pZ (k):xcQ≤2^k:=by
 show IO two_pow_cast xfl
def aG:xiW .Add (xzz (i+j)):=xCZ (add_int q)
def bh:xiW .Sub (xzz (i-j)):=xCZ (sub_int q)
def cS:xiW .Mult (xwv Yd (i*j)):=Ze λ _ _ _ _ _ _ _ hc q=>mul_int q hc.ok
def bz:xiW .FloorDiv (xwv Cb (i/j)):=Ze λ i j _ _ _ _ _ hc q=>by
 have h1:xcQ<j:=hc.1;have h2:j<1073741824:=hc.2;exact floordiv_int Z5 (by show IO (IW i (Jw h1)) q) (.inl (PyProof.noPylong_small Z4))
def bA:xiW .Mod (xwv (λ _ j=>0<j) (i%j)):=Ze λ i j _ _ _ _ _ hc q=>by
 have h1:xcQ<j:=hc;exact mod_int' (G6 (Int.ne_of_lt hc)) (by show IO (Int.fmod_eq_emod_of_nonneg i (Jw hc)) q)
def de:xiW .LShift (xwv Bv (i*2^j.toNat)):=Ze λ _ _ _ _ _ _ _ hc q=>lshift_int_small hc.1 (Μ hc) (xaY hc) q
def gU:xiW .RShift (xwv (λ _ j=>0≤j) (i/2^j.toNat)):=Ze λ i j _ _ _ _ _ hc q=>
 rshift_int hc (by show IO (IW i (pZ _)) q)
def gP:xiW .BitAnd (xzz (Builtin.bitAnd i j)):=xCZ (and_int q)
def vY:xiW .BitOr (xzz (Builtin.bitOr i j)):=xCZ (or_int q)
def w8:xiW .BitXor (xzz (Builtin.bitXor i j)):=xCZ (xor_int q)
def unI {g:Int->Int}
  (rule:∀(i:Int) (t:Tok) (s:JD) (Q:Κ) (E:Κ),Q (.int (g i) s.toks) xGY->xi9 (f xlr) Q E s):
  UnR X f (rU λ i=>.int (g i)):=by
 intro JM s σ H x v Q I rx h;show xot i q h;show xfJ t rx (rule i t s _ _ (xnB (g i) xeh xbg q))
def qi:UnR X (unaryOp .USub) (rU λ i=>.int (-i)):=unI λ _ _ _ _ _ q=>neg_int q
universe s
noncomputable def BO:V->xjC V
 | .non,.non=>true| .non,.int _=>true| .int _,.non=>true| .non,.bl _=>true| .bl _,.non=>true| .non,.str _=>true| .str _,.non=>true
 | .int _,.int _=>true| .bl _,.bl _=>true| .str _,.str _=>true| .byt _,.byt _=>true
 | .int _,.str _=>true| .str _,.int _=>true| .bl _,.str _=>true| .str _,.bl _=>true
 |_,_=>false
inductive rEq (x:V) (y:V) (H:Hp) (Q:VK):Prop
 |mk (h0:NE (BO x y)) (h1:xeX (xcp x y)):rEq x y H Q
inductive rNe (x:V) (y:V) (H:Hp) (Q:VK):Prop
 |mk (h0:NE (BO x y)) (h1:xeX (! xcp x y)):rNe x y H Q
def sB:xG4 i j=(i==j):=by
 show xbD Hd
def vL:xcp (V.bl i) (V.bl j)=(i==j):=by
 show xbD Hd
def rN:xcp (V.str i) (V.str j)=(i==j):=by
 show xbD Hd
def sZ:xcp (V.byt i) (V.byt j)=(i.toList==j.toList):=by
 rw [Hd];show xgk i j;simp
section
variable {X:Cx}{a b c:JJ}{ta tb tc:TE}{pos:Pos}
def aW {JM:π}{σ:St}{H:Hp}{s:JD}(I:Pi)(q:xeX k)(e:k=k'):xn9 (.bool k') s:=by
 subst e;exact xhn k H I q
def bK:xgN .Eq rEq:=by
 intro JM s σ H x y v u Q I rx ry h;obtain⟨hs,q⟩:=h;cases x with
 |non=>
  cases rx;cases y with
  |non=>cases ry;exact PySem.EqNone.eq_none_none xc8
  |bl j=>cases ry;exact PySem.EqNone.eq_none_bool xc8
  |int j=>show xew (PySem.EqNone.eq_none_int xc8)
  |str j=>show xew (PySem.EqNone.eq_none_str xc8)
  |_=>exact xj6
 |bl i=>
  cases rx;cases y with
  |non=>cases ry;exact PySem.EqNone.eq_bool_none xc8
  |bl j=>cases ry;exact eq_bool (xk6 vL)
  |str j=>show xew (PySem.EqMixed.eq_bool_str xc8)
  |_=>exact xj6
 |int i=>
  show xkj;cases y with
  |non=>cases ry;exact PySem.EqNone.eq_int_none xc8
  |int j=>show xew (eq_int (xk6 sB))
  |str j=>show xew (PySem.EqMixed.eq_int_str xc8)
  |_=>exact xj6
 |str i=>
  show xkj;cases y with
  |non=>cases ry;exact PySem.EqNone.eq_str_none xc8
  |bl j=>cases ry;exact PySem.EqMixed.eq_str_bool xc8
  |int j=>show xew (PySem.EqMixed.eq_str_int xc8)
  |str j=>show xew (eq_str (xk6 rN))
  |_=>exact xj6
 |byt i=>
  show xkj;cases y with
  |byt j=>show xew (PySem.W.eq_bytes (xk6 sZ))
  |_=>exact xj6
 |_=>cases y<;>exact xj6
def kU:xFW rNe:=by
 intro JM s σ H x y v u Q I rx ry h;obtain⟨hs,q⟩:=h;cases x with
 |non=>
  cases rx;cases y with
  |non=>cases ry;exact PySem.EqNone.ne_none_none xc8
  |bl j=>cases ry;exact PySem.EqNone.ne_none_bool xc8
  |int j=>show xew (PySem.EqNone.ne_none_int xc8)
  |str j=>show xew (PySem.EqNone.ne_none_str xc8)
  |_=>exact xj6
 |bl i=>
  cases rx;cases y with
  |non=>cases ry;exact PySem.EqNone.ne_bool_none xc8
  |bl j=>cases ry;exact ne_bool (xk6 (xEw vL))
  |str j=>show xew (PySem.EqMixed.ne_bool_str xc8)
  |_=>exact xj6
 |int i=>
  show xkj;cases y with
  |non=>cases ry;exact PySem.EqNone.ne_int_none xc8
  |int j=>show xew (ne_int (xk6 (xEw sB)))
  |str j=>show xew (PySem.EqMixed.ne_int_str xc8)
  |_=>exact xj6
 |str i=>
  show xkj;cases y with
  |non=>cases ry;exact PySem.EqNone.ne_str_none xc8
  |bl j=>cases ry;exact PySem.EqMixed.ne_str_bool xc8
  |int j=>show xew (PySem.EqMixed.ne_str_int xc8)
  |str j=>show xew (ne_str (xk6 (xEw rN)))
  |_=>exact xj6
 |byt i=>
  show xkj;cases y with
  |byt j=>show xew (PySem.W.ne_bytes (xk6 (xEw sZ)))
  |_=>exact xj6
 |_=>cases y<;>exact xj6
def dt:xgN .Lt (OM λ i j=>xyB i j):=yQ (xz3 (lt_int q))
def rh:xgN .LtE (OM λ i j=>.bl (xhk i j)):=yQ (xz3 (le_int q))
def cB:xgN .Gt (OM λ i j=>xyB j i):=yQ (xz3 (gt_int q))
def oM:xgN .GtE (OM λ i j=>.bl (xhk j i)):=yQ (xz3 (ge_int q))
def gJ:xgN .Is (λ x y H Q=>y=.non/\xeX (xcp x .non)):=by
 intro JM s σ H x y v u Q I rx ry h;show xmw rfl q h ry;refine is_none_gen (xk6 ?_);cases x<;>first
  |(cases rx;rfl)
  |(show xkj;rfl)
def rY:xgN .IsNot (λ x y H Q=>y=.non/\xeX (! xcp x .non)):=by
 intro JM s σ H x y v u Q I rx ry h;show xmw rfl q h ry;refine isnot_none_gen (xk6 ?_);cases x<;>first
  |(cases rx;rfl)
  |(show xkj;rfl)
def ax (b)(h:xtz (op≠ .In))(h2:xtz (op≠ .NotIn)):xAn op b:=pI b h h2
def eh {op:CmpOp}{r:R2}(ho:xgN op r)(ha:xkr)(hb:xpQ b)(hm:xAn op b):Ρ (xFm [op] xft pos) (S5 r ta tb):=by
 intro JM s σ H Q I h;exact wpAny_Compare1 (binT ha hb I h λ v u s2 x y H2 I2 rx ry q=>xlG s2 H2 x y v u Q I2 rx ry q) hm
inductive Q9 (Q:xu5) (x:V) (H':Hp):Prop
 |mk (k:_) (h0:x=.bl k) (h1:xbr k):Q9 Q x H'
def oB (t:TE):TT:=λ σ H Q=>xd5 λ x H'=>Q9 Q x H'
def ar {op:CmpOp}{r:R2}(ho:xgN op r)(ha:xkr)(hb:xpQ b)(hm:xAn op b):xhI (xFm [op] xft pos) (oB (S5 r ta tb)):=by
 intro JM s σ H Q I h;refine wpAny_isTrue_Compare1 (thn xnP λ v s1 ⟨x,H1,I1,r1,q1⟩=>thn (xsu s1 σ H1 _ I1 q1) λ u s2 ⟨y,H2,I2,r2,q2⟩=>
  thn (xlG s2 H2 x y v u _ I2 r1 r2 q2) (xMo c ?_)) hm
 subst e;cases r3;exact FW ⟨H3,I3,q3⟩
inductive Pf (r':R2) (tc:TE) (σ:St) (Q:VK) (y:V) (z:V) (H3:Hp):Prop
 |mk (k:_) (h0:z=.bl k) (h1:(xbS k (tc σ H3 λ w' H4=>r' y w' H4 Q) (xtF false H3))):Pf r' tc σ Q y z H3
def zu (r r':R2)(ta tb tc:TE):TE:=λ σ H Q=>xgf λ x H1=>tb σ H1 λ y H2=>r x y H2 λ z H3=>Pf r' tc σ Q y z H3
def oT {op Yk:CmpOp}{r r':R2}(ho:xgN op r)(Qq:xgN Yk r')(ha:xkr)(hb:xpQ b)(hc:Ρ c tc)
  (hm:ρ (lastMarks [op,Yk] [b,c]):=by with_unfolding_all rfl):Ρ (xFm [op,Yk] [b,c] pos) (zu r r' ta tb tc):=by
 intro JM s σ H Q I h;refine Compare_chain (thn xnP λ v s1 ⟨x,H1,I1,r1,q1⟩=>chain_link (thn (xsu s1 σ H1 _ I1 q1) λ u s2 ⟨y,H2,I2,r2,q2⟩=>
  thn (xlG s2 H2 x y v u _ I2 r1 r2 q2) (xMo d ?_))) hm
 subst e;cases r3;refine FW ?_;cases k with
 |false=>exact ite_ff (xhn false H3 I3 q3)
 |true=>exact ite_tt (chain_last (xcW (xzB s3 σ H3 _ I3 q3) w' s4 z9 (by show xqz z' H4 I4 r4 q4;exact Qq JM s4 σ H4 y z' u w' Q I4 r2 r4 q4)))
def lQ:xkx sizeLine<2^63:=by rw [Ga];decide
def gs (r:xh4 xbl):∃u,us=xi0/\xqd:=by
 cases r with
 |cons r1 r2=>cases r2;exact xbd r1
def ko (r:xh4 [x,y]):∃u w',us=[u,w']/\xqd/\RelV y w':=by
 cases r with
 |cons r1 r2=>
  cases r2 with
  |cons r3 r4=>cases r4;exact xay _ _ r1 r3
def ui (hc:xtS):xt9 X "max" (λ xs H Q=>∃i j,xs=[xcA,xho]/\xkI (if j>i then j else i)):=by
 intro JM s σ H xs us Q I r h;show xjD i j rfl q;obtain⟨u,w',rfl,⟨t,rfl⟩,⟨t',rfl⟩⟩:=ko r;refine max_two_ints hc λ h' tk k=>xdZ H (I.kept k) ?_ q
 by_cases hj:j>i
 ·rw [Dq hj,Dq hj];exact xbg
 ·rw [Dc hj,Dc hj];exact xbg
def fb (hc:xtS):xt9 X "min" (λ xs H Q=>∃i j,xs=[xcA,xho]/\xkI (if j<i then j else i)):=by
 intro JM s σ H xs us Q I r h;show xjD i j rfl q;obtain⟨u,w',rfl,⟨t,rfl⟩,⟨t',rfl⟩⟩:=ko r;refine min_two_ints hc λ h' tk k=>xdZ H (I.kept k) ?_ q
 by_cases hj:j<i
 ·rw [Dq hj,Dq hj];exact xbg
 ·rw [Dc hj,Dc hj];exact xbg
def kI:eE X xAw (λ xs H Q=>(∃i,xs=[xcA]/\Q xcA H)\/∃k,xs=[.bl k]/\xkI (if k then 1 else 0)):=by
 intro JM s σ H xs us Q I r h;rcases h with⟨i,rfl,q⟩|⟨k,rfl,q⟩
 ·show xs1 u rfl t (gs r);exact call_int_int (xiU xcA I xbg q)
 ·show xlK u r1 (gs r) r1;exact call_int_bool (xnB (if k then 1 else 0) xeh xbg q)
universe s
structure QH (h:JI)(x dx C:JB)(mA:W1):Prop where
 obj:xhc x (instObj C dx)
 ns:h.Ns1 dx mA
 ne:dx≠x
def uz {h:JI}(n:h.Ns1 dx mA):∃od,xhc dx od/\∀name,Re (lookIn name od) xGa:=by
 obtain⟨o,es,ep,ho,hd,hk,_,hm⟩:=n;refine xdx ho (xcl name);have e:=hm name;unfold nsFind findBy at e;rw [<-Array.find?_toList] at e;show xbk lookIn hd;dsimp only
 split
 ·rename_i y q
  show UV q e (xtX e)
 ·rename_i q
  rw [q] at e;have a:ρ xLm:=by
   rw [List.any_eq_false];intro y hy;obtain⟨z,t,LJ⟩:=hk y (Array.mem_toList_iff.mp hy);simp [DictEntry.refKey,LJ]
  have a':¬NE xLm:=by show IO a Dp
  show xjP a' (xtX e)
def QH.look (I:QH h x dx C mA):∃od,InstAt h x (instObj C dx) C (some od)/\∀name,Re (lookIn name od) xGa:=
 let⟨od,ho,hl⟩:=uz I.ns
 ⟨od,xdm I.obj rfl ho,hl⟩
section
variable {prog:JE}{w:JF}{A:JH}{E:Κ}{s:JD}{K:Frag}{x dx C f:JB}{mA:W1}{name:Str}{v:JC}
def xv (X:xmn)(I:QH s.heap x dx C mA)(hg:NE (xFn C name))(hh:xEF K C)
  (ha:xk3 K name none) (hv:xGa=xab) (hv':NE (handedIn v)) (h:Q v xGY):
  xd7 (getAttr xcy name expr):=by
 show xa9 od J hl I.look (PySem.W.get_value X J (IR hg).1 (PySem.W.findObj_own hh ha rfl (by rw [hl,hv])) hv' h)
def vA (X:xmn)(I:QH s.heap x dx C mA)(hg:NE (xFn C name))
  (hf:xk3 K name xdU) (ht:xx3 K xb0) (hv:Ζ xGa) (h:Q (xb0,[xcy]) s):
  xd7 (getMethod xcy name pl):=by
 show xa9 od J hl I.look (PySem.W.method_fn X J (IR hg).1 (IR hg).2 hf (DT.mp ht) (by show(lookIn name od).map (·.isSome)=some false;rw [hl,hv];rfl) h)
def x6 (X:xmn)(I:QH s.heap x dx C mA)
  (hs:xk3 K "__setattr__" xLg) (hp:NE (plainOver K C)) (ht:Re (takerIn K C name) none) (hh:xEF K C)
  (hw:xK9 ns) (hsz:xcV ns.length)
  (h:∀h',QH h' x dx C (λ y=>xbV y name xab (mA y))->xAi dx h'->xnR (xEK h' (s.toks+2))):
  xd7 (setAttr xcy name v):=by
 show xa8 od J hl I.look (PySem.W.set_plain X J hs (PySem.W.osa_open X J hp ht (xcl b)));obtain⟨cd,hc,YL⟩:=PySem.W.any_some hh;have hx:xfK x ⟨xdH,some dx,.plain,#[]⟩:=I.obj;show xaG (xyo (CS (wpAny_loadPart hx (CS (Looks.here (PySem.W.looks_clsIn X hc) ?_)))));show xnF YL (xyo (xyo ?_)) (wpAny_nsSet1 I.ns (Sc h' Ox NI))
 obtain⟨oD,esD,epD,hoD,hdD,hcD⟩:=Ox.count (PySem.Within.cons name v hw);show xaG (wpAny_lookBehind hoD (by show IO hdD (pastItsLine_dict (CV hcD (by show IO Df (Eo hsz 1))))) ?_);exact Dl (xf6 ⟨xg6 NI _ (G6 I.ne) I.obj,Ox,I.ne⟩ NI)
def wR (X:xmn)(hm:xuj K C)
  (hi:xue K xdU) (hf:Re (typeIn K xb0) (.type "function"))
  (h:xqS xyE (xub ⟨xdH::vs,kw⟩) xb0 ⟨xuL::vs,kw⟩ (InitBack xdq R) (xi7 (xuI xkN C))):
  xqS xyE A xdH ⟨vs,kw⟩ R s:=by
 obtain⟨hh,g,d,t,os⟩:=s;exact make_core (Jm X hm) (looks_findIn X hi) (λ self=>PySem.W.bind_fn X self hf) xbZ h
def uD (X:xmn)(hm:xuj K C)
  (hi:xue K xLy)
  (hb:∀self,Looks xyE s.heap (bindSpecial xHM self) (xHM,[self]))
  (h:xqS xyE (xub (xid [xdH])) xHM (xid [xuL]) (InitBack xdq R) (xi7 (xuI xkN C))):
  xqS xyE A xdH (xid []) R s:=by
 obtain⟨hh,g,d,t,os⟩:=s;exact make_core (Jm X hm) (looks_findIn X hi) hb xxV h
universe s
noncomputable def putF (f:Str) (v:V):xex->xex
 | []=>[(f,v)]
 |(g,x)::r=>xbV g f ((g,v)::r) ((g,x)::xsW r)
theorem ao (f g)(v):∀fs,(xGZ).lookup g=xbV g f xab (fs.lookup g)
 | []=>by
  show List.lookup g [(f,v)]=_;by_cases h:g=f
  ·have hb:NE (g==f):=DT.mpr h;show xA3 hb (Dq h)
  ·have hb:ρ (g==f):=Gz.mpr h;show xA3 hb (Dc h)
 |(k,x)::r=>by
  have ih:=ao f g v r;rw [xdw (xsW ((k,x)::r)) (xbV k f ((k,v)::r) ((k,x)::xsW r))];by_cases hk:k=f
  ·rw [Dq hk];by_cases h:g=k
   ·have hb:NE (g==k):=DT.mpr h;show xA3 hb (Dq (h.trans hk))
   ·have hb:ρ (g==k):=Gz.mpr h;show xA3 hb (Dc (λ e:g=f=>h (e.trans hk.symm)))
  ·rw [Dc hk];by_cases h:g=k
   ·have hb:NE (g==k):=DT.mpr h;show xA3 hb (Dc (λ e:g=f=>hk (h.symm.trans e)))
   ·have hb:ρ (g==k):=Gz.mpr h;simp only [List.lookup,hb];exact ih
theorem gQ (f)(v):∀fs,f∈(xGZ).map (·.1)/\∀g,g∈fs.map (·.1)->g∈(xGZ).map (·.1)
 | []=>⟨by simp [putF],λ g h=>by show xbm⟩
 |(k,x)::r=>by
  obtain⟨i1,i2⟩:=gQ f v r;rw [xdw (xsW ((k,x)::r)) (xbV k f ((k,v)::r) ((k,x)::xsW r))];by_cases hk:k=f
  ·rw [Dq hk];subst hk;show xaI Z6 (λ g h=>by show xvw)
  ·show Tm (Dc hk) (xem ?_ g h)
   ·show IO Ep (xkZ i1)
   ·rw [Ep] at h ⊢;show xl8 h e e
    ·exact Dm.mpr xGl
    ·exact xkZ (i2 g e)
theorem iy (f)(v):∀fs,xbz xGZ (fs.length+1)
 | []=>by simp [putF]
 |(k,x)::r=>by
  have ih:=iy f v r;rw [xdw (xsW ((k,x)::r)) (xbV k f ((k,v)::r) ((k,x)::xsW r))];by_cases hk:k=f
  ·rw [Dq hk,Df,Df];exact xy6
  ·rw [Dc hk,Df,Df];exact Eo ih 1
def Lr.some_of (r:Lr xab o):∃u,o=xao/\xdc:=by
 cases o with
 |none=>show xiR xFg
 |some u=>exact xnc u r
def Lr.none_of (r:Lr none o):Ζ o:=by
 cases o with
 |none=>rfl
 |some u=>show xiR xFg
def uJ (r:xdc):NE (handedIn u):=by
 cases v with
 |non=>cases xpM Value.none r;rfl
 |bl b=>cases xpM (Value.bool b) r;rfl
 |int i=>show xmw t e (xuN (∃t,u=xun i)) e;rfl
 |str x=>show xmw t e (xuN (∃t,u=xBu x)) e;rfl
 |byt b=>show xmw t e (xuN (∃t,u=Value.bytes b t)) e;rfl
 |flt b=>show xmw t e (xuN (∃t,u=xJ1 b)) e;rfl
 |ref a=>cases xpM xcX r;rfl
 |ty n=>cases xpM (Value.type n) r;rfl
section
variable {P:JE}{w:JF}{H H':Hp}{h h':JI}{a C dx:JB}{fs fs':xex}
def iM (hok:xiN)(e:Uf=xj2):∃mA,QH h a dx C mA/\(∀f,Lr xAF (mA f))/\xMn/\xbH fs.length/\xoV dx a:=by
 obtain⟨d,z,ne,ob,mA,n,r,q⟩:=(show xqs (.ins C dx fs) from hok a _ e);exact⟨mA,⟨ob,n,ne⟩,r,q,z,d⟩
universe s
structure Cls (K:Frag)(C:JB):Prop where
 pg:NE (xFn C Str.empty)
 hd:xEF K C
 po:NE (plainOver K C)
 sa:xk3 K "__setattr__" xLg
def Cls.get {K:Frag}(c:xgc)(f):NE (xFn C f):=c.pg
def NoAttr (K:Frag)(C:JB)(f:Str):Prop:=xk3 K f none
def NoAttr.taker {K:Frag}(n:xcE f):Re (takerIn K C f) none:=by
 show xbk takerIn (xae (findIn K xdH f) (some none) n);rfl
structure Meth (K:Frag)(C:JB)(m:Str)(f:JB):Prop where
 at_:xk3 K m xdU
 fn:xx3 K xb0
 kp:xhT
section
variable {X:Cx}{JM:π}{σ:St}{H:Hp}{s:JD}{a C dx:JB}{fs:xex}{f:Str}{v:V}{A:JH}{E:Κ}
def qP {b:Bool}{Q:Κ}(I:Pi)(e:Uf=xj2)(c:xu2 C)(n:NoAttr X.K C f)(l:xAF=xab)
  (h:∀u s',xv6->xdc->Q u s'):xlN (getAttr SZ f b) Q E s:=by
 obtain⟨mA,O,r,_,_,_⟩:=xGm e;show xa9 u hu ru (Lr.some_of (v:=v) (o:=mA f) (by show xa5 l (r f))) (xv I.kIn O (c.get f) c.hd n hu (uJ ru) (h u _ xeh ru))
def dU {m:Str}{g:JB}{pl:xxX}(I:Pi)(e:Uf=xj2)(c:xu2 C)(k:xpp X.K m g)(l:xI3 m)
  (h:Q (.ref g,xbU) s):xlN (getMethod SZ m pl) Q E s:=by
 obtain⟨mA,O,r,_,_,_⟩:=xGm e;have hn:Ζ (mA m):=Lr.none_of (by show xa5 l (r m));exact vA I.kIn O (c.get m) k.at_ k.fn hn h
def qL {y:V}{u:JC}{Q:xfT Unit}(I:Pi)(e:Uf=xj2)(c:xu2 C)(n:NoAttr X.K C f)(hl:fs.length<1000)(ry:xhO)
  (h:∀s',xgm (xcJ H a C dx (xDH y fs)) s'->xnR s'):xlN (setAttr SZ f u) Q E s:=by
 obtain⟨mA,O,r,wi,_,ho⟩:=xGm e;have hz:xcV (fs.map (·.1)).length:=by rw [CM,Ga];exact xc9 (Dr hl)
 refine x6 I.kIn O c.sa c.po n.taker c.hd wi hz λ h' O' sb=>xf6 ?_
 have hd:∃o,xm3 dx Id:=let⟨o,_,_,e',_⟩:=O'.ns;⟨o,e'⟩;show SC (I.write (by show xeY True.intro) (.inr ho) (λ b q hb z=>xg6 sb b hb z) hd ?_) ⟨by show Ty O.ne ho,?_,O.ne,O'.obj,_,O'.ns,xcl g,LE g hg⟩
 ·have:=iy f y fs;exact CV this hl
 ·show Lr ((xDH y fs).lookup g) (xbV g f xao (mA g));rw [ao];by_cases q:g=f
  ·rw [Dq q,Dq q];exact ry
  ·rw [Dc q,Dc q];exact r g
 ·by_cases q:g=f
  ·show IO q (gQ f y fs).1
  ·refine(gQ f y fs).2 g (wi g (LT (hg ?_)));show Ζ (xbV g f xao (mA g));show xjP q z
def Inv.made (I:Pi):xgm (xi2 (xe9 H s.heap.objs.size xdq) xdq C s.heap.objs.size) (xi7 (xuI xkN C)):=by
 have e1:xjq xkN s.heap.objs.size emptyDict:=DO s.heap rfl;have e2:xjq (xuI xkN C) xdq (xzZ C):=by
  have:=DO xkN (o:=xzZ C) rfl
  rwa [Hu] at this
 have e3:(xkN).Ns s.heap.objs.size xAf:=⟨emptyDict,#[],_,e1,rfl,(xjE e he he Z6),xfH⟩;have I1:=I.laid (a:=s.heap.objs.size) (o:=.own xdq) (t':=s.toks) (λ b u q=>xdR q) P3 (xbs e1);refine I1.laid (λ b u q=>xdR q) (Di (Hu _ _)) ?_;have ne:s.heap.objs.size≠xdq:=DZ xrV;refine⟨by rw [ag ne,ac],Ω,ne,e2,xAf,(Heap.Ns1.of_empty e3).at λ o q=>xdR q,λ _=>True.intro,xjE y hy rfl hy⟩
def yw (hb:xIy f env (xo1 e)=xo1 e)
  (h:xk4 (xo1 e) (λ o s₁=>xxh (getAttr o f true) s₁) E s):xd7 (xo1 (xBb e pos)):=
 Attribute_any_ h (by rw [arm_eval_Attribute,hb])
universe s
inductive Ub (K:Frag) (f:Str) (Q:VK) (x:V) (H1:Hp):Prop
 |mk (a:_) (C:_) (dx:_) (fs:_) (v:_) (h0:x=SZ) (h1:H1 a=xj2) (h2:xgc) (h3:xcE f) (h4:xAF=xab) (h5:Q v H1):Ub K f Q x H1
def A3 (K:Frag)(ta:TE)(f:Str):TE:=λ σ H Q=>xgf λ x H1=>Ub K f Q x H1
inductive Uz (K:Frag) (f:Str) (D:Ends) (σ:St) (y:V) (x:V) (H2:Hp):Prop
 |mk (a:_) (C:_) (dx:_) (fs:_) (h0:x=SZ) (h1:H2 a=xj2) (h2:xgc) (h3:xcE f) (h4:fs.length<1000) (h5:xAc (xcJ H2 a C dx (xDH y fs))):Uz K f D σ y x H2
def B9 (K:Frag)(ta tv:TE)(f:Str):TS:=λ D σ H=>tv σ H λ y H1=>ta σ H1 λ x H2=>Uz K f D σ y x H2
section
variable {X:Cx}{o e value:JJ}{f:Str}{pos pos' tpos:Pos}{ta tv:TE}
def ay (he:xmz e)(hb:xIy f X.env xzi=xzi):Ρ (xBb e pos) (A3 X.K ta f):=by
 intro JM s σ H Q I h;refine yw hb (xs8 _ I h u);obtain⟨x,H1,I1,rx,a,C,dx,fs,v,ex,ea,c,n,l,q⟩:=z9;subst ex;obtain rfl:u=xcX:=rx;exact qP I1 ea c n l λ u' s2 I2 ru=>⟨v,H1,I2,ru,q⟩
def aI (ha:xmz o)(hv:Ρ value tv)(hs:xEe value (some (xBb o pos')) X.env=xBq):xF7 [xBb o pos'] value pos (B9 X.K ta tv f):=by
 intro JM s σ H D I h;refine plainObj_wpAny_Assign_Attribute (thn (hv JM s σ H _ I h) λ u s1 ⟨y,H1,I1,ry,q⟩=>xgv (xD9 s1 H1 _ I1 q) ov s2) hs;obtain⟨x,H2,I2,rx,a,C,dx,fs,ex,ea,c,n,l,q2⟩:=z9;subst ex;obtain rfl:ov=xcX:=rx;exact qL I2 ea c n l ry λ s3 I3=>⟨σ,_,I3,q2⟩
universe s
section
variable {X:Cx}{JM:π}{σ:St}{H:Hp}{s:JD}{A:JH}{E:Κ}{Q:Κ}{c:JC}{b:Bool}
inductive L9 (K:Frag) (H:Hp):V->Ψ JC where
 |non:xG0 .non "NoneType"
 |bl (x:Bool):xG0 (.bl x) "bool"
 |int (i:Int):xsZ xcA xAw
 |str (x:Str):xG0 xrH "str"
 |flt (x:UInt64):xG0 (.flt x) "float"
 |lst {a:JB} {xs:KB} (e:Uf=xb8):xsZ SZ xtV
 |frz {a:JB} {o:JK} {xs:KB} (e:Uf=xhb o xrm):xsZ SZ xtV
 |tup {a:JB} {xs:KB} (e:Uf=xgK):xsZ SZ xAu
 |dK {a:JB} {JV:xls Key} (e:xfG a xoT):xsZ SZ xEl
 |dT {a:JB} {JV:xls xmA} (e:xpT a):xsZ SZ xEl
 |ins {a C dx:JB} {fs:xex} (e:Uf=xj2) (cl:xgc) (ha:xk3 K "__class__" xLu)
   (hn:Re (specialIn K xDy "__get__") xK0) (htk:xpd (takesIn K xDy))
   (hm:xpd (mroIn K C xDX)):xsZ SZ xdH
def tS {x:V}{u t:JC}(I:Pi)(rx:xqd)(ty:L9 X.K H x t)(e:Re (kitOne X.K t c) b)(h:∀tk,xF9 b (xIj tk)):
  xlN (xqN "isinstance" [u,c]) Q E s:=by
 cases ty with
 |non=>cases xtq Value.none;exact xAP PySem.W.kitx_none e xhu h
 |bl y=>cases xtq (Value.bool y);exact xAP PySem.W.kitx_bool e xhu h
 |int i=>show xmw t q (show∃t,u=xun i from rx) q;exact xAP PySem.W.kitx_int e xhu h
 |str y=>show xmw t q (show∃t,u=xBu y from rx) q;exact xAP PySem.W.kitx_str e xhu h
 |flt y=>show xmw t q (show∃t,u=xJ1 y from rx) q;exact xAP PySem.W.kitx_float e xhu h
 | @lst a xs ea=>
  cases xtq xcX;obtain⟨_,_,n,_,h1⟩:=(show xB9 H a xrm from xgC a ea);exact xug kitx_list (xmo h1) e xhu h
 | @frz a ob xs ea=>
  cases xtq xcX;obtain⟨_,_,_,n,_,h1⟩:=(show xB9 H a (.frz ob xrm) from xgC a ea);exact xug kitx_list (xmo h1) e xhu h
 | @tup a xs ea=>
  cases xtq xcX;obtain⟨_,_,_,p⟩:=(show xB9 H a (.tup xs) from xgC a ea);obtain⟨o,h1,h2,_⟩:=p;exact xug PySem.W.kitx_tuple (xdx h1 h2) e xhu h
 | @dK a JV ea=>
  cases xtq xcX;obtain⟨_,_,vs,_,p⟩:=(show xB9 H a xoT from xgC a ea);obtain⟨o,es,ep,h1,h2,_⟩:=p;exact xug kitx_dict (xdx h1 xzD) e xhu h
 | @dT a JV ea=>
  cases xtq xcX;obtain⟨_,_,xs,_,o,es,ep,h1,h2,_⟩:=(show xB9 H a xAd from xgC a ea);exact xug kitx_dict (xdx h1 xzD) e xhu h
 | @ins a C dx fs ea cl ha hn htk hm=>
  cases xtq xcX;obtain⟨mA,O,_⟩:=xGm ea;show xoW od J O.look (xug (PySem.W.kitx_own (cl.get _) cl.hd ha hn htk hm) J e xhu h)
universe s
structure D' (k:Nat)(A:JH):Prop where
 hd:30≤k->xJi
 dp:xJ4 (A.depth+3*k+5)
 un:xmU (16*k)+200<cLine
 gd:Re A.guards []
def D'.mono (r:xqj A)(h:j≤k):D' j A:=⟨xGi (CV z h),by show xaR r.dp,by show xaR r.un,r.gd⟩
theorem D'.deeper (r:D' (k+1) A)(env):xAX k env:=
 ⟨xGi (Ek z),by have:=r.dp;show A.depth+1+3*k+5<_;lia,by have:=r.un;show xmU 3+16*k+200<_;lia,r.gd⟩
theorem D'.in1 (r:D' (k+1) A):xqj A.in1:=
 ⟨xGi (Ek z),by have:=r.dp;show A.depth+3*k+5<_;lia,by have:=r.un;show xmU 1+16*k+200<_;lia,r.gd⟩
def rc {A:JH}:(xub ⟨xdH::us,kw⟩).depth=A.depth+1:=by
 first|rfl|simp [Around.under,Code.weight,Code.isCreation,Code.isGuard,Code.isCaller,Code.frames,Code.isFrame,guardIds]
def qU {A:JH}:(xub ⟨xdH::us,kw⟩).units=xmU 1:=by
 first|rfl|simp [Around.under,Code.cUnits,Code.frames,Code.isFrame]
def Qa {A:JH}:(xub ⟨xdH::us,kw⟩).guards=A.guards:=by
 first|rfl|simp [Around.under,Code.guards,Code.isGuard,guardIds,pushGuards]
def D'.make (r:D' (k+1) A)(C)(us)(kw):xqj (xub ⟨xdH::us,kw⟩):=
 ⟨xGi (Ek z),by have:=r.dp;show xam rc,by have:=r.un;show xam qU,Qa.trans r.gd⟩
theorem D'.depth (r:xqj A):xJ4 A.depth:=by show xaR r.dp
theorem D'.units (r:xqj A):xmU 64<cLine:=by show xaR r.un
def j8:TA:=λ _ H Q=>Q [] H
def kC (ta:TE)(tr:TA):TA:=λ σ H Q=>xgf λ x H1=>tr σ H1 λ xs H2=>Q (x::xs) H2
section
variable {X:Cx}{e:JJ}{es:xif}{te:TE}{t:TA}{pos:Pos}
def af:xin [] j8:=λ _ _ _ _ H Q I h=>Calls.spliced_nil (xiU [] I .nil h)
def aa (ha:xtf e)(hr:xin es t)(hs:Ξ (xns=xhS::xno)):xin xdC (kC te t):=by
 intro pos JM s σ H Q I h;rw [hs];show xel (spliced (xhS::xry es)) s;show xf4 (Calls.spliced_cons (xc5 xnP u)) x;exact xcW (hr pos JM s1 σ H1 _ I1 q1) us s2 z9 (by show xqz xs H2 I2 r2 q2;exact⟨x::xs,H2,I2,.cons r1 r2,q2⟩)
inductive T9 (Q:VK) (xs:KB) (H1:Hp):Prop
 |mk (h0:xmm) (h1:∀p,xfO p->Q Φ (xbE H1 p xs)):T9 Q xs H1
def BE (t:TA):TE:=λ σ H Q=>xd5 λ xs H1=>T9 Q xs H1
inductive Ua (Q:VK) (xs:KB) (H1:Hp):Prop
 |mk (h0:xmm) (h1:∀p,xfO p->Q Φ (xby H1 p xs)):Ua Q xs H1
def A5 (t:TA):TE:=λ σ H Q=>xd5 λ xs H1=>Ua Q xs H1
def cD {x1}(h:xin es t):Ρ (xxC x1 pos) (BE t):=by
 intro JM s σ H Q I hq;refine wpAny_Tuple_spliced (thn (h pos JM s σ H _ I hq) λ us s1 ⟨xs,H1,I1,r,z,q⟩=>xcO (by show xa5 r.length z));have hf:xLW:=xIs;refine xc4 xLE (xbE H1 s1.heap.objs.size xs) (xJ5 s1.toks (λ b u e=>xep) P3 ?_) (q _ hf);show xaC z us r (xay _ xfk _ rfl)
def aT (h:xin es t):Ρ (.List es pos) (A5 t):=by
 intro JM s σ H Q I hq;refine wpAny_List_spliced (thn (h pos JM s σ H _ I hq) λ us s1 ⟨xs,H1,I1,r,z,q⟩=>xcO (by show xa5 r.length z));have hf:xLW:=xIs;refine xc4 xLE (xby H1 s1.heap.objs.size xs) (xJ5 s1.toks (λ b u e=>xep) P3 ?_) (q _ hf);exact⟨z,us,0,r,xfk⟩
universe s
abbrev Sp:=KB->Hp->VK->Ψ XK
abbrev WB:=xfN->Hp->JD->XK->Κ
structure NR (P:JE)(w:JF)(K:Frag)(mg:W1)(base:JI)(A:JH)(outer:xfN)(s:JD)(H:Hp):Prop where
 frames:Re A.frames outer
 mod:Mod K mg base
 bs:∀b o,base.get? b=Id->xeA/\xdb
 bsz:base.objs.size≤s.heap.objs.size
 funs:s.heap.FunFrames base outer
 frf:xax (frs outer) xdb
 hok:xuS H s.heap
 bare:AllBare s.gens
 qt:Qt A H
def CE (outer:xfN)(P:JE)(w:JF)(H:Hp)(s:JD)(Q:VK)(u:JC)(s':JD):Prop:=
 ∃v H',s'.os=s.os/\xAp/\Un (frs outer) [] H H' s.heap s'.heap/\xuS H' s'.heap/\xdc/\xbr v
def CR (CX:WB)(outer:xfN)(P:JE)(w:JF)(H:Hp)(s:JD)(Q:VK)(E:XK)(r:Result)(s':JD):Prop:=
 match r with
 | .ok (.ret u)=>CE outer P w H s Q u s'
 | .ok _=>False
 | .error e=>CX outer H s E e s'
structure y' (P:JE)(w:JF)(K:Frag)(mg:W1)(base:JI)(CX:WB)(k:Nat)(f:JB)(fd:JG)(ps:xaj)(sp:Sp):Prop where
 len:∀vs H Q E,xgg->xqY
 run:∀(A:JH) (outer:xfN) (s:JD) (H:Hp) (args:Args) (us:xaE) (vs:KB) (Q:VK) (E:XK),xqj A->NR P w K mg base A outer s H->BindsTo s fd args xxf->xh4 vs->xgg->
  xqS (model P w) A xb0 args (CR CX outer P w H s Q E) s
theorem y'.mono {P:JE}{K:Frag}(F:xg3 P w K CX j f fd ps sp)(h:j≤k):
  xg3 P w K CX k f fd ps sp:=⟨F.len,λ A outer s H args us vs Q E hr=>F.run A outer s H args us vs Q E (hr.mono h)⟩
def y'.imp {P:JE}{K:Frag}(F:xg3 P w K CX k f fd ps sp)
  (h:∀vs H Q E,sp' vs H Q E->xgg):xg3 P w K CX k f fd ps sp':=
 ⟨λ vs H Q E q=>F.len vs H Q E (xjS _ _ q),λ A outer s H args us vs Q E hr he hb hv hs=>F.run A outer s H args us vs Q E hr he hb hv (xjS _ _ hs)⟩
def NR.make {K:Frag}(e:NR P w K mg base A outer s H)(C)(us)(kw):
  NR P w K mg base (xub ⟨xdH::us,kw⟩) outer s H:=⟨by first|exact e.frames|(simpa [Around.under,Code.envs,Code.isFrame,pushEnvs] using e.frames),e.mod,e.bs,e.bsz,e.funs,e.frf,e.hok,e.bare,e.qt⟩
theorem NR.in1 {K:Frag}(e:NR P w K mg base A outer s H):
  NR P w K mg base A.in1 outer s H:=⟨e.frames,e.mod,e.bs,e.bsz,e.funs,e.frf,e.hok,e.bare,e.qt⟩
section
variable {X:Cx}{JM:π}{σ:St}{H:Hp}{s s':JD}
def Inv.env0 (I:Pi):NR X.prog X.w X.K X.mg X.base X.A X.stack s H:=
 ⟨I.ok.frames,I.ok.mod,I.bs,xEV I.sz,I.stack,I.stkFree,I.hok,I.bare,I.qt⟩
def Inv.after {Q:VK}{u:JC}(I:Pi)(h:CE X.stack X.prog X.w H s Q u s'):xn9 u s':=by
 obtain⟨v,H',os,bare,un,hok,r,q⟩:=h;obtain⟨hh,g,d,t,os'⟩:=s';obtain rfl:os'=s.os:=os;exact⟨v,H',I.call (h':=hh) (g':=g) (d':=d) (t':=t) (ch:=[]) un hok bare (xjE b z z Z6),r,q⟩
universe s
def rL (sp:Sp)(L1:KB)(E:XK)(t:TA):TE:=λ σ H Q=>xd5 λ vs H1=>sp (vs++L1) H1 Q E
inductive Rg (C:JB) (m:Str) (sp:Sp) (L1:KB) (E:XK) (t:TA) (σ:St) (Q:VK) (x:V) (H1:Hp):Prop
 |mk (a:_) (dx:_) (fs:_) (h0:x=SZ) (h1:H1 a=xj2) (h2:xI3 m) (h3:t σ H1 λ vs H2=>sp (x::(vs++L1)) H2 Q E):Rg C m sp L1 E t σ Q x H1
def ou (C:JB)(m:Str)(sp:Sp)(L1:KB)(E:XK)(ta:TE)(t:TA):TE:=λ σ H Q=>xgf λ x H1=>Rg C m sp L1 E t σ Q x H1
def y0 (C:JB)(sp:Sp)(L1:KB)(E:XK)(t:TA):TE:=λ σ H Q=>xd5 λ vs H1=>∀x dx,xfO x->xfO dx->dx≠x->
 sp (xcy::(vs++L1)) (xcJ (xe9 H1 dx x) x C dx []) (λ v H2=>v=.non/\Q xcy H2) E
def Binds (K:Frag)(fd:JG)(ps:xaj)(ds:xaE):Prop:=
 ∀s us,xmn->xwM (xbq us ds)->xvA s us (ps.zip (us++ds))
def Binds.all {K:Frag}{fd:JG}(h:∀us:xaE,xwM us.length->bindArgs fd (xid us)=pure xxf):xnq:=λ s us _ hl=>by
 rw [DM] at hl ⊢;exact .of_eq (h us hl)
def d7 (CX:WB)(X:Cx)(E:XK):Prop:=∀(JM:π) (σ:St) (H:Hp) s e s',Pi->CX X.stack H s E e s'->X.xe e s'
section
variable {X:Cx}{CX:WB}{k:Nat}{f C:JB}{fd:JG}{ps:xaj}{sp:Sp}{L1:KB}{ds:xaE}{E:XK}{x m:Str}{p pos apos:Pos}{e o:JJ}{es:xif}{ta:TE}{t:TA}
def io {JM:π}{σ:St}{H:Hp}{s:JD}{Q:VK}{us:xaE}(F:xsO k f fd ps sp)(hr:xn7)(hb:xsT)(hd:xsQ)(hx:xsw X E)
  (I:Pi) (r:xh4 vs) (h:sp (vs++L1) H Q E):xjO (xEj us) X Q s:=by
 have r2:Vals (vs++L1) (us++ds):=r.append hd;have hl:xwM (xbq us ds):=by show xa5 r2.length (F.len _ _ _ _ h)
 show xBW (xAH (xJ6 X.A s H (xid us) (us++ds) (vs++L1) Q E hr I.env0 (hb s us I.kIn hl) r2 h) r s' hq);cases r with
 |error e=>exact hx JM σ H s e s' I hq
 |ok fl=>
  cases fl with
  |ret u=>exact I.after hq
  |next=>show xeK hq
  |brk=>show xeK hq
  |cont=>show xeK hq
def cx (F:xsO k f fd ps sp)(hr:xn7)(hg:xiC)(hm:xr7=xdU)(hk:xqC X.K xb0)(hb:xsT)(hd:xsQ)(hx:xsw X E)
  (ha:xqm) (Qr:xff (x==xgn)) (he:Ξ (xns=xhS::xno)) (L0:xqx):
  xnr x p xdC [] (rL sp L1 E t):=by
 intro JM s σ H Q I h;show SC (E7 (fu I hg hm ?_ Qr)) (HQ (h₀:=X.base) I.ok.mod.kin hk (thn xl1 λ us s1 ⟨vs,H1,I1,r,q⟩=>xcO I1.kIn) he L0);exact io F hr hb hd hx I1 r q
def m5 (F:xsO k f fd ps sp)(hr:xn7)(hg:xiC)(hm:xr7=xdU)(hk:xqC X.K xb0)(hb:xsT)(hd:xsQ)(hx:xsw X E)
  (Qr:xff (x==xgn)):xnr x p [] [] (rL sp L1 E j8):=by
 intro JM s σ H Q I h;refine E7 (fu I hg hm ?_ Qr);exact GD I.kIn hk (xDj [] F hr hb hd hx I .nil h)
def lH {pl:xxX}(he:xmz o)(c:xu2 C)(hm:xpp X.K m f)(F:xsO k f fd ps sp)(hr:xn7)(hb:xsT)(hd:xsQ)(hx:xsw X E)(ha:xqm)
    (MD:Ξ (xns=xhS::xno)) (L0:xqx)
    (ht:Ξ (xg4 (xkF o m xdC)=(do
      let ov<-xpL
      xwG
      let xyQ f<-xwP [ov] ov m pl
      xyk f (xry xdC) (xvf pos [])))):
    Ρ (xkF o m xdC) (ou C m sp L1 E ta t):=by
  intro JM s σ H Q I h
  refine He (pl:=pl) (xs8 _ I h u) ht
  obtain⟨x,H1,I1,rx,a,dx,fs,ex,ea,l,q⟩:=z9
  subst ex
  obtain rfl:u=xcX:=rx
  show SC (dU I1 ea c hm l ?_) (HQ (first:=xbU) (h₀:=X.base) I.ok.mod.kin hm.kp (thn (xIi s1 H1 _ I1 q) λ us s2 ⟨vs,H2,I2,r,q2⟩=>xcO I2.kIn) MD L0)
  exact xDj (SZ::us) (vs:=SZ::vs) F hr hb hd hx I2 (.cons rfl r) q2
def vf {pl:xxX}(he:xmz o)(c:xu2 C)(hm:xpp X.K m f)(F:xsO k f fd ps sp)(hr:xn7)(hb:xsT)(hd:xsQ)(hx:xsw X E)
    (ht:Ξ (xg4 (xkF o m [])=(do
      let ov<-xpL
      xwG
      let xyQ f<-xwP [ov] ov m pl
      xyk f xCR (xvf pos [])))):
    Ρ (xkF o m []) (ou C m sp L1 E ta j8):=by
  intro JM s σ H Q I h
  refine He (pl:=pl) (xs8 _ I h u) ht
  obtain⟨x,H1,I1,rx,a,dx,fs,ex,ea,l,q⟩:=z9
  subst ex
  obtain rfl:u=xcX:=rx
  refine dU I1 ea c hm l ?_
  exact GD (first:=xbU) I1.kIn hm.kp (xDj xbU (vs:=xbU) F hr hb hd hx I1 (xjn rfl) q)
structure Mk (K:Frag)(C f:JB):Prop where
 makes:xuj K C
 init:xue K xdU
 fn:xx3 K xb0
 kp:xqC K xdH
def m9 {JM:π}{σ:St}{H:Hp}{s:JD}{Q:VK}{us:xaE}(M:Mk X.K C f)(F:xsO k f fd ps sp)(hr:xuh (k+1))(hb:xsT)(hd:xsQ)
  (hx:xsw X E) (I:Pi) (r:xh4 vs)
  (h:∀x dx,XV x->XV dx->dx≠x->sp (xcy::(vs++L1)) (xcJ (xe9 H dx x) x C dx []) (λ v H2=>v=.non/\Q xcy H2) E):
  xjO (call xdH us) X Q s:=by
 have hq:=h xdq s.heap.objs.size xMm xjd (DZ xrV);have I2:=Inv.made (C:=C) I;have r2:Vals (V.ref xdq::(vs++L1)) (xAM::(us++ds)):=.cons rfl (r.append hd);have hl:xwM (xbq (xAM::us) ds):=by
  have e:=r2.length;show UV (F.len _ _ _ _ hq) e e.symm
 show xBW (wR I.kIn M.makes M.init (DT.mp M.fn) (xAH (xJ6 _ _ _ (xid (xAM::us)) (xAM::(us++ds)) _ _ E (hr.make C us []) (I2.env0.make C us []) (xvU (xAM::us) I2.kIn hl) r2 hq) r s' Sf))
 cases r with
 |error e=>exact hx JM σ _ _ e s' I2 Sf
 |ok fl=>
  cases fl with
  |ret u=>
   obtain⟨v,H',I3,rv,ev,q3⟩:=I2.after Sf;subst ev;show xaI rv (xc4 (V.ref xdq) H' I3 q3)
  |next=>show xeK Sf
  |brk=>show xeK Sf
  |cont=>show xeK Sf
def fj (M:Mk X.K C f)(F:xsO k f fd ps sp)(hr:xuh (k+1))(hg:xiC)(hm:xr7=xhM)(hb:xsT)(hd:xsQ)(hx:xsw X E)
  (ha:xqm) (Qr:xff (x==xgn)) (he:Ξ (xns=xhS::xno)) (L0:xqx):
  xnr x p xdC [] (y0 C sp L1 E t):=by
 intro JM s σ H Q I h;show SC (E7 (fu I hg hm ?_ Qr)) (HQ (h₀:=X.base) I.ok.mod.kin M.kp (thn xl1 λ us s1 ⟨vs,H1,I1,r,q⟩=>xcO I1.kIn) he L0);exact m9 M F hr hb hd hx I1 r q
def bL (M:Mk X.K C f)(F:xsO k f fd ps sp)(hr:xuh (k+1))(hg:xiC)(hm:xr7=xhM)(hb:xsT)(hd:xsQ)(hx:xsw X E)
  (Qr:xff (x==xgn)):xnr x p [] [] (y0 C sp L1 E j8):=by
 intro JM s σ H Q I h;refine E7 (fu I hg hm ?_ Qr);exact GD I.kIn M.kp (m9 (us:=[]) M F hr hb hd hx I .nil h)
universe s
section
variable {X:Cx}{CX:WB}{k:Nat}{f C:JB}{fd:JG}{ps ks:xaj}{sp:Sp}{E:XK}{x m:Str}{p pos apos kpos:Pos}{e o:JJ}{es:xif}{kws:xI9}{te ta:TE}{t tk:TA}{nm:Option Str}
variable {g:xaE -> xaE -> xaE}{gV:KB -> KB -> KB}
universe s
structure i' (N P:xaj)(sc:Scope):Prop where
 kind:xHZ sc.kind
 co:ρ sc.isCoroutine
 gen:ρ sc.isGenerator
 nd:N.Nodup
 pre:N.take P.length=P
 par:xcq P (xqJ=xdI\/xqJ=xfC)
 nofree:∀y∈sc.names,xyR y.2
def scB (N P:xaj)(c:Scope):Bool:=xcp c.kind .function&& ! c.isCoroutine&& ! c.isGenerator&&decide N.Nodup&&xcp (N.take P.length) P&&P.all (xd9 x (c.names.lookup x=xdI\/c.names.lookup x=xfC))&&c.names.all (xd9 y (xyR y.2))
def JY {N P:xaj}{c:Scope}(h:NE (scB N P c)):i' N P c:=by
 simp only [scB,IA,decide_eq_true_eq,Bool.not_eq_true',List.all_eq_true] at h;obtain⟨⟨⟨⟨⟨⟨a,b⟩,d⟩,e⟩,f⟩,g⟩,i⟩:=h;exact⟨a,b,d,e,f,g,i⟩
theorem kH {kindOf:Str->xEb}:∀{binds} {m},(∀v,(x,v)∉binds)->xEx binds m x=m x
 | [],_,_=>rfl
 |(n,v)::r,m,h=>by
  show xbk bindL (kH λ w hw=>xhv w hw)
  split
  ·have:x≠n:=by rintro rfl;exact xkG v
   simp [this]
  ·rfl
theorem k4 {kindOf:Str->xEb}:∀{binds} {m},(∀v,(x,v)∉binds)->xEy binds m x=m x
 | [],_,_=>rfl
 |(n,v)::r,m,h=>by
  show xbk bindC (k4 λ w hw=>xhv w hw)
  split
  ·rfl
  ·have:x≠n:=by rintro rfl;exact xkG v
   simp [this]
theorem kx {kindOf:Str->xEb}:∀{P:xaj} {vs} {i:Nat} {m},P.Nodup->xa6 P=Χ->xa6 vs=xab->kindOf x=xdI->
  xEx xxK m x=xab
 | [],_,_,_,_,h,_,_=>by show xbm
 |_::_,[],_,_,_,_,h,_=>by show xbm
 |p::P,w::vs,0,m,nd,h1,h2,hk=>by
  simp at h1 h2;subst h1;subst h2;show xEx ((p,w)::xxK) m p=_;unfold bindL;rw [kH λ v hv=>xE6.1 (HK hv).1,Dq hk];simp
 |p::P,w::vs,i+1,m,nd,h1,h2,hk=>by
  show xEx ((p,w)::xxK) m x=_;unfold bindL;exact kx xE6.2 (by show xrN) (by simpa using h2) hk
theorem kX {kindOf:Str->xEb}:∀{P:xaj} {vs} {i:Nat} {m},P.Nodup->xa6 P=Χ->xa6 vs=xab->kindOf x≠xdI->
  xEy xxK m x=xab
 | [],_,_,_,_,h,_,_=>by show xbm
 |_::_,[],_,_,_,_,h,_=>by show xbm
 |p::P,w::vs,0,m,nd,h1,h2,hk=>by
  simp at h1 h2;subst h1;subst h2;show xEy ((p,w)::xxK) m p=_;unfold bindC;rw [k4 λ v hv=>xE6.1 (HK hv).1,Dc hk];simp
 |p::P,w::vs,i+1,m,nd,h1,h2,hk=>by
  show xEy ((p,w)::xxK) m x=_;unfold bindC;exact kX xE6.2 (by show xrN) (by simpa using h2) hk
noncomputable def start (N:xaj) (vs:KB):St:=vs.map some++xDs (N.length-vs.length)
noncomputable def cxOf (CX:WB) (P:JE) (w:JF) (K:Frag) (mg:W1) (base:JI) (N:xaj) (qual:Str) (scope:Scope) (f:JB) (cd:JC) (A:JH) (outer:xfN) (s:JD) (H:Hp) (E:XK):Cx where
 prog:=P
 w:=w
 K:=K
 mg:=mg
 base:=base
 A:=A.deeper (xrw f cd)
 N:=N
 s₀:=s
 H₀:=H
 env:=xrw f cd
 outer:=outer
 stack:=xrw f cd::outer
 ex:=[]
 calm:=true
 fn:=xE7
 pn:=[]
 xe:=λ e s'=>xtw P w (A.deeper (xrw f cd)) (leaving (xrw f cd) e) (λ _ L3=>CX outer H s E e L3) (λ e' L3=>CX outer H s E e' L3) s'
def nP {sc:Scope}(h:xqJ=xfC):∃c,(cellsFrom n sc.names []).lookup x=xaV:=by
 have q:=HY sc.names n [] (.inl h);exact Option.isSome_iff_exists.mp q
def kG {CX:WB}{K:Frag}
  (S:i' N ps scope) (e0:NR P w K mg base A outer s H) (hl:xqY) (r:xh4 vs)
  (x:InCallC s s.heap.objs.size (bindL (xrw f cd).kindOf xxf xAf) (xH6 xdq []) (bindC (xrw f cd).kindOf xxf xAf) s1):
  xsm (xjz CX P w K mg N qual scope f cd A outer s H E) xlh H s1:=by
 have L0:ps.length≤N.length:=by show xc6 (xeI S.pre) Dd;lia
 obtain⟨h1,tk,rfl,hk⟩:=x.done;have Vb:∀b,b∉(xjz CX P w K mg N qual scope f cd A outer s H E).ex:=λ b z=>xop (b∈([]:xaa)) z Z6
 refine⟨⟨e0.mod,S.kind,rfl,rfl,P3,λ y z c h1 h2=>?_,LE y hy,λ y c _ h=>?_,e0.qt,xK4,xxV,xjE b z z xzg,e0.bs,e0.bsz,λ b _ _=>xzg,xjE b z z xzg,e0.funs,e0.frf⟩,
  rfl,e0.bare,xKi,xav x.toInCall.ns (λ i y v h1 h2 h3=>?_),λ y c h=>xbs (x.cell y c h),e0.hok.fresh P3,Sc y c h,λ p hp=>xop (p∈([]:π)) hp Z6,e0.hok.kept hk,?_⟩
 ·exact name_of_addr x.apart (El h1) (El h2)
 ·have hy:xg8 y xfC\/xg8 y xI2:=hy;rcases hy with hy|hy
  ·exact nP hy
  ·show xaW rfl (S.nofree _ (El hy))
 ·exact Dr (x.above y c (El h))
 ·have hi:i<vs.length:=by
   unfold start at h2;by_cases hi:i<vs.length
   ·exact hi
   ·rw [DC (by simpa using hi)] at h2;rw [Gv] at h2
    split at h2<;>cases h2
  have ha:xa6 vs=xab:=by
   unfold start at h2;rw [DW (by simpa using hi),DX] at h2;cases e:xa6 vs with
   |none=>show Tl e h2 h2
   |some a=>show Tl e h2 h2;rfl
  obtain⟨u,hu,rv⟩:=r.get ha;have hp:xad ps y:=by
   rw [<-S.pre,List.getElem?_take_of_lt (De hi hl)];exact h1
  have ndP:ps.Nodup:=by show xa5 S.pre (S.nd.sublist (Ge _ _))
  refine xac u rv;rcases S.par y (D9 hp) with k|k
  ·show xaN ⟨k,kx ndP hp hu k⟩
  ·show xbp c e (nP k) (.inr ⟨.inl k,c,e,?_⟩);have q:=x.cell y c e;show UV (kX ndP hp hu (by show scope.names.lookup y≠_;rw [k];decide)) q q
 ·exact e0.hok.fresh (Dr (x.above y c (El h)))
 ·unfold start;show _=N.length;rw [CN,CM,DI];lia
def uU {P:JE}{w:JF}{K:Frag}{f:JB}{dV kV doc pm JN ct oc:JC}
    (lk:xj7 f oc od (xHn qual body scope dV kV doc pm an JN ct) osl) (NL:xji K JN qual) (S:i' N ps scope)
  (len:∀vs H Q E,xgg->xqY)
  (MY:∀(A:JH) (outer:xfN) (s:JD) (H:Hp) (vs:KB) (Q:VK) (E:XK),xAX k (xrw f JN)->xgg->
   ∃t,PSs (xjz CX P w K mg N qual scope f JN A outer s H E) body t/\xyI H' xtB Q xlh H):
  xg3 P w K CX (k+1) f (xHn qual body scope dV kV doc pm an JN ct) ps sp:=by
 refine⟨len,λ A outer s H args us vs Q E hr e0 hb r Ow=>?_⟩;have hl:=len _ _ _ _ Ow;have KX:xmn:=e0.mod.kin.keeps λ b o e=>(xHp o e).1
 have lim:s.heap.NoLimit:=e0.mod.nolimit.keeps λ b o e=>(xHp o e).1
 have LK:∀y∈xxf,xg8 xgP xdI\/(xg8 xgP xfC/\xjo ((xH6 xdq []).lookup xgP)):=λ⟨n,v⟩ hy=>by
  rcases S.par n (HK hy).1 with q|q
  ·show xaN q
  ·exact xcv q (HY _ _ _ (.inl q))
 show SC (xK5 (KX _ _ lk) rfl S.co S.gen rfl (codeRec_of KX NL) (xvU _ _ _ ?_)) (xK1 LK λ env he s1 x=>?_)
 subst he;show xeL ⟨xLn,codeAny_func ?_⟩ t ht hq (MY A outer s H vs Q E (hr.deeper _) Ow);have I:xsm (xjz CX P w K mg N qual scope f JN A outer s H E) xlh H s1:=kG S e0 hl r x;refine EC (ht [] s1 xlh H _ I hq) (Sc fl s' hs) λ e s' hs=>hs
 have fin:∀{σ'} {H'} {v} {u},xsm (xjz CX P w K mg N qual scope f JN A outer s H E) σ' H' s'->xdc->xbr v->CE outer P w H s Q u s':=
  λ {σ' H' v u} J rv q=>⟨v,H',J.os,J.bare,J.base,J.hok,rv,q⟩
 cases fl with
 |ret u=>
  obtain⟨v,σ',H',J,rv,q⟩:=hs;exact fin J rv q
 |next=>
  obtain⟨σ',H',J,q⟩:=hs;exact fin (v:=V.non) J rfl q
 |brk=>
  show xEh q hs q
 |cont=>
  show xEh q hs q
section
variable {X:Cx}{x:Str}{p pos:Pos}{e:JJ}{es:xif}{t:TA}{id T:String}{r:KB -> Hp -> xeS}
def tCB (r:KB->Hp->xeS)(t:TA):TE:=λ σ H Q=>xd5 λ vs H1=>r vs H1 Q
def bM (hc:xt9 X id r)(hg:xiC)(hm:xmp x)(hv:xwX=xmc id)(ha:xqm)(hn:xtz xzj)(Qr:xff (x==xgn))
  (he:Ξ (xns=xhS::xno)) (L0:xqx):xnr x p xdC [] (tCB r t):=by
 intro JM s σ H Q I h;refine E7 (xyJ I hv ?_ hn Qr);exact PyProof.Rows.callWith_builtin1 (xcW xl1 us s1 z9 (by show xmK vs;exact xzB s1 σ H1 vs us Q I1 r1 q1)) he L0
def bO (hc:eE X xFt r)(hg:xiC)(hm:xmp x)(hv:Re xwX xFt)(ha:xqm)(hn:xtz xzj)(Qr:xff (x==xgn))
  (he:Ξ (xns=xhS::xno)) (L0:xqx):xnr x p xdC [] (tCB r t):=by
 intro JM s σ H Q I h;refine E7 (xyJ I hv ?_ hn Qr);exact EW (xcW xl1 us s1 z9 (by show xmK vs;exact xzB s1 σ H1 vs us Q I1 r1 q1)) he L0
universe s
universe L2
namespace HT
open PySem PyProof.Rows
section
open PySem.SeqAt
open PySem.AutoSeq1 (wpAny_loadPart')
open PySem.MeetsSeq PySem.MeetsSeq2 PySem.MeetsSeq3
universe s
section
variable {prog:JE}{w:JF}{A:JH}{E:Κ}{s:JD}
noncomputable def sIx (n d:Nat):xoS xce
 |none=>d
 |some v=>if v<0 then xim v xaf else xJo
def M8 (n d:Nat):xjX d none=d:=rfl
def Kw (n d k:Nat):xjX d (xrk k)=xvM k:=by
 show xeW (xka<0) (xim xka xaf) (xvM (xka).toNat)=xvM k;rw [Dc Z5,Dz]
def zR (n d:Nat)(hd:xbx d)(o:xce):xbx (xjX d o):=by
 cases o with
 |none=>exact hd
 |some v=>
  show xbx (xeW (v<0) (xim v xaf) xJo);by_cases hv:v<0
  ·rw [Dq hv];omega
  ·show xjP hv (Et _ _)
def rD (v:Int)(n d:Nat):xeW (v<0) (max (v+xaf) 0) (min v xaf)=KF (xjX d xab):=by
 show xeW (v<0) (max (v+xaf) 0) (min v xaf)=KF (xeW (v<0) (xim v xaf) xJo);by_cases hv:v<0
 ·simp only [Dq hv];omega
 ·simp only [Dc hv];omega
def qg (lo hi:xce)(n:Nat):xLb hi 1 xaf=(KF (xjX 0 lo),KF (xjX n hi)):=by
 have h1:¬(xcr<0):=Z4;unfold Builtin.Slice.sliceAdjust;simp only [h1,Ii];refine Prod.ext ?_ ?_
 ·cases lo with
  |none=>rfl
  |some v=>exact rD v n 0
 ·cases hi with
  |none=>rfl
  |some v=>exact rD v n n
def qK (i j:Nat):xHW xcD (SL j)=j-i:=by
 unfold Builtin.Slice.slicePlaces;have h1:xcr>0:=Z4;simp only [h1,if_true,Int.ediv_one]
 split<;>omega
def jQ {v:JC}{o:xce}{Q:xfT xce}(p:IsPart v o)(h:Q o s):xd7 (Builtin.Slice.slicePartIndex v):=by
 cases p with
 |none=>exact slicePart_none h
 |int i t=>exact slicePart_int h
def dQ {sl:JB}{vl vu:JC}{lo hi:xce}{n:Nat}{Q:xfT (Int×Int×Nat)}(hs:xDJ vl vu .none)(pl:xFJ lo)(pu:xFK hi)
  (h:Q (KF (xjX 0 lo),1,xjX n hi-xjX 0 lo) s):xd7 (Builtin.Slice.sliceApplied xxt (pure xaf)):=by
 show xmN os Xg Qu ZJ hs;unfold Builtin.Slice.sliceApplied Builtin.Slice.sliceFields;show xc1 (CS (EL Xg ZJ (x:=vl) rfl (CS (EL Xg ZJ (x:=vu) rfl (CS (EL Xg ZJ (x:=.none) rfl xdO)))))) (slicePart_none ?_);show xpc (xcr==0) s;show xhF (Dc Z9) (jQ pl (CS (jQ pu (CS xdO))));show xel (match xLb hi 1 xaf with|(lo,hi)=>pure (lo,xcr,xHW lo hi)) s;rw [qg lo hi n];show xel (pure (KF (xjX 0 lo),xcr,xHW (KF (xjX 0 lo)) (KF (xjX n hi)))) s;show IO qK (Dl h)
def wo (xs:xrr)(i k:Nat):((List.range k).filterMap λ(m:Nat)=>xfX (xim xcD (xfm*1))).toArray=(xyS xmh).toArray:=by
 have e:(λ(m:Nat)=>xfX (xim xcD (xfm*1)))=λ m=>xfX (i+m):=by
  funext m;have:xim xcD (xfm*1)=i+m:=Z4;rw [this]
 rw [e];show xc6 (pick_run xs i k) List.filterMap_map;have e2:((λ x=>xfX x)∘λ x=>i+x)=λ m=>xfX (i+m):=rfl
 show xmj e2;rw [this]
def LY {t sl:JB}{items:xrr}{vl vu:JC}{lo hi:xce}{Q:Κ}(ht:xAI t items)(hs:xDJ vl vu .none)(pl:xFJ lo)(pu:xFK hi)
  (hw:¬(xfZ=0/\xlw=items.size))
  (h:Q xmb (xi7 (xzY "tuple" (xqV (xb6 xHU xlw xfZ)))))
  (hsz:xcV items.size):xd7 (getItem xfc xxt):=by
 have Q3:sizeOk (xqV (xb6 xHU xlw xfZ)):=by
  show xcV (xb6 xHU xlw xfZ).toArray.size;rw [Dg,Dd,C6,Ee];omega
 have hj:xlw≤items.size:=zR _ _ P3 hi;show xmN os Xg Qu ZJ hs;have hTs:s.TypeIs xxt "slice":=⟨os,Xg,Qu⟩;unfold getItem
 try with_reducible refine EK ?_
 first|show xaG xdO|skip
 show xc1 (xLe Z9 ?_) (EM (name:=xLj) ht.typeIs Eu
  (FO Eu ht.typeIs entry_tuple_getitem ?_ (xLM _)))
 show xel (xK7>>= _) s;show xc1 (tupleItemsOf_ ht ?_) (wpAny_typeOf hTs ?_);show xhF (Dq Z9) (dQ hs pl pu ?_);have hno:¬(NE (KF xfZ==0&&xcr==1&&xFC (xlw-xfZ))):=by
  intro q;rw [IA,IA] at q;have q1:KF xfZ=0:=eq_of_beq xaZ.1;have q2:xlw-xfZ=items.size:=eq_of_beq xbh;exact hw ⟨Z4,Z4⟩
 show xpc (KF xfZ==0&&xcr==1&&xFC (xlw-xfZ)) s;rw [Dc hno,wo]
 first
  |exact CS (m:=xDA) (Gg xDi Q3)
  |exact CS (m:=xDA) (Gg (CS (Dl xDi)) Q3)
  |exact CS (CS (m:=xDA) (Gg (Dl xDi) Q3))
  |exact CS (CS (m:=xDA) (Gg xDi Q3))
universe s
universe HT
namespace L2
open PySem PySem.Spec PyProof.Rows
abbrev TO:=St->Hp->Ψ (xfi xce)
def PO (X:Cx)(e:Option JJ)(t:TO):Prop:=
 ∀(JM:π) (s:JD) (σ:St) H Q,Pi->xd5 Q->
  xe7 (evalPart e X.env) (λ u s'=>∃o H',xj5/\IsPart u o/\xbr o) s
def yv:TO:=λ _ H Q=>xyM H
inductive Ra (Q:xfi xce) (x:V) (H1:Hp):Prop
 |mk (i:_) (h0:x=xcA) (h1:Q (some i) H1):Ra Q x H1
def Bp (t:TE):TO:=λ σ H Q=>xd5 λ x H1=>Ra Q x H1
def cH:∀{us},xh4 xdk->xuB us:=by
 induction ns with
 |nil=>intro us r;show xhH IY r r .nil
 |cons n ns ih=>
  intro us r;rw [Ep] at r;cases r with
  |cons r1 r2=>
   show xwt t r1;subst e;exact .cons n t (ih r2)
section
variable {X:Cx}{e:JJ}{te:TE}{lo hi:Option JJ}{tl th:TO}{pos p2:Pos}
def bF:PO X none yv:=by
 intro JM s σ H Q I h;show IO evalPart_none (Dl (xiU none I .none h))
def aO (h:xtf e):PO X (some e) (Bp te):=by
 intro JM s σ H Q I hw;show Tm evalPart_some (xc5 (h JM s σ H _ I hw) u)
 show xmK x;show xot i q q1;show xfJ t r1 ⟨some i,H1,I1,xlr,q⟩
def VA (X:Cx)(r:V->xce->xce->Hp->xeS):Prop:=
 ∀(JM:π) (s:JD) (σ:St) (H:Hp) x v vl vu lo hi sl Q,Pi->xlS->xDJ vl vu .none->xFJ lo->xFK hi->r x lo hi H Q->
  ∃T id,xLY xFt=pure (xmc id)/\s.TypeIs v T/\xjO (getItem v xxt) X Q s
def VA.or {r r':V->xce->xce->Hp->xeS}(h:VA X r)(h':VA X r'):VA X (λ x lo hi H Q=>r x lo hi H Q\/r' x lo hi H Q):=by
 intro JM s σ H x v vl vu lo hi sl Q I rx hs pl pu q;rcases q with q|q
 ·exact h JM s σ H x v vl vu lo hi sl Q I rx hs pl pu q
 ·exact h' JM s σ H x v vl vu lo hi sl Q I rx hs pl pu q
def tSl (r:V->xce->xce->Hp->xeS)(te:TE)(tl th:TO):TE:=λ σ H Q=>xhU λ x H1=>tl σ H1 λ l H2=>th σ H2 λ u H3=>r x l u H3 Q
def aS {r:V->xce->xce->Hp->xeS}(hr:VA X r)(he:xtf e)(hl:PO X lo tl)(hu:PO X hi th):Ρ (xt6 e (.Slice lo hi none p2)) (tSl r te tl th):=by
 intro JM s σ H Q I h;show xf4 (Subscript_ (xs8 _ I h v)) x;refine wpAny_Slice (thn (hl JM s1 σ H1 _ I1 q1) λ vl s2 ⟨l,H2,I2,pl,q2⟩=>xgv (hu JM s2 σ H2 _ I2 q2) vu s3);show xqz u H3 I3 pu q3;show Tm evalPart_none xdO;have I4:xgm H3 (xIn s3 (xwJ "slice" #[vl,vu,.none])):=I3.kept (t':=s3.toks) λ b ob q=>xdR q
 obtain⟨T,id,hT,ht,hg⟩:=hr JM (xIn s3 (xwJ "slice" #[vl,vu,.none])) σ H3 x v vl vu l u s3.heap.objs.size Q I4 r1 (Heap.IsSliceOf.new ..) pl pu q3;show xjO (subscriptTail e (.Slice lo hi none p2) v (.ref s3.heap.objs.size)) X Q (xIn s3 (xwJ "slice" #[vl,vu,.none]));exact tail_any ht hT hg (by with_unfolding_all rfl)
def cutV (xs:KB)(lo hi:xce):KB:=xb6 (xs.drop xtg) xCq xtg
def iq (xs:KB)(lo hi):xbz (cutV xs lo hi) xs.length:=by
 unfold cutV;rw [Dd,C6];exact xpe _ _ xlH
inductive rSlT (K:Frag) (x:V) (lo:xce) (hi:xce) (H:Hp) (Q:VK):Prop
 |mk (a:_) (xs:_) (h0:x=SZ) (h1:xkw a xs) (h2:¬(xtg=0/\xoO xCq)) (h3:∀p,xgU->Q Φ (xbE H p (cutV xs lo hi))):rSlT K x lo hi H Q
def zI:VA X (rSlT X.K):=by
 intro JM s σ H x v vl vu lo hi sl Q I rx hs pl pu h;obtain⟨a,xs,rfl,hx,hw,q⟩:=h;cases rx;show xkT its r ht hz hx;have hlen:xMa:=by show IO Dg r.length.symm
 show SC ⟨"tuple",_,Eu.lookup,ht.typeIs,?_⟩ (HT.LY ht hs pl pu (by show IO hlen hw) ?_ (by show IO hlen hz));show Tm hlen (xc4 xmb _ (I.laid (t':=s.toks) (o:=.tup (cutV xs lo hi)) (λ b ob q=>xdR q) P3 ?_) (q _ xjd));show xaC (CV (iq xs lo hi) hz) _ (xb6 (r.drop xtg) xCq xtg) (IsTup.new _ _)
universe s
noncomputable def ixN (n:Nat) (i:Int):xh2:=if 0≤i then xeW (i<n) (some i.toNat) none else if-xaf≤i then some (xim i n) else none
noncomputable def Vy {α:Type} (xs:xbF) (i:Int):Option α:=(xAA i).bind λ j=>xfX j
def rO {n:Nat}(h:Re (ixN n i) j):Re (seqIndex? i n) j/\j<n/\-xaf≤i/\i<n:=by
 unfold ixN at h;by_cases h0:0≤i
 ·rw [Dq h0] at h;by_cases h1:i<n
  ·rw [Dq h1] at h;have e:i.toNat=j:=DK h;show xaC (by rw [xII h1,e]) Z5 Z5 h1
  ·show Tl xng h h
 ·rw [Dc h0] at h;by_cases h1:-xaf≤i
  ·rw [Dq h1] at h;have e:xim i n=j:=DK h;show xaC (by rw [xIp h0 h1,e]) Z5 h1 Z5
  ·show Tl xng h h
def rG {α:Type}{xs:xbF}{v:α}(h:Vy xs i=xab):∃j,Re (seqIndex? i xs.length) j/\xfX j=xab/\xfb j/\-SL xs.length≤i/\xfb i:=by
 unfold Vy at h;cases e:xAA i with
 |none=>show Tl e h h
 |some j=>
  rw [e] at h;obtain⟨h1,h2,h3,h4⟩:=rO e;exact⟨j,h1,h,h2,h3,h4⟩
def aE {j:Nat}{v:α}(h:xfX j=xab):Vy xs (SL j)=xab:=by
 have hj:xfb j:=xco h;have e:Re (xAA (SL j)) j:=by
  unfold ixN;rw [xzE,Dq (F7.mpr hj)];simp
 show xpt Vy e h
def sD (b:JJ):Prop:=∀o i,xD7 b o i=xJp [o,i] o i
def IxR (X:Cx)(r:R2):Prop:=
 ∀(value slice:JJ) (JM:π) (s:JD) (σ:St) H x y v u Q,Pi->xlS->xhO->r x y H Q->
  xD7 slice v u=xJp [v,u] v u->xjO (subscriptTail value slice v u) X Q s
def MtR (X:Cx)(id:String)(r:V->KB->Hp->xeS):Prop:=
 ∀(JM:π) (s:JD) (σ:St) (H:Hp) x xs v us Q,Pi->xlS->xlx->r x xs H Q->
  xjO (xqN id (v::us)) X Q s
section
variable {X:Cx}{a b:JJ}{ta tb:TE}{pos:Pos}
def aQ {r:R2}(hr:IxR X r)(ha:xkr)(hb:xpQ b)(hs:sD b):Ρ (xt6 a b) (S5 r ta tb):=by
 intro JM s σ H Q I h;exact Subscript_ (binT ha hb I h λ v u s2 x y H2 I2 rx ry q=>hr a b JM s2 σ H2 x y v u Q I2 rx ry q (hs _ _))
inductive XO (K:Frag) (x:V) (y:V) (H:Hp) (Q:VK):Prop
 |mk (p:_) (xs:_) (i:_) (v:_) (h0:x=Φ) (h1:y=xcA) (h2:xfh p xs) (h3:Vy xs i=xab) (h4:Q v H):XO K x y H Q
inductive rIxT (K:Frag) (x:V) (y:V) (H:Hp) (Q:VK):Prop
 |mk (p:_) (xs:_) (i:_) (v:_) (h0:x=Φ) (h1:y=xcA) (h2:xkw p xs) (h3:Vy xs i=xab) (h4:Q v H):rIxT K x y H Q
def a6:IxR X (XO X.K):=by
 intro value slice JM s σ H x y v u Q I rx ry h hs;obtain⟨p,xs,i,z,rfl,rfl,hq,he,q⟩:=h;cases rx;show xjJ ry;show xg1 r pl hq;obtain⟨j,h1,h2,h3,h4,h5⟩:=rG he;obtain⟨w,ew,S6⟩:=r.get h2;show xzp hl;have hn:=lQ;have fin:xn9 w s:=xiU z I S6 q;by_cases h0:0≤i
 ·have hj:i.toNat=j:=by
   show UV (xII h5) h1 (DK h1)
  exact item_listR pl.isList h0 Z5 (by rw [hj];simpa using ew) fin hs
 ·have hj:xim i xL6=j:=by
   rw [xIp h0 h4] at h1;rw [Dg,<-hl];exact DK h1
  exact subscriptTail_builtinR pl.isList.typeIs slot_list_getitem.lookup
   (wpAny_getItem_list_neg pl.isList (HA h0) (by rw [Dg]<;>exact EZ (congrArg Neg.neg (congrArg Nat.cast hl.symm)) h4) Z5 (by rw [hj];simpa using ew) (xb2 fin)) hs
def bq:IxR X (rIxT X.K):=by
 intro value slice JM s σ H x y v u Q I rx ry h hs;obtain⟨p,xs,i,z,rfl,rfl,hq,he,q⟩:=h;cases rx;show xjJ ry;show xkT its r pl hz hq;obtain⟨j,h1,h2,h3,h4,h5⟩:=rG he;obtain⟨w,ew,S6⟩:=r.get h2;show xzp hl;have hn:=lQ;have fin:xn9 w s:=xiU z I S6 q;exact subscriptTail_builtinR pl.typeIs Eu.lookup
  (getItem_tuple pl Z4 Z4 (by rw [Dg,<-hl];exact h1) (by simpa using ew) (xb2 fin)) hs
def p9 (its:xaE)(n j)(u):Obj.mapSeq (·.setIfInBounds j u) xvk=xwx (xqV (its.set j u) n):=by
 simp [Obj.mapSeq]
theorem Inv.lst {JM:π}{σ:St}(I:Pi)(h:xa2=xb8):
  ∃its n,xsM/\xfK p xvk/\xmm:=by
 show xkk its n r e (xgC p h);exact⟨its,n,r,e,z⟩
def Inv.lstUpd {JM:π}{σ:St}{its its':xaE}(I:Pi)(h:xa2=xb8)
  (ho:xfK p xvk) (hf:f xvk=xwx (xMp n')) (r:Vals ys its') (hz:xEE) (t):
  xtx (xby H p ys) s (xIz f) t:=by
 have e:xjq (xIz f) p (xwx (xMp n')):=by
  rw [Heap.get?_update_self f ho (by rw [hf]<;>rfl),hf]
 refine I.write (by rw [h];trivial) xbZ (λ b u hb q=>xLH _ _ (G6 hb) q) (xbs e) ?_;exact⟨hz,its',n',r,e⟩
inductive WS (o:V) (i:V) (v:V) (H:Hp) (Q:xty):Prop
 |mk (p:_) (xs:_) (k:_) (j:_) (h0:o=Φ) (h1:i=.int k) (h2:xa2=xb8) (h3:Re (xAA k) j) (h4:Q (xby H p (xs.set j v))):WS o i v H Q
def jU:BS X WS:=by
 intro JM s σ H o i v ov iv u Q I ro ri rv h;obtain⟨p,xs,k,j,rfl,rfl,hp,hj,q⟩:=h;cases ro;show xjJ ri;obtain⟨its,n,r,ho,hz⟩:=I.lst hp;obtain⟨h1,h2,h3,h4⟩:=rO hj;show xzp hl;have hn:=lQ;have I':xgm (xby H p (xs.set j v)) (xi7 (xIz (Obj.mapSeq (·.setIfInBounds j u)))):=
  I.lstUpd hp ho (p9 its n j u) (r.set rv j) (by show IO IK hz) s.toks
 by_cases h0:0≤k
 ·have hk:k.toNat=j:=by
   show UV (xII h4) h1 (DK h1)
  exact PySem.W.ki_setAt ho h0 Z4 (by rw [Dg,<-hl];exact h4) (by show IO hk (xav I' q))
 ·have hk:xim k xL6=j:=by
   rw [xIp h0 h3] at h1;rw [Dg,<-hl];exact DK h1
  exact PySem.W.ki_setBack ho (HA h0) (by rw [Dg,<-hl];exact h3) Z4 (by show IO hk (xav I' q))
def sbP {i:Int}{n:Nat}(h:¬i<0):xGn (xvM i)=KF (xvM i.toNat):=by
 show xcI k (Int.eq_ofNat_of_zero_le (xIV h));rw [Dz,Int.max_eq_right (Int.le_min.2 ⟨xfl,xfl⟩)];rcases Nat.le_total k n with e|e
 ·rw [DL e,Int.min_eq_left (Int.ofNat_le.2 e)]
 ·rw [Fc e,Int.min_eq_right (Int.ofNat_le.2 e)]
def sbN {i:Int}{n:Nat}(h:i<0):xGn (xvM (i+n))=SL (xim i n):=by
 rw [Int.min_eq_left (Int.le_trans (Int.add_le_add_right (Jw h) n) (Int.le_of_eq (Jv _))),Int.toNat_eq_max,Int.max_comm]
def mi (lo hi:xce)(n):(xIJ hi none n).1=KF (HT.sIx n 0 lo)/\Μ (xIJ hi none n)=KF (HT.sIx n n hi)/\xaY (xIJ hi none n)=1:=by
 refine xdt ?_ ?_
 ·cases lo with
  |none=>simp [sliceBounds,HT.sIx]
  |some i=>
   simp only [sliceBounds,HT.sIx,Option.getD_none,show xcr>0 by decide,if_true];by_cases h:i<0
   ·simp only [h,if_true,sbN h]
   ·simp only [h,Ii,sbP h]
 ·cases hi with
  |none=>simp [sliceBounds,HT.sIx]
  |some i=>
   simp only [sliceBounds,HT.sIx,Option.getD_none,show xcr>0 by decide,if_true];by_cases h:i<0
   ·simp only [h,if_true,sbN h]
   ·simp only [h,Ii,sbP h]
def jZ (its:xaE)(lo hi):slicePick its.toArray lo hi none=(xb6 (its.drop (xIk 0 lo)) (xIk its.length hi) (xIk 0 lo)).toArray:=by
 obtain⟨h1,h2,h3⟩:=mi lo hi its.toArray.size;unfold slicePick;rw [h1,h2,h3];simp only [sliceRange_one,pick_run,Dg]<;>rfl
inductive rSlL (K:Frag) (x:V) (lo:xce) (hi:xce) (H:Hp) (Q:VK):Prop
 |mk (a:_) (xs:_) (h0:x=SZ) (h1:xeB) (h2:∀p,xgU->Q Φ (xby H p (cutV xs lo hi))):rSlL K x lo hi H Q
def aZ:VA X (rSlL X.K):=by
 intro JM s σ H x v vl vu lo hi sl Q I rx hs pl pu h;show xcN a xs hx q h;cases rx;show xg1 r ht hx;show xzp hlen;show SC ⟨"list",_,slot_list_getitem.lookup,ht.isList.typeIs,?_⟩ (wpAny_getItem_list_slice ht.isList hs pl pu .none Z6 ?_ (by rw [Dg]<;>lia));rw [jZ,<-hlen];refine xc4 xmb _ (I.laid (t':=s.toks) (λ b ob q=>xdR q) P3 ?_) (q _ xjd);exact⟨CV (iq xs lo hi) hz,_,0,xb6 (r.drop xtg) xCq xtg,xfk⟩
def flatV:xjC V
 | .non=>true
 | .bl _=>true
 | .int _=>true
 | .str _=>true
 |_=>false
def eqV:V->xjC V
 | .non,.non=>true
 | .bl a,.bl b=>a==b
 | .bl a,.int b=>xeW a 1 0==b
 | .int a,.bl b=>a==xeW b 1 0
 | .int a,.int b=>a==b
 | .str a,.str b=>a==b
 |_,_=>false
def vK (ry:xhO)(rx:xlS)(fy:NE (flatV y))(fx:NE (flatV x)):SeqAt.EqAt A s u v (eqV y x):=by
 cases y with
 |non=>
  cases ry;cases x with
  |non=>cases rx;exact SeqAt.EqAt.same _
  |bl b=>cases rx;exact SeqAt.EqAt.none_bool b
  |int b=>show xfJ t rx (SeqAt.EqAt.none_int b t)
  |str b=>show xfJ t rx (SeqAt.EqAt.none_str b t)
  |_=>exact xxi fx
 |bl a=>
  cases ry;cases x with
  |non=>cases rx;exact SeqAt.EqAt.bool_none a
  |bl b=>cases rx;exact SeqAt.EqAt.bool_bool a b
  |int b=>show xfJ t rx (SeqAt.EqAt.bool_int a b t)
  |str b=>show xfJ t rx (SeqAt.EqAt.bool_str a b t)
  |_=>exact xxi fx
 |int a=>
  show xcI t' ry;cases x with
  |non=>cases rx;exact SeqAt.EqAt.int_none a t'
  |bl b=>cases rx;exact SeqAt.EqAt.int_bool a t' b
  |int b=>show xfJ t rx (SeqAt.EqAt.int_int a t' b t)
  |str b=>show xfJ t rx (SeqAt.EqAt.int_str a t' b t)
  |_=>exact xxi fx
 |str a=>
  show xcI t' ry;cases x with
  |non=>cases rx;exact SeqAt.EqAt.str_none a t'
  |bl b=>cases rx;exact SeqAt.EqAt.str_bool a t' b
  |int b=>show xfJ t rx (SeqAt.EqAt.str_int a t' b t)
  |str b=>show xfJ t rx (SeqAt.EqAt.str_str a t' b t)
  |_=>exact xxi fx
 |_=>exact xxi fy
def gp:xt9 X "len" (λ xs H Q=>∃p ys,xs=xaO/\(xhs p ys\/Kk X.K H p ys)/\xkI ys.length):=by
 intro JM s σ H xs us Q I r h;show xcN p ys hq q h;show xlK u rx (gs r) rx;have hn:=lQ;rcases hq with hq|hq
 ·show xg1 r' pl hq;show xDk hlen;exact Calls.call_len_list pl.isList (by simp only [Dg]<;>lia) (xnB ys.length xeh ⟨xyG,by rw [Dg,hlen]⟩ q)
 ·show xkT its r' pl hz hq;show xDk hlen;exact len_tuple pl (by simp only [Dg]<;>omega) (xnB ys.length xeh ⟨xyG,by rw [Dg,hlen]⟩ q)
def bJ:eE X xtV (λ xs H Q=>∃p ys,xs=xaO/\(xhs p ys\/Kk X.K H p ys)/\∀l,Θ->Q xah (xiZ ys)):=by
 intro JM s σ H xs us Q I r h;show xcN p ys hq q h;show xlK u rx (gs r) rx;have fin:∀(its:xaE),Vals ys its->xEE->∀(h':JI) (c':Nat),(∀b o',xfK b o'->Re xcu o')->
   xq7 s.heap.objs.size {cls:=xtV,dict:=none,data:=xDt c',slots:=#[]}->xn9 xmb xfe:=λ its r' hz h' c' kp e=>
  xc4 xmb _ (I.laid kp P3 (show xxz _ h' _ (.lst ys) from⟨hz,its,c',r',e⟩)) (q _ xjd)
 rcases hq with hq|hq
 ·show xg1 r' pl hq;show xDk hlen;show xpI ho hc n hd pl.isList;exact call_list_seq p xbZ ho hc hd (λ h' c' kp e=>fin its r' hz h' c' kp e) (by simp only [Dg]<;>exact xJa hz)
 ·show xkT its r' pl hz hq;show xDk hlen;show xpI ho hc n hd pl;exact call_list_seq p xFe ho hc hd (λ h' c' kp e=>fin its r' hz h' c' kp e) (by simp only [Dg]<;>exact xJa hz)
def kb:eE X xAu (λ xs H Q=>∃p ys,xs=xaO/\((xhs p ys/\∀l,Θ->Q xah (xbE H l ys))\/(Kk X.K H p ys/\Q Φ H))):=by
 intro JM s σ H xs us Q I r h;show xjD p ys rfl h;show xlK u rx (gs r) rx;rcases h with⟨hq,q⟩|⟨hq,q⟩
 ·show xg1 r' pl hq;show xDk hlen;refine call_tuple_list pl.isList (LE h' kp) (by simp only [Dg]<;>exact xJa hz);have I1:xl9 xfe:=xFU kp;have I2:xgm (xbE H h'.objs.size ys) (xi7 (h'.push (xqv "tuple" xDt))):=
   xJ5 s.toks (λ b o e=>xep) P3 (show xxz _ _ _ (.tup ys) from⟨hz,its,r',IsTup.new _ _⟩)
  exact xc4 (.ref h'.objs.size) _ I2 (q _ xIs)
 ·show xkT its r' pl hz hq;exact call_tuple_same pl (xc4 Φ H I q)
def tyV (K:Frag)(T:String)(x:V)(H:Hp):Prop:=match x with
 | .str _=>T="str"
 | .int _=>T="int"
 | .ref p=>(T="list"/\∃xs,xfh p xs)\/(T="tuple"/\∃o,xor p Id/\o.cls=xAu/\Ζ o.dict)\/
   (T="dict"/\((∃JV,xfG p xoT)\/∃JV,xpT p))\/(T="set"/\∃S n,xfG p (.set S n))
 |_=>False
def zG {JM:π}{σ:St}{H:Hp}(I:Pi)(r:xlS)(ty:tyV X.K T x H):
  s.TypeIs v T/\∀a,v=SZ->∃ob,xfK a ob/\Ζ ob.dict:=by
 cases x with
 |str z=>
  show xjJ r;cases(xae T "str" ty);show xaI (typeIs_str s z t) (xuA e e)
 |int i=>
  show xjJ r;cases(xae T "int" ty);show xaI (typeIs_int s i t) (xuA e e)
 |ref p=>
  cases r;rcases ty with⟨rfl,xs,hq⟩|⟨rfl,o,hk,hc,hd⟩|⟨rfl,hk⟩|⟨rfl,S,n,hk⟩
  ·obtain⟨its,_,pl,_⟩:=I.list hq;refine xem pl.isList.typeIs a e;cases e;obtain⟨o,n,e,c,hd,_⟩:=pl;exact xdx e hd
  ·refine xem (xdx (I.kIn p o hk) hc) a e;cases e;exact xdx (I.kIn _ o hk) hd
  ·have z:∃o,xqX p/\o.ExactDict:=by
    rcases hk with⟨JV,hk⟩|⟨JV,hk⟩
    ·obtain⟨_,_,_,_,o,_,_,e,ex,_⟩:=xgC p hk;exact xdx e ex
    ·obtain⟨_,_,_,_,o,_,_,e,ex,_⟩:=xgC p hk;exact xdx e ex
   show xa8 o e ex z (xem (xdx e ex.1) a e2);cases e2;exact xdx e (Μ ex)
  ·obtain⟨o,_,_,_,e,ex,_⟩:=xgC p hk;refine xem (xdx e ex.1) a e2;cases e2;exact xdx e (Μ ex)
 |_=>show xeK ty
inductive WD (K:Frag) (T:String) (r:V->KB->Hp->xeS) (t:TA) (σ:St) (Q:VK) (x:V) (H1:Hp):Prop
 |mk (h0:tyV K T x H1) (h1:t σ H1 λ xs H2=>r x xs H2 Q):WD K T r t σ Q x H1
def tBM (K:Frag)(T:String)(r:V->KB->Hp->xeS)(to:TE)(t:TA):TE:=λ σ H Q=>to σ H λ x H1=>WD K T r t σ Q x H1
variable {o e:JJ}{es:xif}{to:TE}{t:TA}{name:Str}{apos QF:Pos}{T id:String}{r:V -> KB -> Hp -> xeS}
def cR (pa:PlainAttrs T)(slot:Slot T name id)(hty:typeOf (.builtin id)=pure (.type "method_descriptor"))(hm:MtR X id r)(ho:Ρ o to)(ha:xqm)
  (hbase:Ξ (attributeBase o name X.env xpL=xpL))
  (hfew:Ξ (NE ((backTo QF (xgl xdC)).all (λ x=> ! xgb)&&(xvf QF []).all (λ x=>(xgb).isSome)
   &&xfM (xip (xdC).length ([]:xI9)+xeW ([]:xI9).isEmpty 0 1) 30)))
  (hline:Ξ (NE (apos.endLine==QF.line))) (hs:Ξ (xns=xhS::xno)) (M0:Ξ ((backTo QF (starEach es X.env)).any (·.1)=false)):
  Ρ (xKU o name xdC [] QF) (tBM X.K T r to t):=by
 intro JM s σ H Q I h;refine wpAny_Call_method_late hbase hfew hline rfl (xc5 (xlG s H _ I h) v);obtain⟨x,H1,I1,r1,ty,q1⟩:=z9;show xbp h1 h2 (zG I1 r1 ty) ⟨T,id,pa,slot,hty,h1,h2,?_⟩;have hA:=ha QF JM s1 σ H1 _ I1 q1;rw [hs] at hA ⊢;refine Calls.callWith_builtin (by show(false||(backTo QF (starEach es X.env)).any (·.1))=false;rw [M0]<;>rfl) (Calls.evalArgs_plain ?_);exact xcW hA us s2 z9 (by show xqz vs H2 I2 r2 q2;exact hm JM s2 σ H2 x vs v us Q I2 r1 r2 q2)
universe s
def MtM (X:Cx)(id:String)(r:V->KB->Hp->xeS):Prop:=
 ∀(JM:π) (s:JD) (σ:St) (H:Hp) x xs v us Q,Pi->xlS->xlx->r x xs H Q->
  xjO (xqN id (v::us)) X Q s
theorem Vals.one:∀{x} {us},xh4 xbl->∃u,us=xi0/\xqd
 |_,_,.cons r .nil=>xbd r
theorem Vals.rep (h:xlx):∀k,Vals (xi6 k xs) (xi6 k us)
 |0=>.nil
 |k+1=>by
  rw [Ef,Ef,Es,Es];exact Vals.append h (Vals.rep h k)
theorem kK (its:xaE):∀k acc,
  List.foldl (λ x1 x2=>x1++x2) acc.toArray (xHS k)=(acc++xi6 k its).toArray
 |0,acc=>by simp
 |k+1,acc=>by
  have e:acc.toArray++its.toArray=(acc++its).toArray:=Z6;have e2:(acc++its)++xi6 k its=acc++xi6 (k+1) its:=by
   rw [Ef,Es,CQ]
  rw [<-e2,<-kK its k (acc++its),<-e,Ef,List.foldl_cons]
section
variable {X:Cx}{JM:π}{σ:St}{H:Hp}{s:JD}{l b:JB}{xs ys zs:KB}
def Inv.lset {its its':xaE}{n:Nat}{f:xrr->xrr}(I:Pi)(hH:H l=xb8)
  (e:xfK l xvk) (hf:f its.toArray=its'.toArray) (hv:Vals ys its') (hz:xEE):
  xtx (xiZ ys) s (s.heap.update l (Obj.mapSeq f)) t':=by
 show xoh q (PySem.IsL.update e f) hf q (I.write (by show IO hH trivial) xbZ (λ b' u hb hu=>xLH s.heap (Obj.mapSeq f) (G6 hb) hu) (xbs q) ?_);exact⟨hz,its',_,hv,q⟩
def Inv.lnew {its:xaE}{t':Nat}(I:Pi)(hv:Vals ys its)(hz:xEE):
  xtx (xby H s.heap.objs.size ys) s (xzY "list" xDt) t':=
 I.laid (xEd (xdR q)) P3 ⟨hz,its,0,hv,xfk⟩
theorem Inv.fresh (I:Pi):xH4:=xjd
def Inv.lstM (I:Pi)(hH:H l=xb8):xmm/\∃(its:xaE) (n:Nat),xsM/\xua xs.length/\xfK l xvk:=by
 show xkk its n r e (xgC l hH);exact⟨z,its,n,r,r.length,e⟩
def pd (h:xcV n):ρ (Builtin.List.listTooLong n):=by
 unfold Builtin.List.listTooLong;exact EQ (Jd.mpr h)
universe s
section
variable {X:Cx}
inductive OG (x:V) (vs:KB) (H:Hp) (Q:VK):Prop
 |mk (l:_) (xs:_) (y:_) (h0:x=xah) (h1:vs=xdD) (h2:H l=xb8) (h3:xz4 xs.length) (h4:xjN (xiZ (xs++xdD))):OG x vs H Q
def bu:MtM X "list.append" OG:=by
 intro JM s σ H x vs v us Q I rx rv h;obtain⟨l,xs,y,rfl,rfl,hH,hz,q⟩:=h;cases rx;show xot u ru rv.one;obtain⟨z,its,n,r,hl,e⟩:=xFL;show SC (xJS D1 e F.entry_list_append (F.args_list_append_2 _ _) (PySem.list_append l its.toArray n u (by show IO Dg (xig hl.symm (Dr hz)))) (xcO e)) (xc4 .non _ (I.lset (its':=its++xi0) hH e Z6 (r.append (xjn ru)) ?_) q);rw [CN,F5]
 assumption
inductive RO (x:V) (vs:KB) (H:Hp) (Q:VK):Prop
 |mk (l:_) (b:_) (xs:_) (zs:_) (h0:x=xah) (h1:vs=[xmJ]) (h2:H l=xb8) (h3:xal=Ι zs) (h4:xcV (xs.length+zs.length)) (h5:xjN (xiZ (xs++zs))):RO x vs H Q
def dI:MtM X "list.extend" RO:=by
 intro JM s σ H x vs v us Q I rx rv h;obtain⟨l,b,xs,zs,rfl,rfl,hH,hB,hz,q⟩:=h;cases rx;show xlK u ru rv.one ru;obtain⟨z,its,n,r,hl,e⟩:=xFL;obtain⟨z2,K6,n2,r2,Kg,e2⟩:=I.lstM hB;have hsz:xcV (its.toArray.size+K6.toArray.size):=by rw [Dg,Dg];lia
 have T4:¬NE (! its.toArray.isEmpty&&Builtin.List.listTooLong (its.toArray.size+K6.toArray.size)):=by
  rw [pd hsz,Bool.and_false];exact Dp
 show SC (xJS Fm e F.entry_list_extend (F.args_list_extend_2 _ _) (AutoSeq1.list_extend_list_list_0 l its.toArray n b K6.toArray n2 T4 (by show IO Dg (xKh z)) (Ek hsz)) (xac e e2)) (xc4 .non _ (I.lset (its':=its++K6) hH e Z6 (r.append r2) ?_) q);rw [CN]
 assumption
inductive XQ (x:V) (y:V) (H:Hp) (Q:VK):Prop
 |mk (l:_) (b:_) (xs:_) (zs:_) (h0:x=xah) (h1:y=xmJ) (h2:H l=xb8) (h3:xal=Ι zs) (h4:xcV (xs.length+zs.length)) (h5:∀p,xgU->Q Φ (xby H p (xs++zs))):XQ x y H Q
def bo:xiW .Add XQ:=by
 intro JM s σ H x y v u Q I rx ry h;obtain⟨l,b,xs,zs,rfl,rfl,hH,hB,hz,q⟩:=h;show xgk rx ry;obtain⟨z,its,n,r,hl,e⟩:=xFL;obtain⟨z2,K6,n2,r2,Kg,e2⟩:=I.lstM hB;refine PySem.P.add_list e e2 ?_ (by rw [Dg,Dg];omega);have ea:its.toArray++K6.toArray=(its++K6).toArray:=Z6;show IO ea (xc4 (.ref _) _ (I.lnew (r.append r2) (by rw [CN];assumption)) (q _ I.fresh))
inductive rRep (x:V) (y:V) (H:Hp) (Q:VK):Prop
 |mk (l:_) (k:_) (xs:_) (h0:x=xah) (h1:y=.int k) (h2:H l=xb8) (h3:-(2^63)≤k) (h4:k<2^63) (h5:xcV (xs.length*k.toNat)) (h6:∀p,xgU->Q Φ (xby H p (xi6 k.toNat xs))):rRep x y H Q
def xU {α:Type}(xs:xbF)(k):(List.replicate k xs).flatten.length=k*xs.length:=by
 induction k with
 |zero=>simp
 |succ k ih=>rw [Ef,Es,CN,ih,Nat.succ_mul,Hc]
def gR:xiW .Mult rRep:=by
 intro JM s σ H x y v u Q I rx ry h;obtain⟨l,k,xs,rfl,rfl,hH,h1,h2,hz,q⟩:=h;cases rx;show xjJ ry;obtain⟨z,its,n,r,hl,e⟩:=xFL;have hlen:xcV xJm:=by rw [Dg,<-hl];exact hz
 have hcap:¬xJm>(2^63-1)/8:=by
  have:xkx sizeLine≤(2^63-1)/8:=Z9;lia
 have VY:¬NE (! Builtin.List.listFitsIndex k):=by
  show IO (fitsIndex_both h1 h2) Dp
 have T4:¬NE (Builtin.List.listTooLong xJm):=by
  show IO (pd hlen) Dp
 have hnew:List.foldl (λ x1 x2=>x1++x2) #[] (xHS (xbS its.toArray.isEmpty 0 k.toNat))=xLf k.toNat its:=by
  have f0:∀m,List.foldl (λ x1 x2=>x1++x2) #[] (xHS m)=xLf m its:=λ m=>by
   show xgF (kK its m []) D3
  rw [f0];cases its with
  |nil=>simp
  |cons a r'=>rw [Dc Z6]
 show xfW (wpAny_binaryOp_repeat_ref Z9 (xmo e) (λ s'=>typeIs_int s' k t) noFill_list_mul F.fills_int_mul F.slot_int_rmul repeat_list F.slot_int_index.lookup
  (call_meets F.slot_int_rmul (typeIs_int s k t) F.entry_int_rmul (F.args_int_rmul_2 _ _) (int___rmul___int_list k t l its.toArray n)
   (xeu e (xmo e) (xJS F.slot_list_mul e F.entry_list_mul (F.args_list_mul_2 _ _) (AutoListH.list___mul___list_int_3 l its.toArray n k t VY hcap T4) (xcO e))))) hnew (xc4 (.ref _) _ (I.lnew (r.rep k.toNat) (by rw [xU,Em];exact hz)) (q _ I.fresh))
universe s
section
variable {prog:JE}{w:JF}{A:JH}{E:Κ}{s:JD}
set_option maxRecDepth 100000 in
universe s
section
variable {X:Cx}
universe s
universe L2
namespace Att
open PySem PySem.W PySem.Calls PyProof.Rows
def iB:∀ns vs,WellAll P h vs xLN->xuB vs:=by
 intro ns
 induction ns with
 |nil=>
  intro vs w;show xhH IY w w .nil
 |cons n ns ih=>
  intro vs w;rw [Ep] at w;cases w with
  |cons a b=>
   cases a;exact .cons _ _ (ih _ b)
def uK {l:OpenLaw}(hn:xHh n)
  (VR:NE (l.row.toRowW.claim.pre args)) (Ys:WellAll P h vals args):
  ∃a vs ns,vals=[xcX]/\args=[WData.list xLN]/\xhc a xCn/\xuB vs/\xBw n:=by
 have hsh:NE (WShape.hasAll [] args [.list .int]):=xMq.1;have hc:NE (l.pre.holds [] {args:=args}):=xMq.2;show xcN d r h1 h2 (hasAllW_cons hsh);obtain rfl:=hasAllW_nil h2;show xot xs h3 (hasW_list h1);show xcI ns (items_int h3);have hlen:xBw n:=by
  unfold OpenLaw.pre at hc;have h4:NE ((WTm.not (.lt (.lit (.int xaf)) (.len (.arg 0)))).holds [] {args:=[.list (ns.map .int)]}):=by
   have h4:=(holds_andW hc).1;show UV hn h4 h4
  show xoh h5 (condW_of h4 (w_not (w_lt w_lit (w_len_list (w_arg rfl))))) CM h5 (Ec (xcl q))
  have q':xaf<SL ns.length:=Z4
  first
   |(show UV (CY q') h5 (absurd h5 Z9))
   |(simp at h5;omega)
 cases Ys with
 |cons w1 w2=>
  cases w2;cases w1 with
  |list ho J7=>exact⟨_,_,ns,rfl,rfl,ho,iB ns _ J7,hlen⟩
def uk (l:OpenLaw)(args:List WData):NE (l.row.toRowW.claim.post args xqP args):=
 postW_of
  (show NE (WShape.has [] xqP .bool) by first|rfl|decide|simp [WShape.has,WShape.arms,WShape.armsAll])
  (xae ((WTm.eq .res (.lit xqP)).value [] {args:=args,res:=some xqP,after:=args}) (some (.bool (true==true))) (w_eq_bool (w_res rfl) w_lit)) rfl
def Qb {l:OpenLaw}
  (hn:xHh n) (ZK:xIF [])
  (call:∀(w:JF) (s₀ s₁:JD) (mg mb:W1) (fa:JB) (o:JK) (pm cd doc:JC) (a:JB) (vs:xaE) (ns:xjr),
   Ground q loose [] XP w s₀ mg mb s₁.heap->YP w s₁.heap->
   s₁.heap.get? fa=Id->xiQ (.func (docDef d.name d.params d.body d.scope pm cd doc))->s₁.heap.CodeRec cd d.name->mg d.name=ST fa->
   xIv a xCn->xuB vs->xBw n->s₁.gens=#[]->
   xqS (model l.prog w) callerA xKr xGT (λ r s'=>r=.ok xKx/\xKF/\s'.os=s₁.os/\xAp) s₁):
  WalkO q loose XP YP l.row.toRowW d [] (λ f vs=>xJb vs):=by
 intro w s₀ s₁ mg mb G Y fa o pm cd doc dV kV ho hd NL hD hmg hg args vals as VR hlay hrd Ys NK;obtain rfl:dV=.none:=Dflts.none hD ZK;obtain rfl:kV=.none:=Dflts.noKw hD;obtain⟨a,vs,ns,rfl,rfl,XY,hints,hlen⟩:=uK hn VR Ys;refine enter_call (xAH (call w s₀ s₁ mg mb fa o pm cd doc a vs ns G Y ho (fd_plain hd) NL hmg XY hints hlen hg) r s' hq);obtain⟨rfl,h2,h3,h4⟩:=hq;show xaC (.inl ⟨xqP,xqP,[],rfl,xfH,xqP,uk l _,λ _=>⟨List.Pairwise.nil,λ _ hm=>(nomatch hm)⟩⟩) h2 h3 h4
section
variable {prog:JE}{w:JF}{A:JH}{E:Κ}{s:JD}{K:Frag}
universe s
universe Att
namespace L2
open PySem PySem.Spec PyProof.Rows
def tF (h:xuB vs):Vals xdk vs:=by
 induction h with
 |nil=>show xg0
 |cons n t _ ih=>exact xjt (xbn t)
noncomputable def aD (s:JL) (j:Nat):JL:=match s with
 | .ClassDef _ _ _ body _ _ _ _ _ _ _=>body.getD j (.Pass ⟨0,0,0,0⟩)
 |_=>.Pass ⟨0,0,0,0⟩
noncomputable def aY (s:JL):Arguments:=match s with
 | .FunctionDef _ a _ _ _ _ _ _ _ _=>a
 |_=>{posonlyargs:=[],args:=[],vararg:=none,kwonlyargs:=[],kw_defaults:=[],kwarg:=none,defaults:=[]}
noncomputable def aV (s:JL):xu1:=match s with
 | .FunctionDef _ _ b _ _ _ _ _ _ _=>b
 |_=>[]
noncomputable def ai (s:JL):Scope:=match s with
 | .FunctionDef _ _ _ _ _ _ sc _ _ _=>sc
 |_=>{kind:=.function,names:=[],isGenerator:=false,isCoroutine:=false}
abbrev JU:WB:=λ _ _ _ _ _ _=>False
abbrev E0:XK:=xDV
def a7 {X:Cx}:d7 JU X E0:=λ _ _ _ _ _ _ _ h=>h.elim
structure J' (K:Frag)(x qual:Str)(st:JL)(f:JB)(fd:JG):Prop where
 ex:∃(oc:JC) (od:xhf) (kV doc pm:JC) (an:xhf) (JN ct:JC) (osl:xmB),
  fd=xxc x qual .none doc pm an JN ct/\xj7 f oc od fd osl/\xji K JN qual
 kp:xhT
section
variable {P:JE}{w:JF}{K:Frag}{mg:W1}{base:JI}
def J'.ok {x qual:Str}{st:JL}(F:Υ x qual st)(S:Ps N ps st)
  (MY:∀(JN:JC) (A:JH) (outer:xfN) (s:JD) (H:Hp) (vs:KB) (Q:VK) (E:XK),xAX k (xHX xqG f JN)->xgg->
   let X:=(xjz JU P w K mg N qual xqG f JN A outer s H E).nox;∃t,xhB xz2 t/\xyI H' xtB Q xlh H) (len:xFj (∀vs H Q E,xgg->xqY)):Α (k+1) ps sp:=by
 obtain⟨oc,od,kV,doc,pm,an,JN,ct,osl,rfl,lk,NL⟩:=F.ex;refine uU lk NL S len λ A outer s H vs Q E hr Ow=>?_
 show xa9 t h q (MY JN A outer s H vs Q E hr Ow) ⟨t,h.nox,q⟩
def fun_mk {st:JL}{kV doc pm JN ct:JC}(l:xj7 f oc od (xxc x qual .none doc pm an JN ct) osl)
  (c:xji K JN qual) (k:xhT):J' K x qual st f (xxc x qual .none doc pm an JN ct):=⟨⟨oc,od,kV,doc,pm,an,JN,ct,osl,rfl,l,c⟩,k⟩
universe s
def kO (h:xbH n):xz4 n:=xpm h
section
variable {X:Cx}
def pv (i){x:Str}{pos:Pos}(hN:Ξ (xvs=Χ))(hv:autoParam (xIx x) ZT)(hd:xff (x==xgn))
  (NL:xff (x==xMk)):Ρ xrp (LI i):=zM hN hv hd NL
universe s
def bd {A B:Prop}(h:B):xbS false A B:=by
 show xjP Dp h
def d8 {A B:Prop}(h:A):xbS true A B:=by
 show IO Τ h
def aU {c A B:Prop} [xA4] (h1:c->A)(h2:¬c->B):if c then A else B:=by
 by_cases h:c
 ·show xlo h (h1 h)
 ·show xjP h (h2 h)
def A1 {c A B:Prop} [xA4] (hc:c)(h:B):xbS (! decide c) A B:=by
 show IO (CY hc) (bd h)
def C' (H H':Hp):Prop:=∀b o,xal=Id->xdV=Id
def C'.refl (H:Hp):xcn H:=λ _ _ h=>h
def C'.trans {H H1 H2:Hp}(a:xnk)(b:xvV H2):xiq:=λ c o h=>b c o (a c o h)
def C'.seq {K:Frag}{H H':Hp}{a:JB}{xs:KB}(e:Β)(h:xeB):JS K H' a xs:=by
 rcases h with(h|⟨o,h⟩)|h
 ·show xCP (e _ _ h)
 ·show xaN (xcv o (e _ _ h))
 ·show xbX h
def y6 (n:Nat)(wi:TI)(g:TG)(te:TE):TE:=λ σ H Q=>xzC H λ J H1=>∀l,xfO l->∃W:xpZ,
 (∃m,xto xyA)/\∀i m ys σ' H',xpH->
  (xxW H'/\xak)\/(xyP H'/\∀x H2,xya H' x H2->xtt x λ σ3 H3=>xwg λ y H4=>
   xhJ=xen/\xh5/\xcH (m'<m/\xiw (i+1) (ys++xdD) xix))
def yO {K:Frag}{g:TG}{te:TE}{R:xty}(Pv:xaQ (xfi KB))(h0:Pv 0 [] xBm)(hl:∀i ys H,xnY->xqn->xeB)
  (hs:∀i x ys σ H,xde=Χ->xqn->xuM n->xlT λ σ3 H3=>xwg λ y H4=>xhJ=xen/\xh5/\xBN n/\xeF (ys++xdD) xix)
  (hd:∀ys H,xJj H->R H) (mg:∀x σ H (A B:xbM),(∀σ' H',xl3 σ'->xl4 σ')->xlT A->xlT B) (mt:∀σ H (A B:VK),(∀v H',xl3 v->xl4 v)->xhU A->xhU B):
  ∃W:xpZ,(∃m,xto xyA)/\∀i m ys σ' H',xpH->
   (xmO xlM H'/\R H')\/(xnC xlM H'/\∀x H2,xm9 xlM H' x H2->xtt x λ σ3 H3=>xwg λ y H4=>
    xhJ=xen/\xh5/\xcH (m'<m/\xiw (i+1) (ys++xdD) xix)):=by
 refine xac (λ i m ys σ H=>m=xgx i/\xnY/\xuM n/\xqn) ⟨xs.length,Z6,Ω,DI,h0⟩;rintro i m ys σ H ⟨rfl,hi,hn,p⟩;have q:=hl i ys H hi p;by_cases JO:xfb i
 ·show xhh (xcv ⟨xs,xs[i],q,by simp [JO]⟩ (Sc x H' y)) e y y;subst e;exact mg _ _ _ _ _ (λ σ3 H3 z=>mt _ _ _ _ (λ y H4 z9=>by show xvF z1 z2 z3 z4;exact⟨z1,z2,xgx (i+1),xnA,rfl,JO,z3,z4⟩) z) (xp4 x ys σ _ (y xs q) p hn)
 ·have e:xoO i:=xsU;show xpD e ⟨⟨xs,q,P3⟩,hd ys H p⟩
def ww (hc:xtS):xt9 X "sum" (λ xs H Q=>∃(p:JB) (ns:xjr),xs=xaO/\xhs p xdk/\xkI ns.sum):=by
 intro JM s σ H xs us Q I r h;show xcN p ns hq q h;show xlK u rx (gs r) rx;show xg1 rv pl hq;show xmL hi (cH rv) ys hx hi.allInts.items;have hl:xIA (intItems ys):=hx▸pl.isList;refine sum_intListG hc hl λ h' tk t' hk=>?_
 have e1:ns=xH2:=by
  rw [<-nums_intItems,<-hx];exact(xae xLo ns hi.numsOf).symm
 have e2:preSum xBI ys.size=ns.sum:=by
  rw [preSum_eq,Dv Z6,e1]
 show IO e2 (xnB ns.sum (I.kept hk) xbg q)
def iZ:xt9 X "isinstance" (λ xs H Q=>∃x c t b,xs=[x,.ty c]/\L9 X.K H x t/\Re (kitOne X.K t (.type c)) b/\xeX b):=by
 intro JM s σ H xs us Q I r h;obtain⟨x,c,t,b,rfl,ty,e,q⟩:=h;show xcN u v ru rv (ko r);cases rv;exact tS I ru ty e λ tk=>xhn b H (I.tok tk) q
def ix {X:Cx}:xgN .IsNot (λ x y H Q=>∃c d,x=.bl c/\y=.bl d/\xeX (c !=d)):=by
 intro JM s σ H x y v u Q I rx ry h;show xcN c d rfl q h;show xgk rx ry;exact isnot_bool (xhn (c !=d) H I q)
noncomputable def a8 (X:Cx) (N:xaj) (scope:Scope) (cl:xwa) (fp:xaa) (s:JD) (H:Hp):Cx where
 prog:=X.prog
 w:=X.w
 K:=X.K
 mg:=X.mg
 base:=X.base
 A:=X.A
 N:=N
 s₀:=s
 H₀:=H
 env:=compEnvC scope cl s.heap.objs.size X.env
 outer:=X.stack
 stack:=X.stack
 ex:=fp
 fn:=λ _=>false
 calm:=X.calm
 pn:=[]
 xe:=xoo
def XA (js:List xh2)(σ:St):St:=js.map λ o=>match o with
 |none=>none
 |some j=>xxD (σ[j]?)
structure T2 (X:Cx)(N:xaj)(scope:Scope)(cl:xwa)(js:List xh2):Prop where
 kind:xA2
 nocell:xkH xDl
 names:xkH (xkc=.local->xg8 xgb xdI)
 clos:xIq X.env=pure cl
 sub:∀x c,xw7=xaV->xdG=xaV
 has:∀x,(xIt x=xfC\/xCJ (xIt x))->∃c,xw7=xaV
 len:js.length=N.length
 slot:∀(i:Nat) (x:Str) (j:Nat),xa6 N=Χ->xad js (some j)->X.N[j]?=Χ/\xqE=xfC/\xIt x=xfC/\∀c,xdG=xaV->xw7=xaV
def tI {σ:St}{fp:xaa}(I:Pi)(C:T2 X N scope cl js)
  (hf:xpi H b) (JO:xjA (xg7 b)) (hn:xLF m) (hk:∀b o,xeA->xcu=Id):
  xsm xlX (XA js σ) H (xEK h' t'):=by
 have sub:∀{x} {c},(xlX).env.cells.lookup x=xaV->xdG=xaV:=λ {x c} e=>C.sub x c e
 refine⟨⟨I.ok.mod,C.kind,I.ok.glob,I.ok.blt,P3,λ x y c e1 e2=>I.ok.inj x y c (sub e1) (sub e2),λ x hx=>C.has x hx,λ x c e _=>(by cases e),I.qt,I.ok.frames,xbZ,
  xa3 ⟨DZ (JO b hb),λ x c e=>xtj xlA x c xCb⟩,I.bs,xEV I.sz,λ b o e hb=>?_,Sc b hb hs,I.stack,I.stkFree⟩,
  rfl,I.bare,xKi,⟨m,hn,λ i x v h1 h2 h3=>?_⟩,xda x c,xjd,λ x c e=>xxB c xCb,xtd,I.hok.kept hk,by unfold XA;show xes C.len⟩
 ·rcases xoC xlA with z|z
  ·exact xJv o e z
  ·show xaW (CZ xb4 (xEV z)) xmT
 ·show xl8 (xKf hs) z z
  ·exact Μ xlA z
  ·exact Μ xlA.2 z
 ·unfold XA at h2;rw [DX] at h2;cases ej:xa6 js with
  |none=>show Tl ej h2 h2
  |some o=>
   rw [ej] at h2;cases o with
   |none=>cases h2
   |some j=>
    have NN:xxD (σ[j]?)=xab:=DK h2;obtain⟨YI,US,OR,hc⟩:=C.slot i x j h1 ej;have ND:xaH σ j xab:=by
     cases e:σ[j]? with
     |none=>show Tl e NN NN
     |some w'=>show UV e NN (xtX NN)
    obtain⟨mo,hno,hl⟩:=I.loc;show xa8 u r l (hl j x v YI ND (.inr (.inl US))) (xac u r);rcases l with⟨q,_⟩|⟨_,c,ec,o,ho,hd⟩
    ·have q':xqE=xdI:=q;show Tl US q' q'
    ·show xbX ⟨.inl OR,c,hc c ec,o,hk c o ho,hd⟩
 ·obtain⟨v,o,ho,hd⟩:=xrB x xCb;show xaC v o (hk c o ho) hd
 ·exact xop (p∈([]:π)) hp Z6
def ql {σ:St}{σ':St}(I:Pi)(hf:xpi H b)(I':Inv xlX Ks σ' H' s'):xj5:=
 I.call' I'.os I'.base I'.hok I'.bare (xa3 ⟨xoC xlA,Μ xlA,xtj xlA,xrO xlA.2⟩)
def AT (js:List xh2)(wi:TI)(g:TG)(te:TE):TE:=λ σ H Q=>xzC H λ J H1=>∀l,xfO l->∃W:xpZ,
 (∃m,xto (XA js σ))/\∀i m ys σ' H',xpH->
  (xxW H'/\xak)\/(xyP H'/\∀x H2,xya H' x H2->xtt x λ σ3 H3=>xwg λ y H4=>
   xhJ=xen/\xh5/\xcH (m'<m/\xiw (i+1) (ys++xdD) xix))
def eW (js:List xh2)(wi:TI)(g:TG)(tt:TT)(te:TE):TE:=λ σ H Q=>xzC H λ J H1=>∀l,xfO l->∃W:xpZ,
 (∃m,xto (XA js σ))/\∀i m ys σ' H',xpH->
  (xxW H'/\xak)\/(xyP H'/\∀x H2,xya H' x H2->xtt x λ σ3 H3=>xyT H3 λ c H5=>xbS c (xup H5 λ y H4=>
   xhJ=xen/\xh5/\xcH (m'<m/\xiw (i+1) (ys++xdD) xix)) (xcH (m'<m/\xiw (i+1) ys H5)))
def wJ (n:Nat)(wi:TI)(g:TG)(tt:TT)(te:TE):TE:=λ σ H Q=>xzC H λ J H1=>∀l,xfO l->∃W:xpZ,
 (∃m,xto xyA)/\∀i m ys σ' H',xpH->
  (xxW H'/\xak)\/(xyP H'/\∀x H2,xya H' x H2->xtt x λ σ3 H3=>xyT H3 λ c H5=>xbS c (xup H5 λ y H4=>
   xhJ=xen/\xh5/\xcH (m'<m/\xiw (i+1) (ys++xdD) xix)) (xcH (m'<m/\xiw (i+1) ys H5)))
def wN (prog:JE)(w:JF)(A:JH)(elt JP iter:JJ)(cs:xif)(scope:Scope)(pos:Pos)(tw:Env->(xfT Bool)->xfT (Κ)):Prop:=
 ∀(R:xfT Result) (s:JD) (it acc:JC) (env:Env) (J:xfT Nat),(∀n z,J n z->xk4 (pyNext it) (λ r z1=>match r with
   |none=>R (.ok .next) z1
   |some v=>xk4 (letOwnedTupleGo JP it v) (λ _ z2=>xk4 (assign JP env v) (λ _ z3=>tw env (λ b z6=>xbS b (xk4 (xo1 elt) (λ x z4=>
     xk4 (xqN "list.append" [acc,x]) (λ _ z5=>∃m,m<n/\J m z5) (xw4 w A env (λ e s'=>R xq9 s')) z4) (xw4 w A env (λ e s'=>R xq9 s')) z6) (∃m,m<n/\J m z6)) (xw4 w A env (λ e s'=>R xq9 s')) z3) (xw4 w A env (λ e s'=>R xq9 s')) z2) (xw4 w A env (λ e s'=>R xq9 s')) z1) (xw4 w A env (λ e s'=>R xq9 s')) z)->
  ∀n,J n s->codeAny xyE A (.compLoop (xss [xrt JP cs 0]) 0 it acc env) R s
def twI (prog:JE)(w:JF)(A:JH)(U1:JJ):Env->(xfT Bool)->xfT (Κ):=λ env Q E z=>xxh (isTrue U1 env (xo1 U1)) z
def tw0:Env->(xfT Bool)->xfT (Κ):=λ _ Q _ z=>xyO z
def vt
    (h:(∃U1,cs=[U1]/\tw=twI prog w A U1)\/(cs=[]/\tw=tw0)):wN prog w A elt JP iter cs scope pos tw:=by
  intro R s it acc env J turn n h0
  refine codeAny_loop rfl J (Sc k z hz) n h0
  show xel ((compTurn (xss [xrt JP cs 0]) 0 it acc env).onRaise (xcb (do noteFrame q env;theTreesLotGoes q))) z
  refine wpAny_noted ?_
  show xhF compTurn_list (wpAny_standAt (CS (xdl (turn k z hz) (Sc r z1 g1) q q)))
  cases r with
  |none=>exact Dl g1
  |some v=>
    show xaG (xdl g1 (λ _ z2 g2=>CS (xdl g2 (λ _ z3 g3=>?_) q q)) q q)
    rcases h with⟨U1,rfl,rfl⟩|⟨rfl,rfl⟩
    · show xaG (wpAny_tests_one (xdl g3 (Sc b z6 g6) q q))
      cases b with
      |false=>exact Dl (xb2 g6)
      |true=>exact CS (CS (xdl g6 (λ x z4 g4=>CS (xdl g4 (λ _ z5 g5=>Dl (Dl (xb2 g5))) q q)) q q))
    · exact CS (xyo (CS (xdl g3 (λ x z4 g4=>CS (xdl g4 (λ _ z5 g5=>Dl (Dl (xb2 g5))) q q)) q q)))
def PTw (X:Cx)(tw:Env->(xfT Bool)->xfT (Κ))(tt:TT):Prop:=∀JM s σ H Q Q' E,Pi->tt σ H Q->(∀b s',(∃H',xj5/\xbr b)->Q' b s')->tw X.env Q' E s
def ttT:TT:=λ _ H Q=>xyO H
def yT:PTw X tw0 ttT:=λ _ _ _ H _ _ _ I h k=>xmX ⟨H,I,h⟩
def AX (ht:xhI U1 tt)(hx:∀e s,X.xe e s->False):PTw X (twI X.prog X.w X.A U1) tt:=
 λ JM s σ H Q Q' E I h k=>xdl (ht JM s σ H Q I h) (λ b s' z9=>by show xa9 H' x y z9 (xgY s' ⟨H',x,y⟩)) z (hx _ _ z).elim
def ni {N:xaj}{σ:St}:XA xFc σ=xDs N.length:=by
 show xpt XA EJ Js
def yU (LK:xA2)(Lu:xkH (xyR xkc))(LL:xkH xDl)(M1:xkH (xkc=.local->xg8 xgb xdI)):T2 X N scope [] xFc:=by
 have rl:xcq (xIg).names (x∈scope.names):=by
  intro x hx;obtain⟨⟨n,k⟩,m,e⟩:=E6.mp hx;have hk:xyR k:=Lu _ m;have:ρ (k==NameKind.free):=by simpa using hk
  simp [this] at e;show xa5 e m
 refine⟨LK,LL,M1,closureFor_none Lu,λ x c h=>(by cases h),LE x h,CM ..,λ i x j h1 h2=>?_⟩
 ·rcases h with h|h
  ·show xaW rfl (LL _ (rl _ (El h)))
  ·show xaW rfl (Lu _ (rl _ (El h)))
 ·rw [DX] at h2;cases e:xa6 N with
  |none=>show Tl e h2 h2
  |some y=>show Tl e h2 h2
def Bu {N:xaj}{te:TE}{σ:St}{H:Hp}(h:y6 N.length wi g te σ H Q):eW xFc wi g ttT te σ H Q:=by
 show xpt eW ni h
def Bt {N:xaj}{wi:TI}{g:TG}{tt:TT}(h:wJ N.length wi g tt te σ H Q):eW xFc wi g tt te σ H Q:=by
 show xpt eW ni h
def pT {X:Cx}{N:xaj}{scope:Scope}{σ:St}{RR:JC->JB->xfT Result}{Wx:xaa->JD->Hp->Κ}
  (hc:xoN) (Cp:T2 X N scope cl js)
  (hi:xza JP wi) (hg:∀fp s H,PG xlX JP g) (LR:wN X.prog X.w X.A elt JP iter cs scope pos tw) (ht:∀fp s H,PTw xlX tw tt) (he:∀fp s H,PE ((xlX).wish (Wx fp s H)) elt te)
  (I:Pi) (h:eW js wi g tt te σ H Q)
  (hR:∀(l C:JB) (H':Hp) (s':JD),xj5->xwi C->(∃m,s'.heap.Ns C m)->xak->RR xah C (.ok .next) s')
  (hE:∀(l:JB) (fp:xaa) (s3:JD) (H3:Hp) (e:JC) (s':JD),xgm H3 s3->(xpi H3 b)->Wx fp s3 H3 e s'->xi9 (noteFrame e X.env) (λ _ s'=>xIh xah xq9 s') (λ e s'=>xIh xah xq9 s') s'):
  xzt iter (λ x s₁=>xe7 (pyIter x) (λ it s₂=>xe7 (newList []) (λ acc s₃=>
   xe7 (newFunctionEnv scope X.env.globals cl [] X.env.qual none .none (some X.env)) (λ cenv s₄=>
    xKB X.A (.compStart (xss [xrt JP cs 0]) 0 it acc {cenv with scope:=xIg}) (RR acc cenv.locals) s₄) s₃) s₂) s₁) s:=by
 refine xcW (xvS s σ H _ I h) v s1 h1 (xcW h1 itv s2 h2 ?_)
 obtain⟨it,fp,tn,J,H2,e,I2,T,Mm,f2,hw⟩:=h2;subst e;have Kg:Ζ (H2 s2.heap.objs.size):=I2.hok.fresh P3;obtain⟨W,⟨m0,w0⟩,turn⟩:=hw s2.heap.objs.size Kg;have lt2:xax fp (b<s2.heap.objs.size):=xa3 (let⟨o,e,_⟩:=xyb _ Mm b hb;xb4)
 refine xDP;have I3:xgm (xby H2 s2.heap.objs.size []) {s2 with heap:=xD3 (xqV ([]:xaE))}:=
  I2.laid (t':=s2.toks) (λ b u e=>xep) P3 ⟨Ω,[],0,.nil,xfk⟩
 have KJ:tn 0 (xD3 (xqV ([]:xaE))):=xBV _ _ Mm λ b hb o e=>xep
 have lt3:xax fp (b<(xD3 (xqV ([]:xaE))).objs.size):=xa3 (by show IO Hu (Ic (lt2 b hb)))
 show xbB f3 (xpi (xby H2 s2.heap.objs.size []) b) (xa3 ⟨by show Ty (DZ (lt2 b hb)) (f2 b hb).1,(f2 b hb).2⟩) s2.heap.objs.size l;show xbb H2 l [] H3;have Xe:∃s3:JD,s3={s2 with heap:=xD3 (xqV ([]:xaE))}:=xbg;obtain⟨s3,e3⟩:=Xe;rw [<-e3] at I3;rw [<-e3];have KJ:tn 0 s3.heap:=by show IO e3 KJ
 have lt3:xax fp (b<s3.heap.objs.size):=by show IO e3 lt3
 clear e3;refine wpAny_newFunctionEnv Cp.nocell (by intro y hy;simp at hy) (Sc h4 YE hsb) Cp.kind;have kp:∀b o,s3.heap.get? b=Id->h4.get? b=Id:=λ b o e=>hsb.extBut b o xyh xep
 have I4:=tI (N:=N) (t':=xip s3.toks ([]:xtD JC)) I3 Cp f3 lt3 YE kp;have Ll:tn 0 h4:=xBV _ _ KJ λ b hb o e=>kp b o e
 have Qz:∀{H':Hp},(xjA xmS)->xjA (Km (xyl s3 H3) [] H' b):=λ hn b hb=>
  ⟨hn b hb,(I4.ok.exf b hb).1,I4.ok.exfs b hb,.inl hb,(I4.ok.exf b hb).2,λ p hp=>xop (p∈([]:π)) hp Z6⟩
 have loop:xKB X.A (.compLoop (xss [xrt JP cs 0]) 0 xme xah (compEnvC scope cl s3.heap.objs.size X.env)) (xIh xah) {s3 with heap:=h4,toks:=xip s3.toks ([]:xtD JC)}:=by
  refine LR _ _ _ _ _ (λ n s'=>∃i ys σ' H',xsm (xyl s3 H3) σ' H' s'/\xp3 s'.heap/\(xjA xmS)/\W i n ys σ' H') ?_ m0 ⟨0,[],_,_,I4,Ll,xa3 (f3 b hb).1,w0⟩;rintro n s5 ⟨i,ys,σ5,H5,I5,W4,Qj,w5⟩;rcases turn i n ys σ5 H5 w5 with⟨stop,q⟩|⟨go,step⟩
  ·show xhh (xgv (T.done (xyl s3 H3) rfl rfl rfl hc i [] s5 σ5 H5 _ I5 (Qz Qj) W4 stop) r s6) hr I6 z9;subst hr;exact hR _ _ _ _ (ql I3 f3 I6) (I3.fpOk P3 I6.free) (let⟨m,hn,_⟩:=I6.loc;⟨m,hn⟩) q
  ·show xeL (xgv (T.item (xyl s3 H3) rfl rfl rfl hc i [] s5 σ5 H5 _ I5 (Qz Qj) W4 go) r s6) u hr h6 z9;subst hr;refine xzq h6 s7 z9 ?_
   obtain⟨x,H7,I7,r7,y7,Y7,Sn⟩:=z9;have I7':=I7.pinned (Qz Sn) (xyb _ Y7);refine xdl (hg fp s3 H3 _ s7 σ5 H7 x u _ I7' r7 (step x H7 y7)) (λ _ s8 z9=>?_) z xAJ;show xvF σ8 H8 I8 q8;show xeL (ht fp s3 H3 _ s8 σ8 H8 _ _ _ I8 q8 (Sc bb s85 z85)) H85 I85 q85 z85;cases bb with
   |false=>
    rw [Dc Dp] at q85 ⊢;show xa8 m' hm' w9 q85 ⟨m',hm',i+1,ys,σ8,H85,I85.unpinned,xBV _ _ Y7 λ b hb o e=>(I85.pin (b,o) xtm).1,xfn,w9⟩;show xa9 o e d (xyb _ Y7 b hb) (Μ (I85.pin (b,o) xtm))
   |true=>
   rw [Τ] at q85 ⊢;refine EC (he fp s3 H3 _ s85 σ8 H85 _ (I85.wish _) q85) (Sc v s9 z9) λ e s' z=>hE l fp s3 H3 e s' I3 f3 z
   obtain⟨y,H9,I9',r9,Xj,hz9,m',hm',w9⟩:=z9;have I9:=I9'.unwish;refine xdl (bu (X:=xyl s3 H3) _ s9 σ8 H9 xah xdD xah [v] (λ z Hz=>Hz=xej H9 (ys++xdD)) I9 rfl (xjn r9) ⟨l,ys,y,rfl,rfl,Xj,hz9,rfl⟩) (λ _ U5 ⟨z,Hz,I10,_,eH⟩=>?_) z xAJ
   subst eH;refine⟨m',hm',i+1,ys++xdD,σ8,_,I10.unpinned,xBV _ _ Y7 λ b hb o e=>(I10.pin (b,o) xtm).1,xfn,w9⟩;show xa9 o e d (xyb _ Y7 b hb) (Μ (I10.pin (b,o) xtm))
 exact codeAny_compStart_list loop (T.self X.A 0 _ _ _ Ll loop)
def ju {X:Cx}{N:xaj}{scope:Scope}{cl:xwa}(hc:xoN)(Cp:T2 X N scope cl js)
  (hi:xza JP wi) (hg:∀fp s H,PG xlX JP g) (LR:wN X.prog X.w X.A elt JP iter cs scope pos tw) (ht:∀fp s H,PTw xlX tw tt) (he:∀fp s H,PE xlX elt te)
  (hs:xuf (∀x,xB3 x=xC3)):Ρ (xss [xrt JP cs 0]) (eW js wi g tt te):=by
 intro JM s σ H Q I h;show Tm eval_ListComp (wpAny_comprehension_free rfl hs Cp.clos Cp.kind Cp.names
  (pT hc Cp hi hg LR ht he I h ?_ λ _ _ _ _ _ _ _ _ z=>xAJ))
 rintro l C H' s' I' fC ⟨m,hn⟩ q;exact⟨m,hn,λ h' sb'=>xc4 xah H' (I'.turned (λ b o hb e=>xg6 sb' b hb e) fC.1 (Μ fC) (xoC fC) (xtj fC) (xrO fC.2)) q⟩
def xS (hc:xoN)(LK:xA2)(Lu:xkH (xyR xkc))(LL:xkH xDl)(M1:xkH (xkc=.local->xg8 xgb xdI))(hi:xza JP wi)(hg:∀fp s H,PG (xxb X N [] s H) JP g)(he:∀fp s H,PE (xxb X N [] s H) elt te)(hs:xuf (∀x,xB3 x=xC3)):
  Ρ (xss [xrt JP [] 0]) (y6 N.length wi g te):=
 λ JM s σ H Q I h=>ju hc (yU LK Lu LL M1) hi hg (vt xxV) (λ _ _ _=>yT) he hs JM s σ H Q I (Bu h)
def iT {X:Cx}{N:xaj}{scope:Scope}{elt:JJ}(hc:xoN)(LK:xA2)(Lu:xkH (xyR xkc))(LL:xkH xDl)(M1:xkH (xkc=.local->xg8 xgb xdI))(hi:xza JP wi)(hg:∀fp s H,PG (xxb X N [] s H) JP g)(ht:∀fp s H,PT (xxb X N [] s H) U1 tt)(he:∀fp s H,PE (xxb X N [] s H) elt te)(hs:xuf (∀x,xB3 x=xC3)):
  Ρ (xss [xrt JP [U1] 0]) (wJ N.length wi g tt te):=
 λ JM s σ H Q I h=>ju hc (yU LK Lu LL M1) hi hg (vt (.inl (xbd rfl))) (λ _ _ _=>AX (ht _ _ _) (xra z)) he hs JM s σ H Q I (Bt h)
def ji {X:Cx}{N:xaj}{scope:Scope}(hc:xoN)(Cp:T2 X N scope cl js)(hi:xza JP wi)(hg:∀fp s H,PG xlX JP g)(he:∀fp s H,PE xlX elt te)(hs:xuf (∀x,xB3 x=xC3)):
  Ρ (xss [xrt JP [] 0]) (AT js wi g te):=
 λ JM s σ H Q I h=>ju hc Cp hi hg (vt xxV) (λ _ _ _=>yT) he hs JM s σ H Q I (h)
def kM {lo:Int}{g:TG}{te:TE}{R:xty}(Pv:xaQ (KB->xbM))(h0:Pv 0 [] σ0 xBm)
  (hs:∀i ys σ H,i<k->xJk σ H->g (.int (lo+xkx i)) σ H λ σ3 H3=>xwg λ y H4=>xhJ=xen/\xh5/\xeF (ys++xdD) σ3 xix)
  (hd:∀ys σ H,Pv k ys σ H->R H) (mg:∀x σ H (A B:xbM),(∀σ' H',xl3 σ'->xl4 σ')->xlT A->xlT B) (mt:∀σ H (A B:VK),(∀v H',xl3 v->xl4 v)->xhU A->xhU B):
  ∃W:xpZ,(∃m,xto σ0)/\∀i m ys σ' H',xpH->
   (xmO (xsv k) H'/\R H')\/(xnC (xsv k) H'/\∀x H2,xm9 (xsv k) H' x H2->xtt x λ σ3 H3=>xwg λ y H4=>
    xhJ=xen/\xh5/\xcH (m'<m/\xiw (i+1) (ys++xdD) xix)):=by
 refine xac (λ i m ys σ H=>m=k-i/\i≤k/\xJk σ H) ⟨k,Z6,Ω,h0⟩;rintro i m ys σ H ⟨rfl,hi,p⟩;by_cases JO:i<k
 ·show xhh (xcv JO (Sc x H' y)) e y y;subst e y;exact mg _ _ _ _ _ (λ σ3 H3 z=>mt _ _ _ _ (λ y H4 z9=>by show xa9 z1 z2 z4 z9 ⟨z1,z2,k-(i+1),xnA,rfl,JO,z4⟩) z) (xp4 ys σ _ JO p)
 ·have e:i=k:=xsU;show xpD e (xpP (hd ys σ H p))
structure KW (K:Frag)(x qual:Str)(st:JL)(dV:JC)(f:JB)(fd:JG):Prop where
 ex:∃(oc:JC) (od:xhf) (kV doc pm:JC) (an:xhf) (JN ct:JC) (osl:xmB),
  fd=xxc x qual dV doc pm an JN ct/\xj7 f oc od fd osl/\xji K JN qual
 kp:xhT
def KW.ok {K:Frag}{st:JL}(F:xlI x qual st dV f fd)(S:Ps N ps st)
  (hb:∀(JN:JC) (A:JH) (outer:xfN) (s:JD) (H:Hp) (vs:KB) (Q:VK) (E:XK),xAX k (xHX xqG f JN)->xgg->
   let X:=(xjz JU P w K mg N qual xqG f JN A outer s H E).nox;∃t,xhB xz2 t/\xyI H' xtB Q xlh H) (len:xFj (∀vs H Q E,xgg->xqY)):Α (k+1) ps sp:=by
 obtain⟨oc,od,kV,doc,pm,an,JN,ct,osl,rfl,lk,NL⟩:=F.ex;refine uU lk NL S len λ A outer s H vs Q E hr Ow=>?_
 show xa9 t h q (hb JN A outer s H vs Q E hr Ow) ⟨t,h.nox,q⟩
def zd (P:JE)(w:JF)(h:JI)(d:JB)(a b:Int):Prop:=∃t t':Tok,h.MapOf (intKind P w) d (valueAt [(xko,xun a),(16,.int b t')])
def at8 (a b:JC):Re (valueAt [(xko,a),(16,b)] 8) a:=rfl
def Cs (a b:JC):Re (valueAt [(xko,a),(16,b)] 16) b:=rfl
def QG (K:Frag)(d:JB)(a b:Int):Prop:=ρ (xoE d)/\∃(t1 t2 t3 t4:Tok) (ep:Nat),xor d (some ⟨xEl,none,.dict #[⟨8,.int 8 t1,.int a t2⟩,⟨16,.int 16 t3,.int b t4⟩] ep,#[]⟩)
def QG.map {K:Frag}{d:JB}{a b:Int}{h:JI}(P:JE)(w:JF)(T:QG K d a b)(X:xvo):zd P w h d a b:=by
 obtain⟨_,t1,t2,t3,t4,ep,e⟩:=T;refine⟨t2,t4,_,_,ep,X _ _ e,xfE rfl rfl,rfl,?_,?_⟩
 ·intro en hen;have hen':en=⟨8,.int 8 t1,.int a t2⟩\/en=⟨16,.int 16 t3,.int b t4⟩:=by simpa using hen
  show xiu hen'
  ·exact⟨8,intKind_is P w 8 t1,by show xCH (xko=hashInt 8)⟩
  ·exact⟨16,intKind_is P w 16 t3,by show xCH (SL 16=hashInt 16)⟩
 ·intro k;show findBy Value.isInt _ k=_;unfold findBy valueAt;by_cases h8:k=8
  ·subst h8;simp [Value.isInt]
  ·by_cases YW:k=16
   ·subst YW;simp [Value.isInt]
   ·have e1:¬xko=k:=LT (h8 z.symm)
    have e2:¬SL 16=k:=LT (YW z.symm)
    simp [Value.isInt,e1,e2]
def Cl (P:JE)(w:JF)(d:JB)(a b:Int):HO:=.ext λ h=>zd P w h d a b
def Sq2 (X:Cx)(H:Hp)(d:JB)(a b:Int):Prop:=QG X.K d a b\/xfG d (Cl X.prog X.w d a b)
def Inv.map2 {X:Cx}{JM:π}{σ:St}{H:Hp}{s:JD}{d:JB}{a b:Int}(I:Pi)(h:Sq2 X H d a b):zd X.prog X.w s.heap d a b:=by
 rcases h with h|h
 ·exact h.map _ _ I.kIn
 ·exact(xgC d h).1
inductive rIx2 (X:Cx) (x:V) (y:V) (H:Hp) (Q:VK):Prop
 |mk (d:_) (i:_) (a:_) (b:_) (h0:x=xm2) (h1:y=xcA) (h2:Sq2 X H d a b) (h3:((i=8/\xkI a)\/(i=16/\xkI b))):rIx2 X x y H Q
def mq {X:Cx}:IxR X (rIx2 X):=by
 intro value slice JM s σ H x y v u Q I rx ry h hs;obtain⟨d,i,a,b,rfl,rfl,hm,hq⟩:=h;cases rx;show xjJ ry;obtain⟨t1,t2,hm⟩:=I.map2 hm;rcases hq with⟨rfl,q⟩|⟨rfl,q⟩
 ·exact xLc hm.typeIs (wpAny_getItem_of (xJc _ _ _) hm (at8 _ _) (xnB a xeh xbg q)) hs
 ·exact xLc hm.typeIs (wpAny_getItem_of (xJc _ _ _) hm (Cs _ _) (xnB b xeh xbg q)) hs
def lE {X:Cx}:xgN .NotIn (λ x y H Q=>∃d i a b,x=xcA/\y=xm2/\QG X.K d a b/\(i=8\/i=16)/\xeX false):=by
 intro JM s σ H x y v u Q I rx ry h;obtain⟨d,i,a,b,rfl,rfl,hT,hi,q⟩:=h;show xkj;cases ry;show xa8 t1 t2 hm (hT.map X.prog X.w I.kIn) (wpAny_notIn_of (xJc _ i t) hT.1 hm ?_);show xiu hi
 ·exact xhn false H xeh q
 ·exact xhn false H xeh q
def wU {X:Cx}(hu:xmy 64<cLine):xgN .Eq (λ x y H Q=>∃(p q:JB) (ns ms:xjr),x=Φ/\y=xva/\xhs p xdk/\xhs q xAq/\xeX (xcp ns ms)):=by
 intro JM s σ H x y v u Q I rx ry h;obtain⟨p,q,ns,ms,rfl,rfl,h1,h2,k⟩:=h;show xgk rx ry;show xg1 rv pl h1;show xqy K6 Qd U7 NU h2;exact PySem.W.eq_intsK pl.isList (cH rv) U7.isList (cH Qd) hu (xhn _ H I k)
universe L2
namespace QQ
open PySem
universe QQ
set_option maxHeartbeats 8000000
namespace L2
open PySem PySem.Spec PyProof.Rows QQ
noncomputable abbrev bmV:xaE:=[.type "ValueError",.type "Exception",xLz,xDX]
def ExC (K:Frag)(C:JB):Prop:=NE (excIn K C bmV "ValueError.__new__")
structure ExI (K:Frag)(C:JB):Prop where
 ga:xk3 K "__getattribute__" (xmc "BaseException.__getattribute__")
 gt:xk3 K "__getattr__" none
 hd:xEF K C
 ha:xk3 K "__class__" xLu
 hn:Re (specialIn K xDy "__get__") xK0
 htk:xpd (takesIn K xDy)
 hm:xpd (mroIn K C xDX)
 be:xpd (mroIn K C xLz)
def oF {K:Frag}{g:TG}{tt:TT}{te:TE}{R:xty}(Pv:xaQ (xfi KB))(h0:Pv 0 [] xBm)(hl:∀i ys H,xnY->xqn->xeB)
  (hs:∀i x ys σ H,xde=Χ->xqn->xuM n->xlT λ σ3 H3=>xyT H3 λ c H5=>xbS c (xup H5 λ y H4=>xhJ=xen/\xh5/\xBN n/\xeF (ys++xdD) xix) (xBN n/\Pv (i+1) ys H5))
  (hd:∀ys H,xJj H->R H) (mg:∀x σ H (A B:xbM),(∀σ' H',xl3 σ'->xl4 σ')->xlT A->xlT B) (mtt:∀σ H (A B:xu5),(∀v H',xl3 v->xl4 v)->tt σ H A->tt σ H B) (mt:∀σ H (A B:VK),(∀v H',xl3 v->xl4 v)->xhU A->xhU B):
  ∃W:xpZ,(∃m,xto xyA)/\∀i m ys σ' H',xpH->
   (xmO xlM H'/\R H')\/(xnC xlM H'/\∀x H2,xm9 xlM H' x H2->xtt x λ σ3 H3=>xyT H3 λ c H5=>xbS c (xup H5 λ y H4=>
    xhJ=xen/\xh5/\xcH (m'<m/\xiw (i+1) (ys++xdD) xix)) (xcH (m'<m/\xiw (i+1) ys H5))):=by
 refine xac (λ i m ys σ H=>m=xgx i/\xnY/\xuM n/\xqn) ⟨xs.length,Z6,Ω,DI,h0⟩;rintro i m ys σ H ⟨rfl,hi,hn,p⟩;have q:=hl i ys H hi p;by_cases JO:xfb i
 ·show xhh (xcv ⟨xs,xs[i],q,by simp [JO]⟩ (Sc x H' y)) e y y;subst e;refine mg _ _ _ _ _ (λ σ3 H3 z=>mtt _ _ _ _ (Sc c H5 z) z) (xp4 x ys σ _ (y xs q) p hn);cases c with
  |true=>
   rw [Τ] at z ⊢;exact mt _ _ _ _ (λ y H4 z9=>by show xvF z1 z2 z3 z4;exact⟨z1,z2,xgx (i+1),xnA,rfl,JO,z3,z4⟩) z
  |false=>
   rw [Dc Dp] at z ⊢;exact⟨xgx (i+1),xnA,rfl,JO,xd3,xgV⟩
 ·have e:xoO i:=xsU;show xpD e ⟨⟨xs,q,P3⟩,hd ys H p⟩
universe L2
namespace L2
open PySem
def zj {dV kV doc pm JN ct oc:JC}
    (lk:xj7 f oc od (xHn qual body scope dV kV doc pm an JN ct) osl) (NL:xji K JN qual) (S:i' N ps scope)
  (len:∀vs H Q E,xgg->xqY)
  (MY:∀(A:JH) (outer:xfN) (s:JD) (H:Hp) (vs:KB) (Q:VK) (E:XK),xgg->
   ∃t,PSs (xjz CX P w K mg N qual scope f JN A outer s H E) body t/\xyI H' xtB Q xlh H):
  xg3 P w K CX 0 f (xHn qual body scope dV kV doc pm an JN ct) ps sp:=by
 refine⟨len,λ A outer s H args us vs Q E hr e0 hb r Ow=>?_⟩;have hl:=len _ _ _ _ Ow;have KX:xmn:=e0.mod.kin.keeps λ b o e=>(xHp o e).1
 have lim:s.heap.NoLimit:=e0.mod.nolimit.keeps λ b o e=>(xHp o e).1
 have LK:∀y∈xxf,xg8 xgP xdI\/(xg8 xgP xfC/\xjo ((xH6 xdq []).lookup xgP)):=λ⟨n,v⟩ hy=>by
  rcases S.par n (HK hy).1 with q|q
  ·show xaN q
  ·exact xcv q (HY _ _ _ (.inl q))
 show SC (xK5 (KX _ _ lk) rfl S.co S.gen rfl (codeRec_of KX NL) (xvU _ _ _ ?_)) (xK1 LK λ env he s1 x=>?_)
 subst he;show xeL ⟨xLn,codeAny_func ?_⟩ t ht hq (MY A outer s H vs Q E Ow);have I:xsm (xjz CX P w K mg N qual scope f JN A outer s H E) xlh H s1:=kG S e0 hl r x;refine EC (ht [] s1 xlh H _ I hq) (Sc fl s' hs) λ e s' hs=>hs
 have fin:∀{σ'} {H'} {v} {u},xsm (xjz CX P w K mg N qual scope f JN A outer s H E) σ' H' s'->xdc->xbr v->CE outer P w H s Q u s':=
  λ {σ' H' v u} J rv q=>⟨v,H',J.os,J.bare,J.base,J.hok,rv,q⟩
 cases fl with
 |ret u=>
  obtain⟨v,σ',H',J,rv,q⟩:=hs;exact fin J rv q
 |next=>
  obtain⟨σ',H',J,q⟩:=hs;exact fin (v:=V.non) J rfl q
 |brk=>
  show xEh q hs q
 |cont=>
  show xEh q hs q
def J'.ok0 (F:Υ x qual st)(S:Ps N ps st)
  (MY:∀(JN:JC) (A:JH) (outer:xfN) (s:JD) (H:Hp) (vs:KB) (Q:VK) (E:XK),xgg->
   let X:=(xjz JU P w K mg N qual xqG f JN A outer s H E).nox;∃t,xhB xz2 t/\xyI H' xtB Q xlh H) (len:xFj (∀vs H Q E,xgg->xqY)):Α 0 ps sp:=by
 obtain⟨oc,od,kV,doc,pm,an,JN,ct,osl,rfl,lk,NL⟩:=F.ex;refine zj lk NL S len λ A outer s H vs Q E Ow=>?_
 show xa9 t h q (MY JN A outer s H vs Q E Ow) ⟨t,h.nox,q⟩
universe L2
namespace L2
open PySem PySem.Spec PyProof.Rows QQ
def aq (h:∀R:xbM,(∀σ H,u D σ H->R σ H)->t {D with nx:=R} σ H):Bh t u D σ H:=h (u D) (xra z)
inductive rNeL (K:Frag) (x:V) (y:V) (H:Hp) (Q:VK):Prop
 |mk (p q:JB) (ns ms:xjr) (h0:x=Φ) (h1:y=xva) (h2:xfh p xdk) (h3:xfh q xAq) (h4:xeX (! xcp ns ms)):rNeL K x y H Q
def mH {X:Cx}(hu:xmy 64<cLine):xFW (rNeL X.K):=by
 intro JM s σ H x y v u Q I rx ry h;obtain⟨p,q,ns,ms,rfl,rfl,h1,h2,k⟩:=h;show xgk rx ry;show xg1 rv pl h1;show xqy K6 Qd U7 NU h2;exact PySem.W.ne_intsK pl.isList (cH rv) U7.isList (cH Qd) hu (xhn _ H I k)
def dS (xs)(k:Nat):xvI xs xka=xs.take k:=by
 unfold cutV;rw [HT.M8,HT.Kw,EY,Gr];by_cases h:xqH k
 ·rw [DL h]
 ·rw [Fc (IE h),DV,Dv (IE h)]
def dm (xs)(k:Nat):xyc xs (xrk k)=xs.drop k:=by
 unfold cutV;rw [HT.M8,HT.Kw];by_cases h:xqH k
 ·rw [DL h,<-C6,DV]
 ·rw [Fc (IE h),IB,List.drop_of_length_le (IE h),List.take_nil]
def lz (xs:KB){m n:Nat}(hm:xbx m)(hn:xqH n):xou xs (some xhC) xdW=xb6 (xs.drop m) n m:=by
 unfold cutV;rw [HT.Kw,HT.Kw,DL (show xqH m from CV hm hn),DL hn]
def fX {a x:Str}{b c:JB}(h:xEo [(a,b)]=xaV):x=a/\c=b:=by
 rw [List.lookup_cons] at h;cases hx:x==a with
 |true=>show UV hx h ⟨eq_of_beq hx,xB5 h⟩
 |false=>show Tl hx h h
def none_of (s:Β)(h:Ζ (H' q)):XV q:=by
 cases e:H q with
 |none=>rfl
 |some o=>show Tl xs6 h h
def ak (h:xgU):xcn (xfd p o):=λ b u e=>by
 show xf9 h e
def u7:∀x,NE (flatV x)->NE (eqV x x):=by
 intro x h;cases x<;>simp [flatV,eqV] at h ⊢
def iH (hb:PSs X.nox body tb):xlC (.Try body (h₀::hs) [] [] pos) tb:=by
 intro JM s σ H D I h;refine wpAny_Try_except (EC (xsu s σ H D (I.wish _) h) (Sc f s1 q) λ e s1 q=>q.elim);have q':SP X JM D f s1:=SP.unwish q;cases f with
 |next=>exact HP q'
 |brk=>exact q'
 |cont=>exact q'
 |ret u=>exact q'
universe L2
namespace QQ
open PySem PyProof.Rows
def eg {items}(hq:xn6)
  (hit:xH1 l i) (hl:xIm l) (hx:Ζ xFh)
  (hE:∀h' e,xtI it h'->(∃o,xm3 e Id/\o.cls=xAa)->E xk7 xfe):
  xd7 (Builtin.SmallTypes.nextOf xme):=by
 show xmN o ho hc hd hit;obtain⟨ol,YB,_,nl,Vt⟩:=hl;show xjB Builtin.SmallTypes.nextOf (xIT HV (xJ0 HV entry_listiter_next ?_ xLv));show xiy (xqh 0 s) (xvj ho hd);show xpc (xt5 l) s;rw [Dc (show¬(NE (xt5 l)) from Dp)];show xu7 (xqh 1 s) (xvj ho hd) (xel (xxu xah _) s) (Gb YB Vt ?_);simp only [Dz,hx];show xaG (F3 (CS (xD6 ho Z6 ?_)));have V5:=xHI (h:=s.heap) it;refine xJs (λ a o' us e d' z'=>xJt o' (jx ho hd Z6 e d' z') e) (λ h' e k he=>?_)
 exact hE _ e (λ b ob hb e1=>xsV (xJu ob hb e1)) he
def qr (hq:xn6)(D:xKj TI TO i1 i2 l1 l2)
  (hz:xyU s.heap TI TO .none) (Qv:xEp TI xBy xBz) (QX:xEp TO a b)
  (h1:xLO l1 k1) (h2:xLP l2 k2) (Mn:s.heap.IsList l1 xs) (Kg:s.heap.IsList l2 ys) (NP:Ζ (xfX k1)\/Ζ ys[k2]?)
  (hE:∀h' e,(∀c o,Ν z->xv9->xv8->xv7->xqX c->xm3 c Id)->(∃o,xm3 e Id/\o.cls=xAa)->E xk7 xfe):
  xd7 (Builtin.«zip.__next__» (xid [xuU])):=by
 show xiy (xzx xuU 2 _) (xvR hz);show xzx xuU 3 _;show xc1 (xvR hz) (Gb Qv rfl ?_);show xiy (xel (Builtin.SmallTypes.ownedTupleIsFree xuU>>= _) _) ?_;show xjB Builtin.SmallTypes.ownedTupleIsFree (EL hz rfl rfl xdO);simp only [if_true];show xc1 (F3 ?_) (xvR hz);show xaG (xH7 hz (Sc h₁ hz₁ Tc));replace hz₁:xyU h₁ TI TO .ellipsis:=hz₁;have Vk:Hq A h₁:=hq.keep λ c o us e d z'=>xEW _ (jx hz rfl Z6 e d z') e
 show xaG ?_;simp only [List.zipIdx_cons,List.zipIdx_nil,List.forIn_cons,List.forIn_nil];show xaG (CS xLQ);show xel (xMd xBy _) _;cases hx:xfX k1 with
 |none=>
  show xeL (CS (eg Vk xKE (xLZ D.l1z) hx λ h₂ e Vg he=>?_)) oe Xh ZM he;have hz₂:xyU h₂ TI TO .ellipsis:=Vg _ _ D.i1z.symm hz₁;have hez:e≠z:=λ x=>by show xba x hz₂ Xh Xh;simp at ZM
  refine xH7 hz₂ λ h₃ _ Wg=>hE h₃ e (λ c o c1 _ c3 _ x=>xA5 _ c1 (Vg _ _ c3 (xEW _ c1 x))) ⟨oe,xA5 _ hez Xh,ZM⟩
 |some x=>
  have hy:Ζ ys[k2]?:=by rcases NP with h|h;show xhH hx h h h
  show xaG (wpAny_nextOf_list_item xKE (xLZ D.l1z) hx λ h₂ h1₂ Vg=>xdO);have h1₁:=xKE;obtain⟨oi,hoi,_,hdi⟩:=id h1₁;have LH:Hq A h₂:=Vk.keep λ c o us e d z'=>xEX _ (jx hoi hdi Z6 e d z') e
  have Ya:IsPair h₂ TO a b:=xEX _ D.TOi1 (xEW _ D.TOz QX);show xc1 (Gb Ya rfl ?_) (wpAny_updateSeq_pair Ya (Sc h₃ hTO₃ Wg));have hq3:Hq A h₃:=LH.keep λ c o us e d z'=>xA5 _ (λ x=>by show xba x Ya e e;cases d) e
  show xc1 (Ig xdO) (CS xLQ);show xel (xMd xBz _) _;show xeL (CS (eg hq3 (((h2.extBut Tc.extBut D.i2z).extBut Vg.extBut D.i12.symm).extBut Wg.extBut D.TOi2.symm)
   (((Kg.extBut Tc.extBut D.l2z).extBut Vg.extBut D.l2i1).extBut Wg.extBut D.l2TO) hy λ h₄ e hs₄ he=>?_)) oe Xh ZM he;have hz₄:xyU h₄ TI TO .ellipsis:=hs₄ _ _ D.i2z.symm (xA5 _ D.TOz.symm (xEX _ D.i1z.symm hz₁));have hez:e≠z:=λ x=>by show xba x hz₄ Xh Xh;simp at ZM
  refine xH7 hz₄ λ h₅ _ hs₅=>hE h₅ e (λ c o c1 c2 c3 c4 x=>hs₅.extBut _ _ c1 (hs₄ _ _ c4 (xA5 _ c2 (xEX _ c3 (xEW _ c1 x))))) ⟨oe,hs₅.extBut _ _ hez Xh,ZM⟩
def uC (hq:xn6)(D:xKj TI TO i1 i2 l1 l2)
  (hz:xyU s.heap TI TO .none) (Qv:xEp TI xBy xBz) (QX:xEp TO a b)
  (h1:xLO l1 k1) (h2:xLP l2 k2) (Mn:s.heap.IsList l1 xs) (Kg:s.heap.IsList l2 ys) (NP:Ζ (xfX k1)\/Ζ ys[k2]?)
  (hQ:∀h',(∀c o,Ν z->xv9->xv8->xv7->xqX c->xm3 c Id)->xyM xfe):xd7 (pyNext xuU):=by
 have hT:s.TypeIs xuU "zip":=xmo hz;show xjB pyNext (Hj (EM hT PySem.F.slot_zip_next
  (FO PySem.F.slot_zip_next hT PySem.F.entry_zip_next (qr hq D hz Qv QX h1 h2 Mn Kg NP λ h' e hk he=>?_) (PySem.F.args_zip_next_1 _))))
 show xa8 o ho hc he (CS (HB (xdx ho hc) Il ?_));exact xzb _ hk
universe QQ
namespace L2
open PySem PySem.Spec PyProof.Rows QQ
def Itz (K:Frag)(a b:JB):It:=
 ⟨λ i H=>∃xs ys x y,xeB/\xfh b ys/\xde=Χ/\xad ys y,
  λ i H v H'=>∃p x y,xgU/\v=Φ/\H'=xbE H p [x,y]/\(∀xs,xeB->xde=Χ)/\∀ys,xfh b ys->xad ys y,
  λ i H=>∃xs ys,xeB/\xfh b ys/\(xs.length≤i\/ys.length≤i)⟩
def wy {K:Frag}{es:xif}{k:Nat}{pos:Pos}{a b z TI TO i1 i2:JB}(D:xKj TI TO i1 i2 a b):
  xC2 w K (xxC k pos) (Itz K a b) [z,TI,TO,i1,i2] z (λ i h=>xyU h TI TO .none/\IsPair h TI xBy xBz/\(∃u v,IsPair h TO u v)/\xE5 i1 a/\xE5 i2 b) where
 mem:=Z6
 obj:=λ i h st c hc=>by
  obtain⟨hz,Qv,⟨u,v,QX⟩,h1,h2⟩:=st;show xAY Dm Fv hc;rcases hc with rfl|rfl|rfl|rfl|rfl
  ·exact xav hz (λ v z=>by cases z)
  ·exact xav Qv (λ v z=>by cases z)
  ·exact xav QX (λ v z=>by cases z)
  ·obtain⟨o,e',c,d⟩:=h1;exact xdx e' (λ v z=>by show Tl d z z)
  ·obtain⟨o,e',c,d⟩:=h2;exact xdx e' (λ v z=>by show Tl d z z)
 keep:=λ i h h' st k=>by
  obtain⟨hz,Qv,⟨u,v,QX⟩,h1,h2⟩:=st;exact⟨k z Z6 _ hz,k TI Z6 _ Qv,⟨u,v,k TO Z6 _ QX⟩,h1.at λ o x=>k i1 Z6 o x,h2.at λ o x=>k i2 Z6 o x⟩
 item:=by
  intro X hP hw hK hc i JM s σ H E I hf st hg;subst hP hw hK;obtain⟨hz,Qv,⟨u0,v0,QX⟩,h1,h2⟩:=st;obtain⟨xs,ys,x,y,Vk,LH,hx,hy⟩:=hg;show xqy its rv p hsz1 Vk;show xqy K6 Qd p2 hsz2 LH;obtain⟨u,hu,ru⟩:=rv.get hx;obtain⟨v,hv,S6⟩:=Qd.get hy;have zlt:xg7 z:=Dt hz;have TIlt:xg7 TI:=Dt Qv;have TOlt:xg7 TO:=Dt QX;have i1lt:xg7 i1:=by show xoW o e' (id h1) (Dt e')
  have i2lt:xg7 i2:=by show xoW o e' (id h2) (Dt e')
  have hT:xH4:=xjd;show SC (wpAny_pyNext_zip_item D hz Qv QX h1 h2 p.isList p2.isList (x:=u) (y:=v) (by show xu9) (by simpa using hv) λ h' hz' hTO' Lx NN ht' hsz' kk=>?_) (xbd (wpAny_letOwnedTupleGo_zip (s:=xfe) hz' (Sc h3 Yq Xe)));have kept:∀c o,Ν z->xv9->xv8->xv7->xqX c->h3.get? c=Id:=λ c o n1 n2 n3 n4 e=>xg6 Xe c n1 (kk c o n1 n2 n3 n4 e)
  have Sv:Re (h3.get? s.heap.objs.size) (xqv "tuple" (.seq #[u,v])):=xg6 Xe _ (Gq zlt) ht';have Sl:∀c o,xqX c->xL7:=λ c o e=>xyh
  have nT:∀c o,WF=Id->xL7:=λ c o e q=>by show xfB q hT e e
  have nF:∀c o,WF=Id->Ν z/\xv9/\xv8/\xv7:=λ c o e=>⟨xcb (by show xfB q (xtk z) e e),xcb (by show xfB q (xtk TO) e e),xcb (by show xfB q (xtk i1) e e),xcb (by show xfB q (xtk i2) e e)⟩
  have hTI3:IsPair h3 TI xBy xBz:=kept _ _ D.TIz D.TITO D.TIi1 D.TIi2 Qv;have hTO3:IsPair h3 TO u v:=xg6 Xe _ D.TOz hTO';have h13:h3.IsListIter i1 a (i+1):=Lx.at λ o e=>xg6 Xe _ D.i1z e
  have h23:h3.IsListIter i2 b (i+1):=NN.at λ o e=>xg6 Xe _ D.i2z e
  have XS:∀{c:JB},c∈ [z,TO,i1,i2]->c∈ [z,TI,TO,i1,i2]:=λ {c} hc=>by
   simp only [Dm,Fv,or_false] at hc ⊢;rcases hc with h|h|h|h<;>simp [h]
  have Sd:∀{c:JB},c∉ [z,TO,i1,i2]->Ν z/\xv9/\xv8/\xv7:=λ {c} hc=>⟨xs4 (by simp [q]),xs4 (by simp [q]),xs4 (by simp [q]),xs4 (by simp [q])⟩
  have I2:xgm (xbE H s.heap.objs.size [x,y]) (xi7 h3):=by
   refine xFX (d':=s.drawn) (t':=s.toks) (ch:=[z,TO,i1,i2]) (LE c Ls) (λ c o _ _ Ls e _=>xwC Ls (xsn c n1 n2 n3 n4 e)) (λ c o _ _ Ls e _=>xwC Ls (xxA (xsn c n1 n2 n3 n4 e))) (λ c o _ e n=>by show Ty (Sl c o e) n) (λ c o Ls e=>xwC Ls ⟨o,xsn c n1 n2 n3 n4 e⟩) (λ c xs e=>by show xgj (nT c _ e)) (λ c o u e=>by show xgj (nT c _ e)) (λ c ps e=>xr5 (by rw [ag (nT c _ e),e];simp)) (LE m hm) xs7 I.bare
   ·obtain⟨e0,e1,e2,e3,e4,e5⟩:=hf c (XS Ls);show xaC e3 e1 e4 e5
   ·show xpI Vx ep Qq r hm;exact⟨o,Vx,ep,xsn _ (xrS z) (xrS TO) (xrS i1) (xrS i2) Qq,r⟩
   ·by_cases hb:xIP c
    ·show xba hb ac e e;show xaC (by show xeE) [u,v] (.cons ru (xjn S6)) (xay _ Sv _ rfl)
    ·rw [xjW] at e;refine xuc c o e (λ c' v Ls q=>?_) (λ c q=>by show Ty (nT c _ q) q) (λ c xs q=>by show Ty (nT c _ q) q)
     rcases Ls with q'|q'
     ·subst q';obtain⟨n1,n2,n3,n4⟩:=nF _ _ e;exact kept c' v n1 n2 n3 n4 q
     ·obtain⟨n1,n2,n3,n4⟩:=nF _ _ q';exact kept c' v n1 n2 n3 n4 q
  refine⟨xmb,_,I2,rfl,⟨_,x,y,hT,rfl,rfl,λ zs hz=>by show xF3 hz Vk hx,λ zs hz=>by show xF3 hz LH hy⟩,⟨Yq,hTI3,⟨u,v,hTO3⟩,h13,h23⟩,LE c Ls⟩;have JO:xg7 c:=by
   show xAY Dm Fv Ls;rcases Ls with rfl|rfl|rfl|rfl|rfl<;>assumption
  show Ty (DZ JO) (hf c Ls).1
 done:=by
  intro X hP hw hK hc i JM s σ H E I hf st hg;subst hP hw hK;obtain⟨hz,Qv,⟨u0,v0,QX⟩,h1,h2⟩:=st;obtain⟨xs,ys,Vk,LH,NP⟩:=hg;show xqy its rv p hsz1 Vk;show xqy K6 Qd p2 hsz2 LH;show xo0 l1;have l2:=Qd.length;refine uC I.hq D hz Qv QX h1 h2 p.isList p2.isList (by rcases NP with h|h;show xaN (by simp;omega);show xbX (by simp;omega)) λ h' kk=>xgB
  have nF:∀c o,WF=Id->Ν z/\xv9/\xv8/\xv7:=λ c o e=>⟨xcb (by show xfB q (xtk z) e e),xcb (by show xfB q (xtk TO) e e),xcb (by show xfB q (xtk i1) e e),xcb (by show xfB q (xtk i2) e e)⟩
  have XS:∀{c:JB},c∈ [z,TO,i1,i2]->c∈ [z,TI,TO,i1,i2]:=λ {c} hc=>by
   simp only [Dm,Fv,or_false] at hc ⊢;rcases hc with h|h|h|h<;>simp [h]
  have Sd:∀{c:JB},c∉ [z,TO,i1,i2]->Ν z/\xv9/\xv8/\xv7:=λ {c} hc=>⟨xs4 (by simp [q]),xs4 (by simp [q]),xs4 (by simp [q]),xs4 (by simp [q])⟩
  refine xFX (d':=s.drawn) (t':=s.toks) (ch:=[z,TO,i1,i2]) (LE c Ls) (λ c o _ _ Ls e _=>xwC Ls (kk c o n1 n2 n3 n4 e)) (λ c o _ _ Ls e _=>xwC Ls (xxA (kk c o n1 n2 n3 n4 e))) (λ c o _ e n=>n) (λ c o Ls e=>xwC Ls ⟨o,kk c o n1 n2 n3 n4 e⟩) (λ c xs e=>e) (λ c o u e=>e) (λ c ps e=>xr5 (by show xbD e)) (LE m hm) xs7 I.bare
  ·obtain⟨e0,e1,e2,e3,e4,e5⟩:=hf c (XS Ls);show xaC e3 e1 e4 e5
  ·show xpI Vx ep Qq r hm;exact⟨o,Vx,ep,kk _ o (xrS z) (xrS TO) (xrS i1) (xrS i2) Qq,r⟩
  ·refine xuc c o e (λ c' v Ls q=>?_) (λ c q=>q) (λ c xs q=>q)
   rcases Ls with q'|q'
   ·subst q';obtain⟨n1,n2,n3,n4⟩:=nF _ _ e;exact kk c' v n1 n2 n3 n4 q
   ·obtain⟨n1,n2,n3,n4⟩:=nF _ _ q';exact kk c' v n1 n2 n3 n4 q
 self:=xBH h (by
  obtain⟨hz,_⟩:=st;exact xL0 h)
inductive UB (K:Frag) (R:xpE) (vs:KB) (H1:Hp):Prop
 |mk (l1:_) (l2:_) (xs:_) (ys:_) (h0:vs=[.ref l1,.ref l2]) (h1:xwl l1 xs) (h2:xwl l2 ys) (h3:R (Itz K l1 l2) H1):UB K R vs H1
def B8 (K:Frag)(ta:TA):TI:=λ σ H R=>xgf λ vs H1=>UB K R vs H1
def AN {X:Cx}{p pos q:Pos}{es:xif}{k:Nat}(hg:xuG "zip")(hm:xmp "zip")(ha:xin [a,b] ta)(hs:Ξ (xgl [a,b]=xie a::xgl xft))(NI:Ξ (xgl xft=[xie b])):
  xvv (xxC k q) (xxw "zip" p [a,b] []) (B8 X.K ta):=by
 intro JM s σ H R I h;show xf4 (xCv I boot_zip (EW (xc5 xl1 us) hs (by rw [NI];rfl))) vs;obtain⟨l1,l2,xs,ys,e,Vk,LH,q⟩:=q1;subst e;show xcN u1 u2 r2 r3 (ko r1);show xgk r2 r3;obtain⟨its,rv,p1,hz1⟩:=I1.list Vk;obtain⟨K6,Qd,p2,NU⟩:=I1.list LH;have a1:l1<s1.heap.objs.size:=by show xoW o e p1.isList xb4
 have a2:l2<s1.heap.objs.size:=by show xoW o e p2.isList xb4
 refine call_zip_2 p1.isList p2.isList λ h' hz Qv QX X2 QD hsz hk=>?_
 have I2:xgm H1 {s1 with heap:=h'}:=xKz hk;refine xL0 ⟨xtN 4,[xtN 4,xtN 2,xtN 3,s1.heap.objs.size,xtN 1],_,_,H1,rfl,I2,wy (zipApart_new a1 a2),⟨hz,Qv,xav _ QX,X2,QD⟩,LE c hc,q⟩;have KI:s1.heap.objs.size≤c:=by
  show xAY Dm Fv hc;rcases hc with rfl|rfl|rfl|rfl|rfl<;>first|exact P3|exact xdY
 exact xAe KI KI
def mY {σ:St}(I:Pi){ns:xjr}(ha:xhs a xdk)(hb:xhs b xdk){A:JH}(hu:A.units<cLine):SeqAt.EqAt A s SZ xmJ true:=by
 by_cases e:a=b
 ·subst e;exact .same _
 ·show xg1 rv pl ha;show xqy K6 Qd U7 NU hb;show xo0 l1;have l2:=Qd.length;rw [CM] at l1 l2;refine .of_refs e ?_;have R:=SeqAt.RcAt.lists (A:=A) (e:=xE7) pl.isList U7.isList (by rw [Dg,Dg];omega) hu (Sc j h1 h2)
  ·have e2:NE ((List.range its.toArray.size).all xE7):=Z6;show UV e2 R R
  ·have j1:xxY j:=by simp at h1;omega
   obtain⟨u1,e1,r1⟩:=xBG j (x:=.int ns[j]) (by simp [j1]);obtain⟨u2,e2,r2⟩:=Qd.get (i:=j) (x:=.int ns[j]) (by simp [j1]);have g1:its.toArray[j]=u1:=by
    show xFD z e1;show xmY
   have g2:K6.toArray[j]=u2:=by
    show xFD z e2;show xmY
   have hh:NE (eqV (V.int ns[j]) (V.int ns[j])):=u7 _ rfl;rw [g1,g2,<-hh];exact vK r1 r2 rfl rfl
universe L2
namespace QQ
open PySem PyProof.Rows
universe QQ
namespace L2
open PySem PySem.Spec PyProof.Rows
def uR (lo c:Int)(n:Nat):It:=⟨λ i _=>i<n,λ i H x H'=>H'=H/\x=.int (lo+i*c),λ i _=>n≤i⟩
def nU {K:Frag}(it)(lo c)(n):xC2 w K tg (uR lo c n) [it] it (λ i h=>xAD h (lo+xkx i*c) (xaf-xkx i) c) where
 mem:=Z6
 obj:=λ i h st b hb=>by
  have e:b=it:=by show xmI
  subst e;exact xav st (λ v z=>by
   have z':xIU=xJw:=z;cases z')
 keep:=λ i h h' st k=>k it Z6 _ st
 item:=by
  intro X hP hw hK hc i JM s σ H E I hf st hg;subst hP hw hK;obtain⟨f0,f1,f2,f3,f4,f5⟩:=xsK;refine xLi (by have:i<n:=hg;omega) (Sc h' QN sb)
  have st':xAD h' (lo+xgM*c) (xaf-xgM) c:=by
   have e1:lo+xgM*c=lo+xcD*c+c:=by rw [xdw xgM (xcD+1),Int.add_mul];lia
   have e2:xaf-xgM=xaf-xcD-1:=Z5;rw [e1,e2];exact QN
  have I1:xkE H s xyG:=xuo (λ b o hb e=>xJr o hb e) f1 f3 f4 f5;exact xbd (u5 st' rfl rfl Z9 ⟨.int (lo+i*c),H,I1,xbn s.toks,xmi,st',xa3 xlA.1⟩)
 done:=by
  intro X hP hw hK hc i JM s σ H E I hf st hg;subst hP hw hK;obtain⟨f0,f1,f2,f3,f4,f5⟩:=xsK;exact QQ.My I.hq st (by have:n≤i:=hg;lia) λ h' eb=>xb2 (xuo (λ b o hb e=>eb b o hb e) f1 f3 f4 f5)
 self:=xBH h (xLl h)
inductive RT (R:xpE) (vs:KB) (H1:Hp):Prop
 |mk (i j c:Int) (n:Nat) (h0:vs=[xcA,xho,xrX]) (h1:Ν 0) (h2:NE (Builtin.Range.small i j c)) (h3:xLp j c=xaf) (h4:ρ (Builtin.divisionGoesByPylong (j-i) c)) (h5:R (uR i c n) H1):RT R vs H1
def BG (ta:TA):TI:=λ σ H R=>xgf λ vs H1=>RT R vs H1
def uw {X:Cx}{tg:JJ}{p pos:Pos}(hg:xKC)(hm:xKy)(ha:xin [a,b,c] ta)(hs:Ξ (xgl [a,b,c]=[xie a,xie b,xie c]))(NI:Ξ (xgl [b,c]=[xie b,xie c])):
  xvv tg (xxw "range" p [a,b,c] []) (BG ta):=by
 intro JM s σ H R I h;show xf4 (xCv I boot_range (EW (xc5 xl1 us) (by rw [hs,NI]) (by rw [NI];rfl))) vs;obtain⟨i,j,c,n,e,h0,h1,h2,h3,q⟩:=q1;subst e;cases r1 with
 |cons r rr=>
  cases rr with
  |cons r' rr=>
   cases rr with
   |cons r'' rr=>
    cases rr;show xjJ r;show xcI t' r';show xcI t'' r'';show SC (call_range_3 h0 ?_ (.inl h3)) (xK3 .. h1 ?_);have I2:xtx H1 s1 (s1.heap.push (xBQ #[xlr,xho t',xrX t''])) s1.toks:=I1.kept λ b o e=>xep
    refine⟨xHR (xBQ #[xlr,xho t',xrX t'']),[xHR (xBQ #[xlr,xho t',xrX t''])],_,_,H1,rfl,
     I2.kept λ b o e=>xep,nU _ i c n,?_,xfn,q⟩
    ·have e1:i+KF 0*c=i:=Z6;have e2:xaf-KF 0=xLp j c:=by show xam h2
     show IsRangeIter _ _ (i+KF 0*c) (xaf-KF 0) c;rw [e1,e2];exact xfk
    ·have e:b=xHR (xBQ #[xlr,xho t',xrX t'']):=by show xmI
     subst e;exact I2.fpOk P3 (I2.hok.fresh P3)
def qS {lo c:Int}{g:TG}{tb:TS}{D:Ends}(Pv:xaQ xbM)(h0:xll 0)
  (hs:∀i σ H,i<n->xiL->g (.int (lo+i*c)) σ H λ σ2 H2=>xlF D xeF xeF H2) (hd:∀σ H,xll n->xkq):
  ∃W:xhD xbM,(∃m,xsk σ H)/\∀i m σ H,xsj σ H->
   (xmO (uR lo c n) H/\xkq)\/(xnC (uR lo c n) H/\∃N,(∀σ' H',xwn->xcH (m'<m/\W (i+1) m' σ' H'))/\∀x H',xm9 (uR lo c n) H x H'->xrP H' λ σ2 H2=>xlF D N N H2):=by
 refine xac (λ i m σ H=>m=n-i/\xbx i/\xiL) ⟨n,Z6,Ω,h0⟩;rintro i m σ H ⟨rfl,hi,p⟩;by_cases JO:i<n
 ·show xhh (.inr ⟨JO,xeF,λ σ' H' p'=>xay (n-(i+1)) xnA JO p',Sc x H' y⟩) e y y;subst e y;exact xp4 σ _ JO p
 ·have e:i=n:=xsU;show xpD e (xpP (hd σ H p))
universe L2
namespace L2
open PySem PySem.Spec PyProof.Rows QQ
structure MkB (K:Frag)(C:JB):Prop where
 makes:xuj K C
 init:xue K xLy
 kp:xqC K xdH
def zJ (C:JB):TE:=λ _ H Q=>∀x dx,XV x->XV dx->dx≠x->Q xcy (xcJ (xe9 H dx x) x C dx [])
def gm (M:MkB X.K C)(hg:xiC)(hm:xr7=xhM)(Qr:xff (x==xgn)):xnr x p [] [] (zJ C):=by
 intro JM s σ H Q I h;show SC (E7 (fu I hg hm ?_ Qr)) (GD I.kIn M.kp ?_);have I2:=Inv.made (C:=C) I;have hq:=h xdq s.heap.objs.size xMm xjd (DZ xrV);show xBW (uD I.kIn M.makes M.init (λ self=>Looks.of_pure (PySem.W.oi_bind self)) ?_);have Y:=Jm (M:=xuv) I.kIn M.makes;have e2:xjq (xuI xkN C) xdq (xzZ C):=by
  have:=DO xkN (o:=xzZ C) rfl
  rwa [Hu] at this
 have t1:Looks xuv (xuI xkN C) (typeOf xuL) xdH:=(Looks.ld e2).andThen .now;have t2:Looks xuv (xuI xkN C) (isInstance xuL xDX) true:=t1.andThen (Y.top.keeps λ b o e=>xdR xep);show xfW (codeAny_call_builtin PySem.W.oi_plain PySem.W.entry_oi (@PySem.W.check_slot xuv _ _ _ "object.__init__" "object" "__init__" xuL [] [] _ PySem.W.oi_kind PySem.W.oi_split t2 (PySem.W.oi_args xuL) ?_)) oi_run (Dl (And.intro rfl (xc4 xuL _ I2 hq)))
universe L2
namespace L2
open PySem PyProof.Rows
theorem j6 (a f):xMr xbU [(xmf,xb0)]=(do
    let items<-Builtin.List.listItems (.ref a)
    Builtin.List.listUpdate (.ref a) λ _=>#[]
    let before<-seqEpoch a
    let held<-newTuple items.toList
    let keyStore<-newList []
    holding [held,keyStore] do
      rule "list.sort.key"
      for x in items do
        match<-(call (.ref f) [x]).attempt with
        | .ok k=>Builtin.List.listUpdate keyStore (·.push k)
        | .error e=>
          rule "list.sort.key-raised"
          let made<-Builtin.List.listItems keyStore
          Builtin.List.listUpdate keyStore λ _=>#[]
          letGo made.toList.reverse [e]
          Builtin.List.listUpdate (.ref a) λ _=>items;throw e
      let keys<-Builtin.List.listItems keyStore
      let kind<-if items.size<2 then pure general' else keyKind' keys
      let((),s)<-(if items.size<2 then pure () else sortRuns').run (SortSt.mk' kind (keys.zip items) #[] 7 none)
      let sorted:=(arrOf s).map (·.2)
      Builtin.List.listUpdate keyStore λ _=>#[]
      letGo ((arrOf s).map (·.1)).toList (failedOf s).toList
      let touched:=(<-seqEpoch a) !=before
      Builtin.List.listUpdate (.ref a) λ _=>sorted
      if let some e:=failedOf s then rule "list.sort.comparison-raised";throw e
      if touched then rule "list.sort.modified";raiseError "ValueError" "list modified during sort"
      ret .none):=by
  first|rfl|(fail "not by rfl")
def fG (a v):argsOk "list.sort" ⟨xeH,[(xmf,v)]⟩:=by unfold argsOk;kernel_rfl
def iC (a v):argsOk "sorted" ⟨xeH,[(xmf,v)]⟩:=by unfold argsOk;kernel_rfl
def tE (h:xuB vs):IntsAre (vs++[xb1 n]) (ns++[n]):=by
 induction h with
 |nil=>exact .cons n t .nil
 |cons m u _ ih=>exact .cons m u ih
def d9:∀v,(seqObj c xs n).data≠ xuZ:=λ v h=>by cases h
def Inv.turn {σ:St}(I:Pi)(fa:xoa a):xC0 (xKT g):=
 I.turned (λ b o hb e=>by show IO (Fd _ _ _ _ hb) e) fa.1 (Μ fa) (xoC fa) (xtj fa) (xrO fa.2)
universe L2
namespace L2
open PySem PyProof.Rows QQ
def Inv.adopt {σ:St}(I:Pi)(fa:xoa a)(rv:xsM)(hz:xmm)
  (ho:xfK a (xAv n)):xgm (xby H a xs) s:=by
 have hn:=fa.1;refine xKI xeH xfn (λ b o _ _ _ e _=>e) (λ b o _ _ _ e _=>xxA e) (λ b o hb e n=>?_) (λ b o _ e=>⟨o,e⟩) (xda b ys) (λ b o u e=>?_) (λ b ps e=>xcO #[]) (λ m hm=>hm) (xda b u) I.bare
 ·show xib hb ⟨xoC fa,Μ fa,xtj fa,xrO fa.2⟩
 ·show Ty (xvc (by simp [z])) n
 ·show xf9 hn e
 ·show xf9 hn e
 ·rw [xhZ hn,e];simp
 ·by_cases hb:b=a
  ·show xba hb ac e e;exact⟨hz,its,n,rv,ho⟩
  ·show UV xjW e (xuc b u e (λ c v _ q=>q) (λ c q=>by show xh3 q hn q) (λ c xs q=>by show xh3 q hn q))
inductive PR:xkL JC JC->Ψ (xls Int)
 |nil:PR [] []
 |cons {k v:JC} {n:Int} {x:V} {l:xkL JC JC} {m:xls Int}:(∃t,k=xb1 n)->xlS->PR l m->PR ((k,v)::l) ((n,x)::m)
def AD (h:xFo ks)(g:xsM):PR xq3 (ks.zip xs):=by
 induction h generalizing xs its with
 |nil=>show xg0
 |cons n t _ ih=>cases g with
  |nil=>show xg0
  |cons r rs=>exact .cons (xbn t) r (ih rs)
def yn (h:PR l m):Vals (m.map (·.2)) (l.map (·.2)):=by
 induction h with
 |nil=>show xg0
 |cons _ r _ ih=>exact xjt r
def AC (h:PR l m):l.length=m.length:=by
 induction h with
 |nil=>rfl
 |cons _ _ _ ih=>exact xAk ih
def BX (h:PR l m):∀{i:Nat} {q},xad m q->∃t v,xad l (xb1 xaZ,v):=by
 induction h with
 |nil=>intro i q hq;cases hq
 |cons e _ _ ih=>
  intro i q hq;cases i with
  |zero=>show xmw t e e hq;subst e;exact xdt t _
  |succ i=>exact ih hq
def vS (e1:ns=xH2)(h:xxY i):xBI i=ns[i]:=by
 subst e1;rw [CM,Ee] at h;simp [numAt,h]
def uI (hc:xtS):xt9 X "max" (λ xs H Q=>∃(p:JB) (ns:xjr),xs=xaO/\xhs p xdk/\xxY 0/\∀n∈ns,(∀m∈ns,xbx m)->xkI n):=by
 intro JM s σ H xs us Q I r h;obtain⟨p,ns,rfl,hq,L5,q⟩:=h;show xlK u rx (gs r) rx;show xg1 rv pl hq;show xmL hi (cH rv) ys hx hi.allInts.items;have hl:xIA (intItems ys):=hx▸pl.isList;have e1:ns=xH2:=by
  rw [<-nums_intItems,<-hx];exact(xae xLo ns hi.numsOf).symm
 have hsz:ns.length=ys.size:=by show xbD e1
 refine max_intList hc hl (De L5 hsz) λ v h' tk hv hk=>?_
 show xjJ (intItems_at hv);obtain⟨h1,h2⟩:=argBest_gt xBI (ys.size-1);generalize argBest (λ i j=>decide (xBI i>xBI j)) (ys.size-1)=b at*;have hb:xxY b:=Z5;have eb:=vS e1 hb;refine xnB ns[b] (I.kept hk) ⟨t,by rw [eb]⟩ (q _ (ER hb) (LE m hm));show xeJ j hj (List.getElem_of_mem hm);show xeo (h2 j (Ft (De hj hsz))) (vS e1 hj) eb;show xi3
universe L2
namespace L2
open PySem PySem.Spec PyProof.Rows QQ
universe L2
namespace W16
def Pc.size:xoS Pc
 | .sg _=>1
 | .cp _ z=>z
noncomputable def al (S:Fr) (p b:Nat):xcs
 |0=>0
 |m+1=>if xiD=m/\S[p+m]?=S[p+m-b]? then m+1 else xiD
theorem sA (S:Fr)(p b:Nat):∀m,xiD≤m
 |0=>P3
 |m+1=>by
  unfold al;have:=sA S p b m
  split<;>lia
theorem lU {S:Fr}{p b:Nat}:∀{m:Nat},∀i<xiD,S[p+i]?=S[p+i-b]?
 |0,i,h=>by simp [al] at h
 |m+1,i,h=>by
  show xvD al h h
  ·rename_i c
   by_cases e:i=m
   ·subst e;exact xhK
   ·exact lU (m:=m) i (by show IO xhA (D8 (Eh h) e))
  ·exact lU (m:=m) i h
theorem wf {S:Fr}{p b:Nat}:∀{m:Nat},(∀i<m,S[p+i]?=S[p+i-b]?)->xiD=m
 |0,_=>rfl
 |m+1,h=>by
  show xbk al (Dq ⟨wf λ i hi=>h i (Jo 1 hi),h m (Ij _)⟩)
theorem xf {S:Fr}{p b r:Nat}(h:∀i<r,S[p+i]?=S[p+i-b]?)(hn:S[p+r]?≠S[p+r-b]?):∀m,r≤m->xiD=r
 |0,hm=>by
  show xfs (r=0) Z5;rfl
 |m+1,hm=>by
  by_cases e:r=m+1
  ·subst e;exact wf h
  ·have ih:=xf h hn m Z5;show xbk al ih
   split
   ·rename_i c
    rw [<-xhA] at c;show xaW xhK hn
   ·rfl
def yB {S:Fr}{p b m:Nat}(h:xiD<m):S[p+xiD]?≠S[p+xiD-b]?:=by
 induction m with
 |zero=>simp [al] at h
 |succ m ih=>
  by_cases c:xiD=m/\S[p+m]?=S[p+m-b]?
  ·have e:xld b (m+1)=m+1:=by show xbk al (Dq c)
   lia
  ·have e:xld b (m+1)=xiD:=by rw [al,Dc c]
   rw [e];by_cases q:xiD=m
   ·show IO q (LT (c ⟨q,z⟩))
   ·exact ih (by show xaR (sA S p b m))
noncomputable def lc (S:Fr) (p m:Nat):xaQ xev
 |0=>(0,0)
 |n+1=>if xsp m n<xld (n+1) m then(n+1,xld (n+1) m) else xof m n
theorem sk (S:Fr)(p m:Nat):∀n,xsp m n≤m
 |0=>Ω
 |n+1=>by
  unfold lc
  split
  ·exact sA ..
  ·exact sk S p m n
theorem sh {S:Fr}{p m k:Nat}(h:xsp m k=m):∀n,xbx k->xof m n=xof m k
 |0,hk=>by
  show xfs (k=0) Z5;rfl
 |n+1,hk=>by
  by_cases e:k=n+1
  ·subst e;rfl
  ·have ih:=sh h n Z5;rw [lc,ih,h,Dc];have:=sA S p (n+1) m;exact Jd.mpr this
def xE {S:Fr}{p m n:Nat}(h:S[p+xsp m n]?≠S[p+xsp m n-(n+1)]?):xof m (n+1)=xof m n:=by
 rw [lc,Dc];intro c;exact h (lU _ c)
theorem rM {S:Fr}{p m:Nat}:∀{n:Nat},0<xsp m n->Δ (xof m n).1/\xbx (xof m n).1/\xsp m n=xld (xof m n).1 m
 |0,h=>by simp [lc] at h
 |n+1,h=>by
  show xpN lc
  split
  ·exact xdt (FQ Ω) P3
  ·rename_i c
   rw [Dc c] at h;show xa9 a b e (rM h) ⟨a,Ek b,e⟩
def most (S:Fr)(p:Nat):Nat:=min 18 (xrC p)
def far (p:Nat):Nat:=min 255 p
def lcAt (S:Fr)(p:Nat):xev:=xof xb3 xgG
def pcAt (S:Fr)(p:Nat):Pc:=if 3≤xnz then .cp xvB xnz else .sg (S.getD p 0)
def Walk (S:Fr):xaQ (xek->Ψ Nat)
 |p,[],q=>p=q
 |p,x::xs,q=>xdN p/\x=xo9/\Walk S (p+x.size) xs q
theorem c7 {S:Fr}:∀{P:xek} {p q:Nat},xil S P q->xdN q->xil S (P++[xtR q]) (q+(xtR q).size)
 | [],p,q,h,hq=>by
  cases h;exact xdt hq rfl
 |x::P,p,q,h,hq=>⟨xbW,xpx,c7 xsh hq⟩
def gT {S:Fr}{p:Nat}(h:xdN p):Δ xB4/\xfL (p+xB4):=by
 unfold pcAt
 split
 ·rename_i c
  have:=sk S p xb3 xgG;show Δ xnz/\xfL (p+xnz);unfold lcAt at c ⊢;unfold most at this c ⊢;lia
 ·show Δ 1/\xfL (p+1);exact xL1
theorem cL {S:Fr}:∀{P:xek} {p q:Nat},xil S P q->p+P.length≤q
 | [],p,q,h=>by cases h;simp
 |x::P,p,q,h=>by
  have:=cL xsh;have h1:=(gT xbW).1;rw [<-xpx] at h1;simp;lia
def yK {S:Fr}{p b z:Nat}(hp:xdN p)(h:xo9=xvW z):xdd/\b≤p/\xnK b/\3≤z/\z≤18/\xfL (p+z)/\(∀i<z,S[p+i]?=S[p+i-b]?)/\(z<18->xdN (p+z)->S[p+z]?≠S[p+z-b]?):=by
 show xvD pcAt h h
 ·rename_i c
  have e1:xvB=b:=by injection h
  have e2:xnz=z:=by injection h
  rw [e2] at c;have g:=rM (S:=S) (p:=p) (m:=xb3) (n:=xgG) (by show 0<xnz;lia);have l:=sk S p xb3 xgG;change Δ xvB/\xvB≤xgG/\xnz=xld xvB xb3 at g;change xnz≤xb3 at l;rw [e1,e2] at g;rw [e2] at l;have hf:xnK xgG/\xgG≤p:=by unfold far;show xaI xiF (Et _ _)
  have hm:xb3≤18/\xb3≤xrC p/\(xb3=18\/xb3=xrC p):=by unfold most;lia
  refine⟨g.1,CV (Μ g) hf.2,CV (Μ g) hf.1,c,CV l hm.1,Z5,λ i hi=>lU (m:=xb3) i (CZ hi (Di (xaY g))),LE h1 h2⟩;have:=yB (S:=S) (p:=p) (b:=b) (m:=xb3) (by rw [<-xaY g];lia);rw [<-xaY g] at this;show xi3
 ·cases h
def yg {S:Fr}{p s:Nat}(hp:xdN p)(h:xo9=xjx):xaH S p s:=by
 show xvD pcAt h h
 ·cases h
 ·injection h with h
  rw [<-h];simp [List.getD,hp]
universe W16
namespace BP
def val (B:Fr):Nat:=B.foldl (λ a b=>a*256+b) 0
def kD (B:Fr):∀a,B.foldl (λ a b=>a*256+b) a=a*xht+xgI:=by
 induction B with
 |nil=>intro a;simp [val]
 |cons b B ih=>
  intro a;have h0:val (b::B)=b*xht+xgI:=by
   show B.foldl (λ a b=>a*256+b) (0*256+b)=_;rw [ih,Nat.zero_mul,Er]
  show B.foldl (λ a b=>a*256+b) (a*256+b)=_;rw [ih,h0,Df,EI,Gu,Ew,Em 256,D4]
def sH:val []=0:=rfl
def eN (b:Nat)(B:Fr):val (b::B)=b*xht+xgI:=by
 show B.foldl (λ a b=>a*256+b) (0*256+b)=_;rw [kD,Nat.zero_mul,Er]
def jm (A B:Fr):val (A++B)=val A*xht+xgI:=by
 show(A++B).foldl (λ a b=>a*256+b) 0=_;rw [Gd,kD];rfl
def LP (A:Fr)(b:Nat):val (A++xft)=val A*256+b:=by
 show(A++xft).foldl (λ a b=>a*256+b) 0=_;rw [Gd];rfl
def Mb {B:Fr}(h:xdo B):xgI<xht:=by
 induction B with
 |nil=>simp [val]
 |cons b B ih=>
  rw [eN,Df,EI];have h1:=ih λ x hx=>xhv x hx
  have h2:xbN b:=xkG b;have h3:b*xht≤255*xht:=xLG (Eh h2);lia
def jl (n:Nat):256^n=2^(8*n):=by rw [Nat.pow_mul]
def M9 (n:Nat):0<2^n:=xjI
def uW {B:Fr}(h:xdo B)(n:Nat)(hn:xfI n):val xFb=xgI/256^(xrD n):=by
 have e:xgI=val xFb*256^(xE8).length+val xE8:=by rw [<-jm,Dw]
 have hd:val xE8<256^(xE8).length:=Mb (xa3 (h b (DR hb)))
 rw [C6] at e hd;rw [e,Em,II xjI,Iz hd,FG]
def sV {B:Fr}(h:xdo B){m n:Nat}(hmn:xbx m)(hn:xfI n):val (xje n m)=xgI/256^(xrD n)%256^(n-m):=by
 have e:val xFb=val ((xFb).take m)*256^(xje n m).length+val (xje n m):=by rw [<-jm,Dw]
 have hl:xat (xje n m) (n-m):=by rw [C6,Dd];omega
 have hd:val (xje n m)<256^(xje n m).length:=Mb (xa3 (h b (DN (DR hb))))
 rw [hl] at e hd;rw [<-uW h n hn,e,Em,Nat.mul_add_mod,FN hd]
def UK {B:Fr}(h:xdo B){p s:Nat}(hp:p+s≤xyp 8):
  val (xje ((p+s+7)/8) (p/8))/2^(8*((p+s+7)/8)-(p+s))%2^s=xgI/2^(xyp 8-(p+s))%2^s:=by
 have h1:p/8≤(p+s+7)/8:=Z4;have h2:xfI ((p+s+7)/8):=Z4;rw [sV h h1 h2,jl,jl];have ha:8*(p/8)≤p:=Z4;have hb:p+s≤8*((p+s+7)/8):=Z4;show xqI (p/8) a ((p+s+7)/8) b;generalize B.length=n at*;show xcI c (FS h1);show xcI y (FS ha);obtain⟨x,hx⟩:=FS hb;show xcI z (FS h2);rw [Ex,Ex,hx,Ex,show 8*c=x+(s+y) by omega,show 8*(a+c+z)-(8*a+y+s)=8*z+x by omega];rw [FD 2 x,IU,Nat.div_div_eq_div_mul,<-FD,FD 2 s,Nat.mod_mul_right_mod]
structure BR (N T:Nat)(B:Fr)(r k:Nat):Prop where
 tot:T=xyp 8+k
 num:N=xgI*2^k+r
 low:r<2^k
 byt:xdo B
def BR.init:BR 0 0 [] 0 0:=xeu rfl Z9 (xuA h h)
def BR.put {N T:Nat}{B:Fr}{r k:Nat}(h:BR N T B r k){n s:Nat}(hn:n<2^s):BR (N*2^s+n) (T+s) B (r*2^s+n) (k+s):=by
 refine⟨by show IO h.tot (D4 _ _ _),?_,?_,h.byt⟩
 ·rw [h.num,FD,Gu,Ew,D4]
 ·have h1:r+1≤2^k:=h.low;have h2:(r+1)*2^s≤2^k*2^s:=xLG h1;rw [Gu,Nat.one_mul] at h2;show IO FD (CZ (FY hn _) h2)
def BR.move {N T:Nat}{B:Fr}{r k:Nat}(h:BR N T B r (k+8)):BR N T (B++[r/2^k]) (r%2^k) k:=by
 have e:=HG r (2^k);refine⟨by rw [h.tot,CN,F5];lia,?_,FV _ (M9 k),xfn⟩
 ·rw [h.num,LP,Gu,FD];have:xgI*(2^k*2^8)=xgI*256*2^k:=by rw [Em (2^k),<-Ew]
  rw [this,D4];rw [Em (r/2^k),e]
 ·show xbR hb hb hb
  ·exact h.byt b hb
  ·rw [xB2];show xkX h.low FD (Nat.div_lt_of_lt_mul this)
structure K' (N T:Nat)(R:Fr):Prop where
 len:xzc ((T+7)/8)
 byt:xlR
 num:xvX=N*2^(Γ-T)
def BR.row0 {N T:Nat}{B:Fr}{r:Nat}(h:BR N T B r 0):K' N T B:=by
 have h1:=h.low;refine xac (by show xam h.tot) h.byt;rw [h.num,h.tot];show xfs (r=0) (by show xrN);simp
def BR.row1 {N T:Nat}{B:Fr}{r k:Nat}(h:BR N T B r k)(h0:0<k)(h8:k<8):K' N T (B++[r*2^(8-k)]):=by
 refine xac (by rw [h.tot,CN,F5];lia) xfn
 ·show xbR hb hb hb
  ·exact h.byt b hb
  ·rw [xB2];have h2:r*2^(8-k)<2^k*2^(8-k):=xLq (M9 _) h.low;rw [<-FD] at h2;have:k+(8-k)=8:=xCL h8;show UV this h2 h2
 ·have e:8*xbq B [r*2^(8-k)]-T=8-k:=by rw [h.tot,CN,F5];lia
  have e2:256=2^k*2^(8-k):=by
   rw [<-FD];have:k+(8-k)=8:=Z5;rw [this]
  rw [e,LP,h.num,Gu,Ew,<-e2]
noncomputable def cz:xaJ->xcs
 | [],N=>N
 |p::ps,N=>xsP (N*2^xgO+xag)
def tots (ps:xaJ):Nat:=(ps.map (·.2)).sum
def bQ (a b:xaJ)(N:Nat):cz (a++b) N=cz b (cz a N):=by
 induction a generalizing N with
 |nil=>rfl
 |cons p a ih=>exact ih _
def aP (a b:xaJ):tots (a++b)=tots a+tots b:=by simp [tots,C8,FZ]
def bX (p:xev)(b:xaJ):tots (p::b)=xgO+tots b:=by simp [tots]
def Good (ps:xaJ):Prop:=xcU ps (xag<2^xgO)
def num (bs:xaA):Nat:=bs.foldl (λ a b=>xp0 (2*a)) 0
def uq (bs:xaA):∀a,bs.foldl (λ a b=>xp0 (2*a)) a=a*xB6 2+num bs:=by
 induction bs with
 |nil=>intro a;simp [num]
 |cons b bs ih=>
  intro a;have h0:num (b::bs)=b.toNat*xB6 2+num bs:=by
   show bs.foldl (λ a b=>xp0 (2*a)) (xp0 (2*0))=_;rw [ih,Nat.mul_zero,Er]
  show bs.foldl (λ a b=>xp0 (2*a)) (xp0 (2*a))=_;rw [ih,h0,Df,EI,Gu,Em 2 a,Ew a 2,Em 2 (xB6 2),D4]
def df (a b:xaA):num (a++b)=num a*2^b.length+num b:=by
 show(a++b).foldl (λ a b=>xp0 (2*a)) 0=_;rw [Gd,uq];rfl
def UI (a:xaA)(b:Bool):num (a++xft)=xp0 (2*num a):=by
 show(a++xft).foldl (λ a b=>xp0 (2*a)) 0=_;rw [Gd];rfl
def gH (b:Bool)(bs:xaA):num (b::bs)=b.toNat*xB6 2+num bs:=by
 have:=df xft bs;simpa [num] using this
def Lz (bs:xaA):num bs<xB6 2:=by
 induction bs with
 |nil=>decide
 |cons b bs ih=>
  rw [gH,Df,EI];cases b<;>simp<;>omega
def dig (n:Nat):xaQ xaA
 |0=>[]
 |k+1=>xcp (n/2^k%2) 1::xsx k
def JZ (n k:Nat):xat (xsx k) k:=by
 induction k with
 |zero=>rfl
 |succ k ih=>show(xsx k).length+1=k+1;rw [ih]
def fk (n k:Nat):num (xsx k)=n%2^k:=by
 induction k with
 |zero=>simp [dig,num,Nat.mod_one]
 |succ k ih=>
  show num (xcp (n/2^k%2) 1::xsx k)=_;rw [gH,JZ,ih,EI,Nat.mod_mul];have h2:n/2^k%2<2:=xnx;by_cases h:n/2^k%2=1
  ·rw [CY h,h];simp;omega
  ·have h0:n/2^k%2=0:=Z4;rw [EQ h,h0];simp
theorem li:∀{A B:Fr},xa1 A->xa1 B->A.length=B.length->val A=xgI->A=B
 | [],[],_,_,_,_=>rfl
 | [],_::_,_,_,h,_=>by cases h
 |_::_,[],_,_,h,_=>by cases h
 |a::A,b::B,hA,hB,hl,hv=>by
  have Xl:A.length=B.length:=by simpa using hl
  rw [eN,eN,Xl] at hv;have h1:val A<xht:=by show xa5 Xl (Mb λ x hx=>hA x xCp)
  have h2:xgI<xht:=Mb λ x hx=>hB x xCp
  have p:0<xht:=xjI;have e1:a=b:=by
   have q1:(a*xht+val A)/xht=a:=by rw [Em,II p,Iz h1,FG]
   have q2:(b*xht+xgI)/xht=b:=by rw [Em,II p,Iz h2,FG]
   rw [<-q1,hv,q2]
  subst e1;rw [li (λ x hx=>hA x xCp) (λ x hx=>hB x xCp) Xl (Nat.add_left_cancel hv)]
def K'.uniq {N T:Nat}{R R':Fr}(h:K' N T R)(h':K' N T R'):R=R':=by
 have e:xzc R'.length:=by rw [h.len,h'.len]
 exact li h.byt h'.byt e (by rw [h.num,h'.num,e])
universe BP
namespace W13
noncomputable def run (a:Nat):xoS Fr
 | []=>0
 |x::xs=>xbV x a (xz8 xs+1) 0
theorem jE (a:Nat):∀L:Fr,xhg xfg
 | []=>P3
 |x::xs=>by
  unfold run;have:=jE a xs
  split<;>simp<;>assumption
theorem p6 {a:Nat}:∀{L:Fr} {i:Nat},i<xfg->xad L a
 | [],i,h=>by simp [run] at h
 |x::xs,0,h=>by
  show xvD run h h
  ·rename_i c;simp [c]
  ·lia
 |x::xs,i+1,h=>by
  show xvD run h h
  ·simpa using p6 (L:=xs) (i:=i) (Nat.succ_lt_succ_iff.mp h)
  ·lia
theorem qJ {a:Nat}:∀{L:Fr} {n:Nat},(∀i<n,xad L a)->n≤xfg
 | [],0,_=>Ω
 | [],n+1,h=>by simpa using h 0 Z5
 |x::xs,0,_=>Ω
 |x::xs,n+1,h=>by
  have h0:x=a:=by simpa using h 0 Z5
  rw [run,Dq h0];have:=qJ (L:=xs) (n:=n) (λ i hi=>by simpa using h (i+1) (Nat.add_lt_add_right hi 1));exact Eo this 1
def uX {a:Nat}{L:Fr}{n:Nat}(h:∀i<n,xad L a)(hn:L[n]?≠some a):xfg=n:=by
 have h1:=qJ h;show xaX n xfg h2 h2
 ·show xaW (p6 h2) hn
 ·exact Dy h2 h1
inductive Itm where
 |one (x:Nat)
 |rep (r:Nat)
def Itm.size:xoS Itm
 | .one _=>1
 | .rep r=>r
def Itm.cost:xoS Itm
 | .one _=>3
 | .rep _=>9
def Itm.next (a:Nat):xoS Itm
 | .one x=>x
 | .rep _=>a
noncomputable def Itm.puts:Itm->xaJ
 | .one x=>[(x,3)]
 | .rep r=>[(7,3),(r-3,6)]
def stAt (L:Fr)(p a:Nat):Itm:=if 3≤xli a p then .rep (xli a p) else .one (xe1 p)
def Walk (L:Fr):xhD (xjs->xvd Nat)
 |p,a,[],q,b=>p=q/\a=b
 |p,a,x::xs,q,b=>xmk p/\x=xm1 p a/\Walk L (p+x.size) (x.next a) xs q b
theorem c7 {L:Fr}:∀{P:xjs} {p a q b:Nat},xil L a P q b->xn2->xil L a (P++[xm1 q b]) (q+(xm1 q b).size) ((xm1 q b).next b)
 | [],p,a,q,b,h,hq=>by
  show xn1 h (xlv hq rfl)
 |x::P,p,a,q,b,h,hq=>⟨xbW,xpx,c7 xsh hq⟩
def kS {L:Fr}{p a:Nat}(h:xmk p):Δ (xm1 p a).size/\xhg (p+(xm1 p a).size):=by
 unfold stAt
 split
 ·rename_i c
  show xc6 (jE a xxy) C6;show Δ (xli a p)/\xhg (p+xli a p);lia
 ·show Δ 1/\xhg (p+1);exact xL1
theorem cL {L:Fr}:∀{P:xjs} {p a q b:Nat},xil L a P q b->p+P.length≤q
 | [],p,a,q,b,h=>by show xcI rfl h;simp
 |x::P,p,a,q,b,h=>by
  have h1:=cL xsh;have h2:=(kS (a:=a) xbW).1;rw [<-xpx] at h2;simp;lia
def nxtS (a:Nat):xoS xjs
 | []=>a
 |x::xs=>nxtS (x.next a) xs
def sQ {L:Fr}{p a:Nat}(hp:xmk p):(∀x,xm1 p a=.one x->xyC p 1=xB1++xbl/\L[p]?=Χ)/\(∀r,xm1 p a=.rep r->3≤r/\r≤66/\xhg (p+r)/\xyC p r=xB1++xox r):=by
 show xaM hle (jE a xxy) C6 hle;unfold stAt
 split
 ·rename_i c
  refine xem (λ x h=>(by cases h)) r h;injection h with h
  have hr:r≤run a (L.drop p):=Z5;refine⟨Ik c h,Z5,Iw (Dr hp) (CV hr hle),?_⟩;rw [IH];congr 1;apply EF;intro i;rw [IZ,Gv]
  split
  ·rename_i hi
   exact p6 (CZ hi hr)
  ·rfl
 ·refine⟨LE x h,λ r h=>(by cases h)⟩;injection h with h
  have e:L[p]?=Χ:=by rw [<-h];simp [List.getD,hp]
  show xaI (by rw [Ei,e];rfl) e
noncomputable def Kv (a:Nat):xjs->Fr
 | []=>[]
 | .one x::P=>x::Kv x P
 | .rep r::P=>xox r++Kv a P
def SH:Ψ Itm
 | .one x=>x≤6
 | .rep r=>3≤r/\r≤66
theorem M3 {L:Fr}:∀{P:xjs} {p a q b:Nat},xil L a P q b->L.take q=xB1++Kv a P
 | [],p,a,q,b,h=>by show xcI rfl h;simp [Kv]
 |x::P,p,a,q,b,h=>by
  obtain⟨hp,hx,hw⟩:=h;have ih:=M3 hw;have ht:=sQ (a:=a) hp;rw [ih];cases x with
  |one y=>
   have h1:=(ht.1 y hx.symm).1;show xyC p 1++Kv y P=xB1++y::Kv y P;show xbD h1
  |rep r=>
   have h1:=xaY (ht.2 r hx.symm).2;show xyC p r++Kv a P=xB1++(xox r++Kv a P);rw [h1,CQ]
theorem MQ {L:Fr}(hL:xax L (b≤6)):∀{P:xjs} {p a q b:Nat},xil L a P q b->xcq P (SH x)
 | [],p,a,q,b,h,x,hx=>by simp at hx
 |y::P,p,a,q,b,h,x,hx=>by
  show xei hx hx
  ·have ht:=sQ (a:=a) xbW;cases x with
   |one y=>exact hL _ (D9 (ht.1 y (xpx).symm).2)
   |rep r=>have:=ht.2 r (xpx).symm;show xaI xCw (Μ this)
  ·exact MQ hL xsh x hx
noncomputable def puts (P:xjs):xaJ:=P.flatMap Itm.puts
def iA (P Q:xjs):puts (P++Q)=puts P++puts Q:=by simp [puts]
theorem ij:∀P:xjs,((puts P).map (·.2)).sum=xJx Itm.cost
 | []=>rfl
 | .one x::P=>by
  show((Itm.puts (.one x)++puts P).map (·.2)).sum=_;rw [C8,FZ,ij P];simp [Itm.puts,Itm.cost]
 | .rep r::P=>by
  show((Itm.puts (.rep r)++puts P).map (·.2)).sum=_;rw [C8,FZ,ij P];simp [Itm.puts,Itm.cost]
def SN {P:xjs}(h:xcq P (SH x)):∀q∈puts P,xaZ<2^xbh:=by
 intro q hq;obtain⟨x,hx,hq⟩:=Jl.mp hq;have ok:=h x hx;cases x with
 |one y=>
  have:y≤6:=ok;simp [Itm.puts] at hq;subst hq;show y<2^3;exact xpm this
 |rep r=>
  obtain⟨h1,h2⟩:3≤r/\r≤66:=ok;simp [Itm.puts] at hq;show xiu hq
  ·decide
  ·show r-3<2^6;omega
universe W13
namespace W17
open BP W13
def bitsP (ps:xaJ):xaA:=ps.flatMap (xcb (dig xaZ xbh))
def bE (q:xev)(ps:xaJ):bitsP (q::ps)=dig xaZ xbh++xri:=by simp [bitsP]
def dX (a b:xaJ):bitsP (a++b)=xpU a (bitsP b):=by simp [bitsP]
theorem cX:∀ps:xaJ,xat xri xcx
 | []=>rfl
 |q::ps=>by rw [bE,CN,JZ,cX ps,bX]
theorem kR:∀{ps:xaJ},xHq->∀N,xsP N=N*2^xcx+num xri
 | [],_,N=>by simp [cz,tots,bitsP,num]
 |q::ps,h,N=>by
  have h1:xaZ<2^xbh:=xkG q;have ih:=kR (ps:=ps) λ z hz=>xhv z hz
  show xsP (N*2^xbh+xaZ)=_;rw [ih,bE,df,cX,fk,FN h1,bX,FD,Gu,Ew,D4]
def uF {ps:xaJ}(h:xHq):num xri=xsP 0:=by show xbD (kR h 0)
noncomputable def rlF:xaQ (Fr->xaJ)
 |0,_=>[]
 |_+1,[]=>[]
 |n+1,a::L=>(a,1+xfg)::xvY xoD
theorem jH:∀{n m:Nat} {L:Fr},xh9 n->xh9 m->xvY L=rlF m L
 |0,0,_,_,_=>rfl
 |0,m+1,[],_,_=>rfl
 |0,_+1,_::_,h,_=>by show xbm
 |n+1,0,[],_,_=>rfl
 |_+1,0,_::_,_,h=>by show xbm
 |n+1,m+1,[],_,_=>rfl
 |n+1,m+1,a::L,h1,h2=>by
  have Lx:xh9 n:=by show xrN
  have NN:xh9 m:=by simpa using h2
  show(a,1+xfg)::xvY xoD=(a,1+xfg)::rlF m xoD;rw [jH (n:=n) (m:=m) (by show IO C6 (CV xlH Lx)) (by show xam C6)]
def rl (L:Fr):xaJ:=rlF L.length L
def zt:rl []=[]:=rfl
def yh (a:Nat)(L:Fr):rl (a::L)=(a,1+xfg)::rl xoD:=by
 show(a,1+xfg)::rlF L.length xoD=_;rw [jH (n:=L.length) (m:=(xoD).length) (by show IO C6 xlH) P3];rfl
def xo {T:Fr}{b e a:Nat}(NM:b<e)(SV:xgw e)(OW:∀j,b≤j->j<e->xaH T j a)(NP:T[e]?≠some a):rl xuq=(a,e-b)::rl (T.drop e):=by
 have hb:b<T.length:=CZ NM SV;have e1:xuq=a::T.drop (b+1):=by
  show xc6 (OW b P3 NM) (CU hb);rw [EA hb,DK this]
 have e2:xz8 (T.drop (b+1))=e-(b+1):=by
  refine uX (LE i hi) ?_
  ·show IO FK (OW _ Z5 (Ez hi))
  ·rw [FK,xae (b+1+(e-(b+1))) e (D2 NM)];exact NP
 rw [e1,yh,e2,EB,xae (b+1+(e-(b+1))) e (D2 NM),show 1+(e-(b+1))=e-b by lia]
def exp (rs:xaJ):Fr:=rs.flatMap (xcb (xDS xaZ))
theorem rE {a:Nat}:∀L:Fr,L=xox xfg++xoD
 | []=>rfl
 |x::L=>by
  by_cases h:x=a
  ·have e:xz8 (x::L)=xfg+1:=by rw [run,Dq h]
   rw [e,Ef,List.drop_succ_cons,Fw,<-rE L,h]
  ·have e:xz8 (x::L)=0:=by rw [run,Dc h]
   rw [e];rfl
theorem rW:∀{n:Nat} {L:Fr},xh9 n->exp (xvY L)=L
 |0,[],_=>rfl
 |0,_::_,h=>by show xbm
 |n+1,[],_=>rfl
 |n+1,a::L,h=>by
  have h':xh9 n:=by show xvw
  show xox (1+xfg)++exp (xvY xoD)=_;rw [rW (by show IO C6 (CV xlH h')),Hc,Ef,Fw,<-rE]
def lB (L:Fr):exp (rl L)=L:=rW P3
theorem rm:∀{n:Nat} {L:Fr},∀q∈xvY L,Δ xbh/\xhg xbh/\xaZ∈L
 |0,_,q,h=>by cases h
 |n+1,[],q,h=>by cases h
 |n+1,a::L,q,h=>by
  have hr:=jE a L;show xei (show q∈(a,1+xfg)::xvY xoD from h) h
  ·exact⟨by show Δ (1+xfg);exact DD 1 _,by show 1+xfg≤(a::L).length;show xam Df,Do⟩
  ·obtain⟨h1,h2,h3⟩:=rm q h;show UV C6 h2 ⟨h1,by rw [Df];omega,xkZ (DR h3)⟩
def qE {L:Fr}{q:xev}(h:q∈rl L):Δ xbh/\xhg xbh/\xaZ∈L:=rm q h
def wq (q:xev)(b:xaJ):exp (q::b)=xDS xaZ++exp b:=by simp [exp]
def pR (rs:xaJ):xaJ:=rs.flatMap (xcb [(xbh-1,6),(xaZ,8)])
def uv (a b:xaJ):pR (a++b)=pR a++pR b:=by simp [pR]
def iJ (q:xev)(b:xaJ):pR (q::b)=(xbh-1,6)::(xaZ,8)::pR b:=by simp [pR]
noncomputable def pf:Bool->Fr->xaJ
 |false,T=>xG5 s (s,8)
 |true,T=>pR xjy
theorem fF:∀{rs:xaJ},(∀q∈rs,Δ xbh)->rs.length≤(xG6).length
 | [],_=>P3
 |q::rs,h=>by
  have h1:=xkG q;have ih:=fF (rs:=rs) λ z hz=>xhv z hz
  rw [wq,CN,DI,Df];lia
theorem iL:∀rs:xaJ,xk2 rs=14*rs.length
 | []=>rfl
 |q::rs=>by rw [iJ,bX,bX,iL rs,Df];show 6+(8+14*rs.length)=_;lia
theorem du:∀T:Fr,tots xnH=8*T.length
 | []=>rfl
 |s::T=>by
  show tots ((s,8)::xnH)=_;rw [bX,du T,Df];show 8+8*T.length=_;lia
def sf (u:Bool)(T:Fr):tots (pf u T)≤14*T.length:=by
 cases u with
 |false=>show xam du
 |true=>
  show xk2 xjy≤_;rw [iL];show xkX (fF (rs:=xjy) λ q hq=>(qE hq).1) lB (EV 14 this)
def yJ {rs:xaJ}(h:∀q∈rs,Δ xbh/\xfr xbh/\xbN xaZ):Good (pR rs):=by
 intro z hz;obtain⟨q,hq,hz⟩:=Jl.mp hz;obtain⟨h1,h2,h3⟩:=h q hq;simp at hz;show xiu hz
 ·show xbh-1<2^6;omega
 ·show xaZ<2^8;assumption
def vF {T:Fr}(hT:xsI)(hb:xdo T):∀q∈xjy,Δ xbh/\xfr xbh/\xbN xaZ:=λ q hq=>by
 show xa9 h1 h2 h3 (qE hq) ⟨h1,CV h2 hT,xvU h3⟩
def rC (u:Bool){T:Fr}(hT:xsI)(hb:xdo T):Good (pf u T):=by
 cases u with
 |false=>
  intro z hz;show xeJ s hs (E6.mp hz);exact hb s hs
 |true=>exact yJ (vF hT hb)
universe W17
namespace K31
open PySem L2 QQ W17 W16
seal PE PA PS PSs PT PW PG PI
noncomputable def top (i:Nat):JL:=PySem.Challenge.pw_balepress_k31_whole_in_pieces.main.body.getD i (.Pass ⟨0,0,0,0⟩)
abbrev lN:JL:=top 19
abbrev ca:JL:=top 20
abbrev cu:JL:=top 21
abbrev jg:JL:=top 22
abbrev bU:JL:=top 23
abbrev cC:JL:=top 26
abbrev fw:JL:=top 27
abbrev dJ:JL:=top 70
abbrev mC:JL:=top 71
abbrev jv:JL:=top 72
abbrev ik:JL:=top 73
abbrev jz:JL:=top 74
abbrev di:JL:=top 79
abbrev f7:JL:=top 80
abbrev jJ:JL:=top 84
abbrev gX:JL:=top 85
abbrev jX:JL:=top 86
abbrev fq:JL:=top 45
abbrev sI:JL:=top 46
abbrev gv:JL:=top 47
abbrev jK:JL:=top 48
abbrev lV:JL:=top 49
abbrev jt:JL:=top 50
abbrev wm:JL:=top 52
abbrev eM:JL:=top 53
abbrev gq:JL:=top 54
abbrev eC:JL:=top 61
abbrev k6:JL:=top 62
abbrev gZ:JL:=top 63
abbrev qO:JL:=top 64
abbrev fZ:JL:=top 65
abbrev jC:JL:=top 82
abbrev hJ:JL:=top 83
abbrev jb:JL:=top 87
abbrev jV:JL:=top 88
abbrev ra:JL:=xaD 29 0
abbrev Ak:JL:=xaD 29 1
abbrev rB:JL:=xaD 29 2
abbrev uZ:JL:=xaD 29 3
abbrev me:JL:=xaD 29 4
abbrev sCInit:JL:=xaD 55 0
abbrev vg:JL:=xaD 55 1
abbrev qx:JL:=xaD 55 2
abbrev vj:JL:=xaD 89 3
abbrev k7:JL:=xaD 93 2
abbrev lG:JL:=xaD 93 1
abbrev il:JL:=xaD 93 0
abbrev gG:JL:=top 81
abbrev fD:JL:=xaD 90 0
abbrev i9:JL:=xaD 90 1
abbrev iX:JL:=xaD 90 2
abbrev fU:JL:=xaD 91 0
abbrev jh:JL:=xaD 91 1
abbrev jM:JL:=xaD 91 2
abbrev eV:JL:=xaD 92 0
abbrev g9:JL:=xaD 92 1
abbrev gL:JL:=xaD 92 2
abbrev wY:JL:=top 94
abbrev iY:JL:=top 95
abbrev vN (n:Nat):V:=.int xdW
structure Txt (K:Frag)(mg:W1):Prop where
 isi:xfQ "isinstance"
 bool:xfQ "bool"
 int:xfQ "int"
 list:xfQ "list"
 len:xfQ "len"
 range:xfQ "range"
 max:xfQ "max"
 min:xfQ "min"
 great:∃t,mg "GREATEST"=xcf 255
 most:∃t,mg "MOST_SIZE"=xcf 24
 signs:∃t,mg "MOST_SIGNS"=xcf 64
 ahead:∃t,mg "MOST_AHEAD"=xcf 192
 far:∃t,mg "FARTHEST"=xcf 255
 least:∃t,mg "LEAST_COPIED"=xcf 3
 mostC:∃t,mg "MOST_COPIED"=xcf 18
 sum:xfQ "sum"
 enum:xfQ "enumerate"
 sort:xfQ "sorted"
 bits:∃t,mg "MOST_BITS"=xcf 6
 mlen:∃t,mg "MOST_LENGTH"=xcf 12
 things:∃t,mg "MOST_THINGS"=xcf 300
 count:∃t,mg "MOST_COUNT"=xcf 1000000
 many:∃t,mg "MANY"=xcf 272
 again:∃t,mg "AGAIN"=xcf 7
 leastA:∃t,mg "LEAST_AGAIN"=xcf 3
 mostA:∃t,mg "MOST_AGAIN"=xcf 66
 first:∃t,mg "FIRST_COPY"=xcf 256
 isnumb:∃(f:JB) (fd:JG),Υ "is_number" "is_number" lN/\mg "is_number"=xdU/\xjK Jag
structure Fn (K:Frag)(mg:W1)(x:Str)(st:JL)(ps:xaj)(f:JB)(fd:JG):Prop where
 F:Υ x x st
 m:mg x=xdU
 b:xnq
structure Me (K:Frag)(C:JB)(x qual:Str)(st:JL)(ps:xaj)(f:JB)(fd:JG):Prop where
 F:Υ x qual st
 m:xpp K x f
 b:xnq
def aA {X:Cx}{pos:Pos}(F:xAQ JU k f fd ps sp)(hr:xn7)(M:Fn X.K X.mg x st ps f fd)(ha:xqm)(hg:Ξ xiC)(Qr:xff (x==xgn))(he:Ξ (xns=xhS::xno))(L0:xqx):xnr x p xdC [] (rL sp [] E0 t):=cx F hr hg M.m M.F.kp M.b .nil a7 ha Qr he L0
def aX {X:Cx}{pos:Pos}{pl:xxX}(he:xmz o)(c:xu2 C)(M:Me X.K C m qu st ps f fd)(F:xAQ JU k f fd ps sp)(hr:xn7)(ha:xqm)(MD:Ξ (xns=xhS::xno))(L0:xqx)(ht:Ξ (xg4 (xkF o m xdC)=(do
      let ov<-xpL
      xwG
      let xyQ f<-xwP [ov] ov m pl
      xyk f (xry xdC) (xvf pos [])))):Ρ (xkF o m xdC) (ou C m sp [] E0 ta t):=lH he c M.m F hr M.b .nil a7 ha MD L0 ht
def bj {X:Cx}{pos:Pos}{pl:xxX}(he:xmz o)(c:xu2 C)(M:Me X.K C m qu st ps f fd)(F:xAQ JU k f fd ps sp)(hr:xn7)(ht:Ξ (xg4 (xkF o m [])=(do
      let ov<-xpL
      xwG
      let xyQ f<-xwP [ov] ov m pl
      xyk f xCR (xvf pos [])))):Ρ (xkF o m []) (ou C m sp [] E0 ta j8):=vf he c M.m F hr M.b .nil a7 ht
def aL {X:Cx}{e:JJ}{te:TE}{p pos:Pos}(hm:xmp "len")(he:xtf e)(hg:Ξ (xuG "len"))(h1:Ξ (xgl [e]=xhS::xgl [])):=bM (p:=p) (pos:=pos) (he:=h1) gp hg hm PySem.boot_len (aa (hs:=h1) he af)
section
variable (K:Frag)
def z8:Re (kitOne K xAw (.type "bool")) false:=by
 show xCH (Re (if(Value.type "int"==Value.type "bool")=true then some true else if kitMeta "bool"=true then(fastBuiltinMro "int").map (·.contains (.type "bool")) else none) false)
def Ay:xpd (kitOne K xAw xAw):=by
 show xCH (xpd (if(Value.type "int"==Value.type "int")=true then some true else if kitMeta "int"=true then(fastBuiltinMro "int").map (·.contains (.type "int")) else none))
def zk:xpd (kitOne K xtV xtV):=by
 show xCH (xpd (if(Value.type "list"==Value.type "list")=true then some true else if kitMeta "list"=true then(fastBuiltinMro "list").map (·.contains (.type "list")) else none))
universe s
def Kn:vN x=vN y<->x=y:=by
 constructor
 ·intro h;injection h with h
  exact Ji.mp h
 ·rintro rfl;rfl
def dg {S:Fr}(h:xdN i):xa6 (xkO)=SB S[i]:=by simp [h]
def bY {B:Fr}{i:Nat}(h:xad (xe2) y):∃b,xad B b/\y=xdz:=by
 rw [DX] at h;cases e:xa6 B with
 |none=>show Tl e h h
 |some z=>show UV e h (xnc z (xB5 h))
def cv {B:Fr}(h:xad B b):B.take (i+1)=xxr++xft:=by rw [Ei,h];rfl
def a9 (h:xiE n):xcV n:=xc9 h
def bw (h:xiE n):xz4 n:=xpm h
inductive Lg (vs:KB) (H:Hp) (Q:VK) (JT:XK):Prop
 |mk (i lo hi:Int) (h0:vs=[xcA,.int lo,xrM]) (h1:xeX (xhk lo i&&xhk i hi)):Lg vs H Q JT
def yx:Ps Jab Jab ca:=M2
inductive Ui (vs:KB) (H:Hp) (Q:VK) (JT:XK):Prop
 |mk (x:V) (b:Bool) (h0:vs=xbl) (h1:((∃i,x=xcA)/\NE b)) (h2:xeX b):Ui vs H Q JT
def zf:Ps Jag Jag lN:=M2
def yq (F:Υ "is_number" "is_number" lN)(T:xbi):Α 0 Jag Ui:=by
 refine F.ok0 zf λ JN A outer s H vs Q E h=>?_
 intro _;show xcN x b hw k h;refine xee (k8 (xlD iZ T.isi G8 (xbo Os (lS (v:=.ty "int") Z7 T.int Io rfl))) (lK (AE (xlD iZ T.isi G8 (xbo Os (lS (v:=.ty "bool") Z7 T.bool PyProof.Rows.boot_bool rfl))))));obtain⟨⟨i,rfl⟩,rfl⟩:=hw;refine⟨_,rfl,_,_,_,_,rfl,.int _,Ay K,_,rfl,xnh⟩;exact⟨_,rfl,_,_,_,_,rfl,.int _,z8 K,_,rfl,k⟩
def eJ (F:Ε "is_whole" ca Jab)(T:xbi):xey Jab Lg:=by
 obtain⟨fN,Qk,NF,Nm,Nb⟩:=T.isnumb;show xbj yx (λ JN A outer s H vs Q E hr h=>?_);obtain⟨i,lo,hi,rfl,k⟩:=h;show xs0 (k8 (xtr (yq NF T) Nm NF.kp Nb .nil a7 xgA) (lK (oT rh rh KM Os On))) ⟨_,rfl,_,true,rfl,xbn (xbn i),_,rfl,xnh⟩;show SC ⟨_,rfl,_,rfl,_,_,rfl,rfl,_,rfl,?_⟩ xkd
 ·refine⟨_,rfl,_,_,rfl,rfl,?_⟩;rw [h1,Bool.true_and] at k;exact k
 ·have h2:ρ (xhk lo i):=by show xrN
  rw [h2,Jx] at k;exact k
inductive Nq (vs:KB) (H:Hp) (Q:VK) (JT:XK):Prop
 |mk (a:JB) (B:Fr) (lo hi:Int) (h0:vs=[SZ,.int lo,xrM]) (h1:Uf=xf1) (h2:(xax B (lo≤xd2/\xd2≤hi))) (h3:xeX true):Nq vs H Q JT
def Nz:Ps ["thing","least","most","number"] Jab cu:=M2
def eG (F:Ε "are_whole" cu Jab)(W:xtn fW)(T:xbi):Α 2 Jab Nq:=by
 have GW:xob fW NY Jab Lg:=eJ W T;show xbj Nz (λ JN A outer s H vs Q E hr h=>?_);obtain⟨a,B,lo,hi,rfl,hB,hb,k⟩:=h;show xlq (ab (aH (xqT (xlD iZ T.isi G8 (xbo Os (lS (v:=.ty "list") Z7 T.list EU rfl)))) (xcc dl) az)
  (xmZ (xm8 Os 3 Nz.nd (ae (aH (xqT (xnJ GW W UF KM On)) (xcc dl) az))) dl)) ⟨_,rfl,_,_,_,_,rfl,.lst hB,zk K,_,rfl,xgJ⟩ (xeZ a (xhe hB) (xnw xdf K a xe2 (λ i σ H2=>∃v,σ=[xbv,xdJ lo,xdJ hi,v]/\H2=H) (xdt none rfl) (λ i σ H2 _ z9=>by show xoz e z9 (by show xeY xxM)) ?_ ?_))
 ·rintro i y σ H2 hi ⟨v,rfl,rfl⟩;show xio b KH hi;show xbp h2 h3 (xhG xGE) ⟨_,rfl,_,rfl,_,rfl,_,_,_,rfl,_,rfl,?_⟩;rw [CY h2,CY h3];exact xCY rfl
 ·rintro σ H2 ⟨v,rfl,rfl⟩;exact k
inductive Rz (vs:KB) (H:Hp) (Q:VK) (JT:XK):Prop
 |mk (a:JB) (B:Fr) (h0:vs=xbU) (h1:Uf=xf1) (h2:xa1 B) (h3:xeX true):Rz vs H Q JT
def xI:Ps Jag Jag jg:=M2
structure Rows (K:Frag)(mg:W1):Prop where
 X:xbi
 whole:xBl ca Jab
 arewhole:TD "are_whole" cu Jab
 isrow:TD "is_row" jg Jag
def va (F:Ε "is_row" jg Jag)(Y:xks):Α 3 Jag Rz:=by
 obtain⟨T,⟨_,_,W⟩,⟨_,_,AW⟩,_⟩:=Y;show xcY tg hg T.great xI (λ JN A outer s H vs Q E hr h=>?_)
 intro _;obtain⟨a,B,rfl,hB,hb,k⟩:=h;refine xee (xnJ (eG AW W T) AW Os aj (xaF 255 hg tg));exact⟨_,rfl,a,B,0,255,rfl,hB,λ b z=>by show xaR (xhG z),k⟩
inductive spNeedRow (vs:KB) (H:Hp) (Q:VK) (JT:XK):Prop
 |mk (a:JB) (B:Fr) (h0:vs=xbU) (h1:Uf=xf1) (h2:xa1 B) (h3:∀l,Θ->Q xah (xiZ xe2)):spNeedRow vs H Q JT
def uc:Ps Jag Jag bU:=M2
def bG (F:Ε "need_row" bU Jag)(Y:xks):Α 4 Jag spNeedRow:=by
 obtain⟨fR,fdR,R⟩:=Y.isrow;have T:=Y.X;show xbj uc (λ JN A outer s H vs Q E hr h=>?_);obtain⟨a,B,rfl,hB,hb,k⟩:=h;show xbf (xmZ (xpa (xdy (va R Y) R Os)) (xGC EU xgA)) ⟨_,rfl,a,B,rfl,hB,hb,_,rfl,xgJ⟩;exact⟨_,rfl,a,_,rfl,Ο hB,k⟩
inductive spNeedSize (vs:KB) (H:Hp) (Q:VK) (JT:XK):Prop
 |mk (s:Nat) (h0:vs=xqe) (h1:s≤24) (h2:xjN H):spNeedSize vs H Q JT
def pV:Ps Jah Jah cC:=M2
def ir (F:Ε "need_size" cC Jah)(W:xtn fW)(T:xbi):Α 2 Jah spNeedSize:=by
 have GW:xob fW NY Jab Lg:=eJ W T;show xcY tg hg T.most pV (λ JN A outer s H vs Q E hr h=>?_)
 intro _;show xjD z rfl hz k;show xbf (ae (xpa (xnJ GW W Os aj (xaF 24 hg tg)))) ⟨_,rfl,_,_,_,rfl,_,rfl,?_⟩;have e1:NE (xhk xcQ (SL z)&&xhk (SL z) 24):=by
  rw [xm6,CY (by exact Jr rfl rfl hz)];rfl
 show IO e1 (bd k)
inductive spOnes (vs:KB) (H:Hp) (Q:VK) (JT:XK):Prop
 |mk (s:Nat) (h0:vs=xqe) (h1:xbH s) (h2:xlm (2^s-1) H):spOnes vs H Q JT
def zq:Ps Jah Jah fw:=M2
def lP (F:Ε "ones" fw Jah):xey Jah spOnes:=by
 show xbj zq (λ JN A outer s H vs Q E hr h=>?_);show xjD z rfl hz k;show xs0 (xpR (ap de aj Os)) ⟨_,rfl,_,_,rfl,rfl,xvZ xfl Z9,_,_,rfl,rfl,?_⟩;have e1:xcr*2^xBo z-1=KF (2^z-1):=by
  have:=BP.M9 z;rw [Dz,Int.one_mul];have e2:KF (2^z)=SL 2^z:=Z6;exact xoK this
 try dsimp only
 show IO e1 k
def ox (a b k)(h:b<2^k):(a*2^k)&&& b=0:=by
 have e1:b&&& (2^k-1)=b:=by rw [Gp,FN h]
 have e2:(a*2^k)&&& (2^k-1)=0:=by rw [Gp,Nat.mul_mod_left]
 have e3:(a*2^k)&&& (b&&& (2^k-1))=((a*2^k)&&& (2^k-1))&&& b:=by rw [Nat.and_comm b,Nat.and_assoc]
 rw [e1,e2,Nat.zero_and] at e3;exact e3
def jT (k):KF (2^k)=SL 2^k:=Z6
def pY (a b k:Nat)(h:b<2^k):Builtin.bitOr (xzv*2^xBo k) xnv=KF (a*2^k+b):=by
 have e0:xzv*2^xBo k=KF (a*2^k):=by rw [Dz,Int.natCast_mul,jT]
 rw [e0,PyProof.Rows.bitOr_and,HW (DY (_*2^_)) xfl,Dz,Dz,ox a b k h];exact F1 ((λ {a b}=>Int.neg_inj.mp) rfl)
def dP (x k:Nat):Builtin.bitAnd (SL x) (KF (2^k-1))=KF (x%2^k):=by
 rw [HW xfl Z5,Dz,Dz,Gp]
def lF (x k:Nat):SL x/2^xBo k=KF (x/2^k):=by
 rw [Dz,<-jT];rfl
def md (x k:Nat):SL x*2^xBo k=KF (x*2^k):=by
 rw [Dz,Int.natCast_mul,jT]
def x3 {B:Fr}(hm:xbx m)(hn:xfI n):xou xe2 (xrk m) xaf=Wp (xje n m):=by
 unfold cutV;rw [HT.Kw,HT.Kw,CM,DL hn,DL (CV hm hn),Fa,E1,Jy]
inductive LS (vs:KB) (H:Hp) (Q:VK) (JT:XK):Prop
 |mk (a:JB) (B:Fr) (p s:Nat) (h0:vs=[SZ,vN p,xci]) (h1:Uf=xf1) (h2:xa1 B) (h3:p+s≤xyp 8) (h4:s≤24) (h5:xe0 (Β->xrR (BP.val B/2^(xyp 8-(p+s))%2^s))):LS vs H Q JT
def uY:¬(xe3="rest"):=Z8
def oG:¬(xmu xe3):=Z8
def x0:¬(xmu xoF):=Z8
noncomputable def fW (d:JB) (r k:Nat):xex:=[("whole_bytes",xm2),("rest",vN r),xFY (vN k)]
def yZ (d):putF "rest_size" xmd (putF "rest" xmd (xIR d []))=xmD 0 0:=by
 show(putF "rest_size" xmd (xc7 (xe3="rest") xe3 d [("rest",xtM)]))=_;rw [Dc uY];show(xc7 (xmu xe3) xe3 d (xc2 (xmu xoF) (xoF,xtM) [xFY xtM]))=_;rw [xv0,Dc x0];rfl
def sO (d)(r k r'):xd8 "rest" r' xfo=xmD r' k:=by
 show(xc7 (xe3="rest") xe3 d (xbV xoF "rest" ((xoF,vN r'):: [xFY (vN k)]) _))=_;rw [Dc uY,Τ];rfl
def rH (d)(r k k'):xd8 "rest_size" k' xfo=xmD r k':=by
 show(xc7 (xmu xe3) xe3 d (xc2 (xmu xoF) (xoF,vN r) (xeW (xmu (xck "rest_size")) [(xck "rest_size",vN k')] _)))=_;rw [xv0,Dc x0,Τ];rfl
def sN (d)(r k):xfo=xd8 "rest_size" k (xd8 "rest" r (xIR d [])):=by
 have h:=yZ d;have h2:xd8 "rest" r (xIR d [])=[xt4 xe3 d,("rest",vN r)]:=by
  show(xc7 (xe3="rest") xe3 d [("rest",vN r)])=_;rw [Dc uY]
 rw [h2];show _=(xc7 (xmu xe3) xe3 d (xc2 (xmu xoF) (xoF,vN r) [xFY (vN k)]));rw [xv0,Dc x0];rfl
def jq (d)(r k):xcM xfo "whole_bytes"=xlJ:=by
 rw [sN,ao,xv0,ao,Dc uY,ao,Τ]
def gn (d)(r k):xcM xfo "rest"=SB r:=by
 rw [sN,ao,Dc x0,ao,Τ]
def cN (d)(r k):xcM xfo "rest_size"=SB k:=by
 rw [sN,ao,Τ]
def dw (d)(r k){m:Str}(h1:xdA (xmu m))(h2:xdA (m="rest"))(h3:xdA (m="whole_bytes")):xkW xfo m:=by
 rw [sN,ao,xng,ao,xlt,ao,Dc h3];rfl
def lg (d)(r k):(xfo).length<1000:=by show xcC 3
def JX (C:JB)(H:Hp)(p d:JB)(N T:Nat):Prop:=∃dx B r k,xa2=xbT xfo/\H d=xf1/\BP.BR N T B r k/\k<8
structure CB (K:Frag)(mg:W1)(C:JB):Prop where
 cl:xgc
 nW:xcE "whole_bytes"
 nR:xcE "rest"
 nS:xcE "rest_size"
inductive RE (C:JB) (vs:KB) (H:Hp) (Q:VK) (JT:XK):Prop
 |mk (p dx:JB) (h0:vs=xaO) (h1:xa2=xwc) (h2:∀(d:JB) (H':Hp),XV d->JX C H' p d 0 0->xcT (∀b o,xal=Id->xgd->xdV=Id)):RE C vs H Q JT
def xB:xc3 ra:=M2
def nO (F:xfx K "BitRow.__init__" ra f)(T:CB K mg C):xgS (RE C):=by
 show xau xB (λ JN A outer s H vs Q E hr h=>?_);show xcN p dx hp k h;show xbf (xdu xdM (xse aj aj)) (xem Ω d hd);have Mz:p≠d:=xpB hd;show SC ⟨_,rfl,p,C,dx,[],rfl,(by show Ty Mz hp),T.cl,T.nW,(by show xcC 0),_,rfl,p,C,dx,_,rfl,ac,T.cl,T.nR,(by show xcC 1),?_⟩ ⟨_,rfl,p,C,dx,_,rfl,ac,T.cl,T.nS,?_,?_⟩
 ·show(xc7 (xe3="rest") xe3 d [("rest",xtM)]).length<1000
  try dsimp only
  rw [Dc uY];show xcC 2
 refine k d _ hd ⟨dx,[],0,0,xFE ac (λ l=>xFu C dx l) (yZ d),by rw [xmq,xmq,xmq,ac];rfl,BP.BR.init,Z9⟩ λ b o e hb=>?_
 rw [xjW,xjW,xjW,xhZ hd];exact e
inductive spMove (C:JB) (vs:KB) (H:Hp) (Q:VK) (JT:XK):Prop
 |mk (p d dx:JB) (B:Fr) (r k:Nat) (h0:vs=xaO) (h1:xa2=xbT (xmD r (k+8))) (h2:H d=xf1) (h3:xJR) (h4:k≤100) (h5:xe0 (H' p=xbT (xmD (r%2^k) k)->H' d=ω (B++[r/2^k])->xcT (∀c o,WF=Id->xai->xfq->xaB=Id))):xKk vs H Q JT
def zh:xc3 rB:=M2
def xw (F:Υ "move_byte" "BitRow.move_byte" rB)(O:xBM fw Jah fO Ws)(T:CB K mg C):xfF 2 xKk:=by
 have GO:xob fO Ws Jah spOnes:=lP O;show xau zh (λ JN A outer s H vs Q E hr h=>?_);obtain⟨p,d,dx,B,r,k,rfl,hp,hd,hB,hk,q⟩:=h;have Mz:p≠d:=aF hp hd (by show τ);refine xaT (xdu (xpR XL) (xcz (xfj D1 D5 bu XL (ap gU XL XL)) (xxU (ap gP XL (xdy GO O XL)))))
 have e1:SL (xkx (k+8))-8=xka:=Int.sub_eq_iff_eq_add.mpr rfl;refine⟨_,rfl,p,C,dx,_,_,rfl,hp,T.cl,T.nS,cN _ _ _,_,_,rfl,rfl,_,rfl,p,C,dx,_,rfl,hp,T.cl,T.nS,lg _ _ _,?_⟩
 try dsimp only
 rw [e1,rH];have Kq:(xdh H xfo) p=xbT xfo:=ac;have hd1:(xdh H xfo) d=xf1:=by show Ty Mz.symm hd
 show xgD ⟨_,rfl,p,C,dx,_,_,rfl,Kq,T.cl,T.nW,jq _ _ _,xeD hd1,?_⟩ ⟨_,rfl,p,C,dx,_,_,rfl,Kq,T.cl,T.nR,gn _ _ _,_,rfl,p,C,dx,_,_,rfl,Kq,T.cl,T.nS,cN _ _ _,_,_,rfl,rfl,Z4,?_⟩ ⟨d,_,_,rfl,rfl,hd1,kO (by show xes hB),?_⟩
 try dsimp only
 rw [lF];generalize hH2:xby (xdh H xfo) d (xe2++[vN (r/2^k)])=H2;have J9:H2 p=xbT xfo:=by rw [<-hH2,ag Mz];exact Kq
 have hd2:H2 d=ω (B++[r/2^k]):=by rw [<-hH2,ac,C8];rfl
 have OI:∀c o,WF=Id->xai->xfq->xkl=Id:=λ c o e n1 n2=>by rw [<-hH2,ag n2,ag n1];exact e
 refine⟨_,rfl,p,C,dx,_,_,rfl,J9,T.cl,T.nR,gn _ _ _,_,rfl,p,C,dx,_,_,rfl,J9,T.cl,T.nS,cN _ _ _,k,rfl,xc9 hk,_,_,rfl,rfl,?_⟩
 try dsimp only
 show Tm dP ⟨_,rfl,p,C,dx,_,rfl,J9,T.cl,T.nR,lg _ _ _,?_⟩
 try dsimp only
 show Tm sO (q _ ac (by show Ty Mz.symm hd2) λ c o e n1 n2=>?_)
 show Ty n1 (OI c o e n1 n2)
inductive WI (C:JB) (vs:KB) (H:Hp) (Q:VK) (JT:XK):Prop
 |mk (p d:JB) (N T n s:Nat) (h0:vs=[Φ,xd0,xci]) (h1:xkJ C N T) (h2:T≤4000) (h3:s≤24) (h4:n<2^s) (h5:xe0 (JX C H' p d (N*2^s+n) (T+s)->xcT (∀c o,WF=Id->xai->xfq->xaB=Id))):WI C vs H Q JT
def BV:Ps xFF xFF Ak:=M2
def jj (F:Υ "put" "BitRow.put" Ak)(S:xbt "need_size" cC Jah fS fdS)(W:xtn fW')
  (O:xBM fw Jah fO Ws) (M:xjh C "move_byte" "BitRow.move_byte" rB Jaa fM fdM) (T:CB K mg C) (X:xbi):Α 3 xFF (WI C):=by
 have GO:xob fO Ws Jah spOnes:=lP O;have GW:xob fW' NY Jab Lg:=eJ W X;have GS:xiv 2 fS fdS Jah spNeedSize:=ir S W X;have GM:xiv 2 fM fdM Jaa xKk:=xw M.F O T;show xau BV (λ JN A outer st H vs Q E hr h=>?_);obtain⟨p,d,N,T',n,s,rfl,⟨dx,B,r,k,hp,hd,br,YH⟩,hT,hs,hn,q⟩:=h;have Mz:p≠d:=aF hp hd (by show τ);have J5:xa0:=PP;show xlq (xcz (xdy GS S On) (ab (xpa (aA GW J5 W (xdn KM aj (xbQ GO J5 O On))))
  (xdu (ap vY (ap de XL On) KM) (xdu (xbA XL On) (ae (xpu oM XL aj (xlc (bj Os T.cl M GM hr)))))))) (xeZ s hs ?_) ⟨_,rfl,_,rfl,s,rfl,Z5,_,_,_,rfl,_,rfl,?_⟩;have e1:NE (xhk xcQ xaf&&xhk xaf (KF (2^s-1))):=by
  rw [CY xfl,xm6];rfl
 try dsimp only
 show Tm e1 xgJ;have hr128:r<128:=CZ br.low ((xv1 (Eh YH):2^k≤2^7));refine⟨_,rfl,p,C,dx,_,_,rfl,hp,T.cl,T.nR,gn _ _ _,_,rfl,_,_,rfl,rfl,xvZ xfl Z4,_,rfl,_,_,rfl,rfl,?_⟩
 try dsimp only
 show Tm (pY r n s hn) ⟨_,rfl,p,C,dx,_,rfl,hp,T.cl,T.nR,lg _ _ _,?_⟩
 try dsimp only
 rw [sO];have Kq:∀o,(xfd p o) p=Id:=λ _=>ac
 refine⟨_,rfl,p,C,dx,_,_,rfl,Kq _,T.cl,T.nS,cN _ _ _,_,rfl,_,_,rfl,rfl,_,rfl,p,C,dx,_,rfl,Kq _,T.cl,T.nS,lg _ _ _,?_⟩;have e2:xka+SL s=KF (k+s):=Z5
 try dsimp only
 rw [e2,rH];have br1:=br.put hn;generalize hH1:xdh (xdh H (xmD (r*2^s+n) k)) (xmD (r*2^s+n) (k+s))=H1;have hpA:H1 p=xbT (xmD (r*2^s+n) (k+s)):=by show xa5 hH1 ac
 have hdA:H1 d=xf1:=by rw [<-hH1,xmq,xmq];exact hd
 have OI:∀c o,WF=Id->xai->xfq->H1 c=Id:=λ c o e n1 _=>by rw [<-hH1,ag n1,ag n1];exact e
 refine xac (λ m σ H2=>σ=[xeV,xnX,xhN]/\∃B2 r2,H2 p=xbT (xmD r2 m)/\H2 d=Ι (B2.map vN)/\BP.BR (N*2^s+n) (T'+s) B2 r2 m/\m≤40/\(∀c o,WF=Id->xai->xfq->xkl=Id)) ⟨k+s,rfl,B,_,hpA,hdA,br1,Z5,OI⟩
 rintro m σ H2 ⟨rfl,B2,r2,J9,hd2,br2,hm,oth2⟩;show SC ⟨_,rfl,p,C,dx,_,_,rfl,J9,T.cl,T.nS,cN _ _ _,_,_,rfl,rfl,_,rfl,?_⟩ xkd
 ·have h8:8≤m:=by show xaR xii
  show xga m' m' (m=m'+8) ⟨m-8,Z5⟩;have Q1:xbH B2.length:=by show xaR br2.tot
  refine⟨_,λ σ' H' h=>h,_,rfl,p,dx,_,rfl,J9,xhV,p,d,dx,B2,r2,m',rfl,J9,hd2,Q1,Z5,λ H3 Kz hd3 VM=>?_⟩;exact⟨m',Z5,rfl,_,_,Kz,hd3,br2.move,Z5,λ c o e n1 n2=>VM c o (oth2 c o e n1 n2) n1 n2⟩
 ·have h8:m<8:=by
   have Lx:xhk xko xfm≠true:=h1;by_cases h:xko≤xfm
   ·exact xtA h Lx
   ·lia
  exact q H2 ⟨dx,B2,r2,m,J9,hd2,br2,h8⟩ oth2
inductive Um (C:JB) (vs:KB) (H:Hp) (Q:VK) (JT:XK):Prop
 |mk (p d:JB) (N T:Nat) (h0:vs=xaO) (h1:xkJ C N T) (h2:xlm T H):Um C vs H Q JT
def zX:xc3 uZ:=M2
def xk (F:Υ "many" "BitRow.many" uZ)(T:CB K mg C)(X:xbi):xgS (Um C):=by
 show xau zX (λ JN A outer st H vs Q E hr h=>?_);obtain⟨p,d,N,T',rfl,⟨dx,B,r,k,hp,hd,br,YH⟩,q⟩:=h;show xgD (xee (xbA (xwk xGL) XL)) ⟨_,rfl,p,C,dx,_,_,rfl,hp,T.cl,T.nW,jq _ _ _,d,_,rfl,Ο hd,_,_,rfl,rfl,xCF,?_⟩ ⟨_,rfl,p,C,dx,_,_,rfl,hp,T.cl,T.nS,cN _ _ _,_,_,rfl,rfl,?_⟩;have e:xko*xfD xe2+xka=SL T':=by rw [CM,br.tot];lia
 try dsimp only
 show xeY q
inductive Px (C:JB) (vs:KB) (H:Hp) (Q:VK) (JT:XK):Prop
 |mk (p d:JB) (N T:Nat) (h0:vs=xaO) (h1:xkJ C N T) (h2:T≤4000) (h3:∀(l:JB) (R:Fr) (H':Hp),Θ->xaq=xnl->BP.K' N T R->Β->xak):Px C vs H Q JT
def P2:xqK (xjb "told") me:=M2
def tz (F:Υ "row" "BitRow.row" me)(T:CB K mg C)(X:xbi):xgS (Px C):=by
 show xau P2 (λ JN A outer st H vs Q E hr h=>?_);obtain⟨p,d,N,T',rfl,⟨dx,B,r,k,hp,hd,br,YH⟩,hT,q⟩:=h;show xbf (xaU 1 P2.nd (xGB X.list EU xCj) (xgs cB XL aj (aB (xfj D1 D5 bu KM (ap de XL (xf2 aj XL)))) az) KM) ⟨_,rfl,p,C,dx,_,_,rfl,hp,T.cl,T.nW,jq _ _ _,d,_,rfl,Ο hd,LE l hl⟩;have npl:p≠l:=xpB hl;have Kq:(xiZ xe2) p=xbT xfo:=by show Ty npl hp
 show SC ⟨_,rfl,p,C,dx,_,_,rfl,Kq,T.cl,T.nS,cN _ _ _,_,_,rfl,rfl,_,rfl,?_⟩ xkd
 ·have h0:0<k:=by show xaR xii
  have hr128:r<128:=CZ br.low ((xv1 (Eh YH):2^k≤2^7));have Q1:xJR:=by show xaR br.tot
  have e1:xko-xka=KF (8-k):=xoK (Dr YH);refine⟨_,rfl,xeD ac,_,rfl,p,C,dx,_,_,rfl,Kq,T.cl,T.nR,gn _ _ _,_,rfl,p,C,dx,_,_,rfl,Kq,T.cl,T.nS,cN _ _ _,_,_,rfl,rfl,?_⟩
  try dsimp only
  show Tm e1 ⟨_,_,rfl,rfl,xvZ xfl Z4,l,_,_,rfl,rfl,ac,kO (by show xes Q1),_,rfl,?_⟩
  try dsimp only
  show Tm md (q l (B++[r*2^(8-k)]) _ hl (by rw [ac,C8];rfl) (br.row1 h0 YH) (xda b o))
  rw [xhZ hl,xhZ hl];exact e
 ·have h0:k=0:=by
   have Lx:xfM xcQ xka≠true:=h1;by_cases h:xcQ<xka
   ·exact xtA h Lx
   ·lia
  subst h0;show xbf rfl (q l B _ hl ac br.row0 (xda b o))
  show xf9 hl e
def zZ:¬(xBt="taken"):=Z8
noncomputable def fR (d:JB) (t:Nat):xex:=[("held",xm2),("taken",vN t)]
def sG (d)(t):xd8 "taken" t (xi5 "held" d [])=xnt:=by
 show(xc7 (xBt="taken") xBt d [("taken",vN t)])=_;rw [Dc zZ];rfl
def zW (d)(t t'):xd8 "taken" t' xnt=fR d t':=by
 show(xc7 (xBt="taken") xBt d (xbV (xck "taken") "taken" [(xck "taken",vN t')] _))=_;rw [Dc zZ,Τ];rfl
def jW (d)(t):xcM xnt "held"=xlJ:=by
 rw [<-sG,ao,Dc zZ,ao,Τ]
def eO (d)(t):xcM xnt "taken"=SB t:=by
 rw [<-sG,ao,Τ]
def eD (d)(t){m:Str}(h1:xdA (m="taken"))(h2:xdA (m="held")):xkW xnt m:=by
 rw [<-sG,ao,xng,ao,xlt];rfl
def Ax (d)(t):(xnt).length<1000:=by show xcC 2
universe K31
namespace K31
open PySem L2 QQ W17 W16 BP
seal PE PA PS PSs PT PW PG PI
def K7 (H:Hp)(x:V)(W:Fr):Prop:=(x=.non/\W=[])\/∃a,x=SZ/\Uf=xj1
def K7.same {H H':Hp}{x:V}(h:xhW)(s:Β):K7 H' x W:=by
 rcases h with h|⟨a,e,h⟩
 ·show xaN h
 ·show xbX ⟨a,e,xgi h⟩
inductive NZ (H:Hp):xaa->Ψ xaJ
 |nil:NZ H [] []
 |cons {t:JB} {q:xev} {ts:xaa} {ps:xaJ}:H t=xcd [vN xaZ,vN xbh]->xtp H->NZ H (t::ts) (q::ps)
def NZ.keep (h:xtp H)(s:∀c xs,WF=xgK->xaB=xgK):xtp H':=by
 induction h with
 |nil=>show xg0
 |cons a _ ih=>exact xjt (xgi a)
def NZ.mono (h:xtp H)(s:Β):xtp H':=h.keep λ c xs e=>xs6
def NZ.app (h:xtp H)(g:NZ H us qs):NZ H (ts++us) (ps++qs):=by
 induction h with
 |nil=>exact g
 |cons a _ ih=>exact xjt a
def NZ.len (h:xtp H):xwM ts.length:=by
 induction h with
 |nil=>rfl
 |cons a _ ih=>rw [Df,Df,ih]
theorem NZ.at (h:xtp H):∀{i:Nat} {t},xad ts t->∃q,xad ps q/\H t=xcd [vN xaZ,vN xbh]:=by
 induction h with
 |nil=>intro i t h;show xbm
 |cons a _ ih=>
  intro i t h;cases i with
  |zero=>show xbm;subst h;exact xbd a
  |succ i=>show xbm;exact ih h
def iE {ts:xaa}{i:Nat}(h:xad (xcK) y):∃t,xad ts t/\y=xfc:=by
 rw [DX] at h;cases e:xa6 ts with
 |none=>show Tl e h h
 |some z=>show UV e h (xnc z (xB5 h))
def nr {α:Type}{B:xbF}{b:α}(h:xad B b):B.take (i+1)=xxr++xft:=by rw [Ei,h];rfl
def JX.keep (h:xkJ C N T)(s:∀c o,WF=Id->(c=p\/c=d)->xaB=Id):JX C H' p d N T:=by
 obtain⟨dx,B,r,k,h1,h2,h3⟩:=h;exact⟨dx,B,r,k,xgi h1 xbZ,xhm _ _ h2 rfl,h3⟩
def JX.sm (h:xkJ C N T):(∃o,xa2=Id)/\∃o,H d=Id:=by
 obtain⟨dx,B,r,k,h1,h2,h3⟩:=h;show xaI (xbs h1) (xbs h2)
def JX.ob (h:xkJ C N T):∃dx r k,xa2=xbT xfo:=by
 obtain⟨dx,B,r,k,h1,h2,h3⟩:=h;show xaC dx r k h1
def cI {H:Hp}(h:∃o,Uf=Id)(n:xdb):a≠b:=LT (by
 obtain⟨o,h⟩:=h;show xbY n h h)
structure VF (K:Frag)(mg:W1)(C:JB):Prop where
 R:xks
 T:CB K mg C
 m:mg "BitRow"=xhM
 needsize:TD "need_size" cC Jah
 ones:TD "ones" fw Jah
 init:∃f fd,xfx K "BitRow.__init__" ra f/\xy7/\xqo
 put:∃f fd,xsX "put" "BitRow.put" Ak xFF f fd
 move:∃f fd,xg2 "move_byte" "BitRow.move_byte" rB
 many:∃f fd,xg2 "many" "BitRow.many" uZ
 row:∃f fd,xg2 "row" "BitRow.row" me
structure XI (K:Frag)(mg:W1)(x:Str)(st:JL)(ps:xaj)(f:JB)(fd:JG):Prop where
 F:∃dV,xlI x x st dV f fd
 m:mg x=xdU
 b:xnq
 d:xxT K xCx
theorem XI.kp (F:XI K mg x st ps f fd):xhT:=F.F.elim λ _ z=>z.kp
noncomputable def itm:Pc->KB
 | .sg s=>[xDr "sign",xci]
 | .cp b z=>[xrg,xdz,vN z]
def TF (H:Hp)(ts:xaa)(P:xek):Prop:=ts.length=P.length/\∀(i:Nat) a x,xad ts a->xa6 P=Χ->Uf=xHd x
def PL (H:Hp)(l:JB)(P:xek):Prop:=∃ts,H l=xsE/\TF H ts P
def TF.keep (h:TF H ts P)(k:∀a xs,Uf=xgK->H' a=xgK):TF H' ts P:=⟨xbW,λ i a x h1 h2=>xmX (xez i a x h1 h2)⟩
def TF.snoc {P:xek}(h:TF H ts P){t:JB}{x:Pc}(e:H t=xHd x):TF H (ts++[t]) (P++xbl):=by
 refine⟨by simp [xbW],λ i a y h1 h2=>?_⟩;rw [List.getElem?_append] at h1 h2;rw [<-xbW] at h2
 split at h1
 ·rename_i c
  show UV (Dq c) h2 (xez i a y h1 h2)
 ·rename_i c
  rw [Dc c] at h2;have e0:i-ts.length=0:=by
   have:=xco h1;simp at this
   assumption
  rw [e0] at h1 h2;show xgk h1 h2;exact e
def ve:xMe "copy"≠xMe "sign":=xef h (V.str.inj h) Z8
noncomputable def cpy (B:Fr) (b:Nat):xaQ Fr
 |0=>B
 |n+1=>xzn++[(xzn).getD (xBp B n-b) 0]
theorem cF (B)(b):∀n,xat xzn (xrE n)
 |0=>rfl
 |n+1=>by
  rw [cpy,CN,cF B b n];simp;omega
theorem oY {S:Fr}(KH:xdd)(hb:b≤p)(hz:xfL (p+z))(h:∀i<z,S[p+i]?=S[p+i-b]?):∀n,n≤z->cpy xur b n=S.take (p+n)
 |0,_=>rfl
 |n+1,hn=>by
  have hl:xat (S.take (p+n)) (p+n):=by show xam Dd
  rw [cpy,oY KH hb hz h n (Ff hn),hl];have h1:xdN (p+n):=CZ (FY hn _) hz;rw [show p+(n+1)=p+n+1 by lia,Ei,CU h1];congr 1;show xaM h2 (h n xeg) (CU h1) h2;rw [Dn,IZ,xzE,<-h2];rfl
inductive Oa (vs:KB) (H:Hp) (Q:VK) (JT:XK):Prop
 |mk (x:V) (m:Nat) (W:Fr) (h0:vs=[x,xiH]) (h1:xhW) (h2:xa1 W) (h3:xDx m) (h4:∀l H',Β->Θ->xaq=xj1->xak):Oa vs H Q JT
def Oo:Ps ["before","most","window"] xtW dJ:=M2
def jf {P:JE}(F:Ε "need_window" dJ xtW)(N:xAC bU Jag fN Qk)(Y:xks):Α 5 xtW Oa:=by
 have T:=Y.X;show xbj Oo (λ JN A outer s H vs Q E hr h=>?_);obtain⟨x,m,W,rfl,hx,hb,hl,k⟩:=h;refine xaT (ab (xhr gJ Os cU (xcc xdM) az)
  (xaU 2 Oo.nd (xdy (bG N Y) N Os) (xgW cB xGO KM) On))
 rcases hx with⟨rfl,rfl⟩|⟨b,rfl,hB⟩
 ·exact xik _ _ (λ _=>xg9 (λ l nl=>xql xfY nl ac)) (λ h=>xlB rfl)
 ·show xgD (xik _ _ (xef h xbK (by show τ)) xcm) ⟨_,rfl,b,W,rfl,hB,hb,LE l hn⟩ ⟨_,rfl,l,_,rfl,Ο ac,_,rfl,_,_,rfl,rfl,_,rfl,xvH xcm⟩
  ·show xc6 xbK CM;lia
  ·exact xbd (xql (ak hn) hn ac)
inductive Mw (vs:KB) (H:Hp) (Q:VK) (JT:XK):Prop
 |mk (x:V) (W:Fr) (h0:vs=xbl) (h1:xhW) (h2:xa1 W) (h3:xm4) (h4:∀l H',Β->Θ->xaq=xj1->xak):Mw vs H Q JT
def py:Ps xjj xjj di:=M2
def gD {P:JE}{f fW fN:JB}{fd NY Qk:JG}(F:Ε "need_ahead" di xjj)(Wi:xbt "need_window" dJ xtW fW NY)(N:xAC bU Jag fN Qk)(Y:xks):Α 6 xjj Mw:=by
 show xcY tg hg Y.X.ahead py (λ JN A outer s H vs Q E hr h=>?_)
 intro _;obtain⟨x,W,rfl,hx,hb,hl,k⟩:=h;refine xee (xbe (jf Wi N Y) hr Wi Os (xaF 192 hg tg));exact⟨_,rfl,x,192,W,rfl,hx,hb,hl,k⟩
inductive Mv (vs:KB) (H:Hp) (Q:VK) (JT:XK):Prop
 |mk (a:JB) (x:V) (T W:Fr) (h0:vs=[SZ,x]) (h1:Uf=xbJ) (h2:xa1 T) (h3:xgw 1) (h4:xsI) (h5:xhW) (h6:xa1 W) (h7:xm4) (h8:∀l H',Β->Θ->xaq=xbJ->xak):Mv vs H Q JT
def Mx:Ps ["text","before","signs"] Jae f7:=M2
def cZ {P:JE}{f fA fW fN:JB}{fd Xz NY Qk:JG}(F:Ε "need_signs" f7 Jae)(Ah:xbt "need_ahead" di xjj fA Xz)(Wi:xbt "need_window" dJ xtW fW NY)(N:xAC bU Jag fN Qk)(Y:xks):Α 7 Jae Mv:=by
 have T:=Y.X;show xcY tg hg T.signs Mx (λ JN A outer s H vs Q E hr h=>?_)
 intro _;obtain⟨a,x,S,W,rfl,ha,hSb,h1,Kx,hx,hb,hl,k⟩:=h;have OP:xan 4:=PP;show xnf (xdj 2 Mx.nd (xbQ (bG N Y) OP N Os) (xvC (xok bK xGO) (xcZ cB xGO (xaF 64 hg tg))) (xcz (xdy (gD Ah Wi N Y) Ah KM) (xcc On))) ⟨_,rfl,a,S,rfl,ha,hSb,xdX l nl⟩;have s0:=xas xkO nl;have SU:(xiZ xkO) l=xir:=ac;show xbb H l xkO H1;refine xeq ⟨_,rfl,l,_,rfl,Ο SU,rfl,_,rfl,xvH xcm⟩
 ·have:=xbK;injection this with this
  show xmj CM;lia
 refine⟨_,rfl,l,_,rfl,Ο SU,_,_,rfl,rfl,_,rfl,xCz χ⟩
 ·show xc6 xbK CM;lia
 clear g1;refine xeq ⟨_,rfl,x,W,rfl,xKl,hb,hl,λ l2 H2 s2 n2 Oz=>χ⟩
 exact xbd (xdE H2 (s0.trans s2) nl (xca SU))
inductive RG (vs:KB) (H:Hp) (Q:VK) (JT:XK):Prop
 |mk (a:JB) (S:Fr) (p b m:Nat) (h0:vs=[SZ,vN p,xdz,xiH]) (h1:Uf=xir) (h2:b≤p) (h3:xfL (p+m)) (h4:xlm xiD H):RG vs H Q JT
def OF:Ps ["signs","place","back","most","size"] xCr mC:=M2
def wC (F:Ε "alike_from" mC xCr):xey xCr RG:=by
 show xbj OF (λ JN A outer st H vs Q E hr h=>?_);obtain⟨a,S,p,b,m,rfl,hS,hb,hm,k⟩:=h;refine xaT (xaU 4 OF.nd aj (xA6 (xBR (xcZ dt υ UF) (gz (xcZ bK (xkf xCt) (xkf (xf2 xCt On))))) (xij 4 OF.nd xGV)) υ)
 show xwq (xeq (xac (λ n σ H2=>∃i,n=m-i/\σ=[xbv,xnW,xkp,xqa,SB i]/\H2=H/\i≤m/\∀j<i,S[p+j]?=S[p+j-b]?) ⟨m,0,rfl,rfl,rfl,Ω,xjE j hj hj (Jt _)⟩))
 rintro n σ H2 ⟨i,rfl,rfl,rfl,hi,J7⟩;refine⟨_,rfl,_,rfl,_,_,rfl,rfl,_,rfl,xkd⟩
 ·have h2:i<m:=by have:=xii;exact xus
  have e1:xlO+xhE=xiX i:=Z5;have e2:xiX i-xd2=KF (p+i-b):=xoK (Ek hb);have l1:xdN (p+i):=Z5;have l2:xdN (p+i-b):=Ev l1;refine⟨_,rfl,_,rfl,_,rfl,_,_,rfl,rfl,?_⟩
  try dsimp only
  show xnF e1 ⟨a,_,_,_,rfl,rfl,xGw,xla l1,?_⟩ ⟨_,rfl,_,rfl,_,rfl,_,_,rfl,rfl,_,rfl,_,_,rfl,rfl,?_⟩
  try dsimp only
  rw [e1,e2];refine⟨a,_,_,_,rfl,rfl,xGw,xla l2,rfl,_,rfl,xec h3 h3⟩
  ·have h4:S[p+i]=S[p+i-b]:=Kn.mp (C5 h3);refine xac (λ σ' H'=>σ'=[xbv,xnW,xkp,xqa,SB (i+1)]/\H'=H2) (λ σ' H' z=>⟨m-(i+1),Z5,i+1,rfl,xd3,xgV, xeg,xte⟩)
   ·by_cases e:j=i
    ·subst e;rw [CU l1,CU l2,h4]
    ·exact J7 j (D8 (Eh hj) e)
   ·exact⟨_,rfl,_,_,rfl,rfl,rfl,rfl⟩
  ·refine xzf;have h4:S[p+i]?≠S[p+i-b]?:=by
    rw [CU l1,CU l2];intro z;exact h3 (xBk (DK z))
   show UV (xf J7 h4 m xeg) k k
 ·refine bd xzf;have h2:i=m:=by
   have Lx:¬(xsb xcD xfm):=h1;have:¬(xcD<xfm):=LT (Lx xsf)
   lia
  subst h2;show UV (wf J7) k k
inductive Oc (vs:KB) (H:Hp) (Q:VK) (JT:XK):Prop
 |mk (a:JB) (S:Fr) (p:Nat) (h0:vs=[SZ,vN p]) (h1:Uf=xir) (h2:xdN p) (h3:xbH S.length) (h4:∀t,XV t->Q xfc (xbE H t [xrg,vN xvB,vN xnz])):Oc vs H Q JT
def Ki:Ps ["signs","place","most","best_back","best_size","back","size"] ["signs","place"] jv:=M2
def qo (F:Ε "longest_copy" jv ["signs","place"])(AF:xbt "alike_from" mC xCr fA Xz)(T:xbi):xlu ["signs","place"] Oc:=by
 obtain⟨tf,hf⟩:=T.far;show xcY tm hm T.mostC Ki (λ JN A outer st H vs Q E hr h=>?_)
 intro _;obtain⟨a,S,p,rfl,hS,hp,hlen,k⟩:=h;have hn:=xuO;have J5:xa0:=PP;show xuE (xfV 2 Ki.nd (xlD xGF T.min Hb (xbo (xaF 18 hm tm) (xf2 xk9 KM))) (xaz 3 Ki.nd aj (xaU 4 Ki.nd aj (xlg (gW Z7 T.range (xbo aj (xhy (xlD xGF T.min Hb (xbo (xaF 255 hf tf) KM))))) 5 Ki.nd (ab (xgs bK υ On oh az)
   (ae (xhr bK (xkf xCt) (xkf (xf2 xCt xaL)) (xdQ 6 Ki.nd (aA (wC AF) J5 AF (aa Os (xdn KM xaL On))) (xhr cB xeN υ (xdQ 3 Ki.nd xaL (xom 4 Ki.nd xeN)) az)) az)))) (cD (xdn jA UF υ))))) ⟨_,rfl,a,_,rfl,Ο hS,_,rfl,_,_,rfl,rfl,_,_,rfl,χ⟩;have em:xeW (xfD xkO-xlO<18) (xfD xkO-xlO) 18=KF xb3:=by
  rw [CM];unfold most
  split<;>lia
 try dsimp only
 rw [em];have hm2:xb3≤18/\xfL (p+xb3):=by unfold most;lia
 show xvu;show xwq xbu
 have JR:∀v5 v6,R1 [xbv,xnW,SB xb3,SB xvB,SB xnz,v5,v6] H:=λ v5 v6=>by
  refine χ;exact xeZ _ (by show xcR 3) k
 clear g1;have ef:xeW (xlO<255) xlO 255=KF xgG:=by
  unfold far
  split<;>lia
 refine⟨_,rfl,_,_,rfl,?_⟩
 try dsimp only
 rw [ef];have hfar:xnK xgG/\xgG≤p:=by unfold far;show xaI xiF (Et _ _)
 refine⟨_,_,rfl,rfl,1,KF xgG+1,rfl,⟨Z5,Z5,Z5,Z5⟩,?_⟩;have en:xkh (KF xgG+1) 1=xgG:=Z5
 try dsimp only
 show Tm en (xs5 xdf 1 xgG (λ j σ H2=>∃v5 v6,σ=[xbv,xnW,SB xb3,SB (xof xb3 j).1,SB xiT,v5,v6]/\H2=H) (xlv none none) ?_ ?_)
 ·rintro j σ H2 hj ⟨v5,v6,rfl,rfl⟩;have eb:xcr+xvy=xjL j:=Z5
  try dsimp only
  show Tm eb (xon g2 ⟨_,rfl,_,rfl,rfl,_,rfl,xkd⟩)
  ·have h2:xiT=xb3:=Kn.mp xii;have e:=sh h2 xgG (Ff hj);have J:=JR (SB (j+1)) v6;unfold lcAt at J;show UV e J J
  ·have h2:xiT≠xb3:=LT (h1 (xBk z))
   have hle:=sk S p xb3 j;show xfp xcG;have e1:xlO+KF xiT=xiX xiT:=Z5;have e2:xiX xiT-xjL j=KF (p+xiT-(j+1)):=Z5;have l1:xdN (p+xiT):=Z5;have l2:xdN (p+xiT-(j+1)):=Z5;refine⟨_,rfl,_,rfl,_,rfl,_,_,rfl,rfl,?_⟩
   try dsimp only
   show xnF e1 ⟨a,_,_,_,rfl,rfl,xGw,xla l1,?_⟩ ⟨_,rfl,_,rfl,_,rfl,_,_,rfl,rfl,_,rfl,_,_,rfl,rfl,?_⟩
   try dsimp only
   rw [e1,e2];refine⟨a,_,_,_,rfl,rfl,xGw,xla l2,rfl,_,rfl,xec h3 h3⟩
   ·show SC ⟨_,rfl,_,rfl,_,rfl,_,rfl,a,S,p,j+1,xb3,rfl,hS,CV hj hfar.2,String.Pos.Raw.mk_le_mk.mp hm2.2,?_⟩ ⟨_,rfl,_,rfl,_,_,rfl,rfl,_,rfl,xec h4 h4⟩
    ·have h5:xiT<xld (j+1) xb3:=by have:=C5 h4;exact xus
     refine⟨_,rfl,_,rfl,SB (j+1),SB (xld (j+1) xb3),?_,rfl⟩;rw [lc,Dq h5];rfl
    ·have h5:¬xiT<xld (j+1) xb3:=LT (h4 xm6)
     refine⟨SB (j+1),SB (xld (j+1) xb3),?_,rfl⟩;rw [lc,Dc h5];rfl
   ·refine⟨SB (j+1),v6,?_,rfl⟩;have h4:S[p+xiT]?≠S[p+xiT-(j+1)]?:=by
     rw [CU l1,CU l2];intro z;exact h3 (xBk (DK z))
    rw [xE h4];rfl
 ·rintro σ H2 ⟨v5,v6,rfl,rfl⟩;exact JR v5 v6
inductive Nf (vs:KB) (H:Hp) (Q:VK) (JT:XK):Prop
 |mk (a:JB) (x:V) (W T:Fr) (h0:vs=[SZ,x]) (h1:Uf=xbJ) (h2:xhW) (h3:xa1 W) (h4:xa1 T) (h5:xDx 255) (h6:xz9 500) (h7:∀l P H',Β->Θ->PL H' l P->xs9 (W++T) P W T->xak):Nf vs H Q JT
def Kb:Ps ["text","before","own_signs","signs","place","pieces","found"] Jae ik:=M2
structure V4 (K:Frag)(mg:W1):Prop where
 R:xks
 needrow:xFz bU Jag
 needwin:TD "need_window" dJ xtW
 alike:TD "alike_from" mC xCr
 longest:TD "longest_copy" jv ["signs","place"]
def ip {P:JE}{w:JF}{K:Frag}(F:XI K mg "pieces_of" ik Jae f fd)(Y:V4 K mg):xnj Jae Nf:=by
 obtain⟨R,⟨_,_,N⟩,⟨_,_,NW⟩,⟨_,_,AF⟩,⟨_,_,L⟩⟩:=Y;show xmL T R.X tl hlc T.least;obtain⟨tf,hfr⟩:=T.far;show xbp dV FF F.F (FF.ok Kb λ JN A outer st H vs Q E hr h=>?_)
 intro _;obtain⟨a,x,W,Tx,rfl,ha,hx,hbW,hbT,hW,hT,k⟩:=h;have OP:xan 4:=PP;have hr5:xan 5:=PP;show xuE (xfV 2 Kb.nd (xbQ (bG N R) OP N Os) (xaz 3 Kb.nd (xcB (xbe (jf NW N R) hr5 NW KM (xaF 255 hfr tf)) On) (xaz 4 Kb.nd (xf2 (xwB UF) xGO) (xaU 5 Kb.nd xdM (xpu dt υ (xwB UF) (xdQ 6 Kb.nd (xbe (qo L AF R.X) hr L UF υ) (xhr oM (xoI xeN) (xaF 3 hlc tl) (xcz (xfj D1 D5 bu xaL xeN) (xij 4 Kb.nd (xbA υ (xoI xeN)))) (xcz (xfj D1 D5 bu xaL (xjF jA (xro UF υ))) (xij 4 Kb.nd xGV))))) xaL)))) ⟨_,rfl,a,Tx,rfl,ha,hbT,xdX l1 n1⟩;have s1:xcn (xby H l1 xEY):=ak n1;refine xeq ⟨_,rfl,x,255,W,rfl,xJy,hbW,hW,λ l2 H2 s2 n2 Oz=>?_⟩
 have h1a:H2 l1=Ι xEY:=xca ac;show xbI ⟨_,rfl,l2,l1,_,_,rfl,rfl,Oz,h1a,a9 (by rw [CM,CM];lia),xdX l3 n3⟩;have s3:=xas (xkP++xEY) n3
 try dsimp only
 rw [<-C8] at s3 ⊢;have ZR:xct H2 l3 (W++Tx) l3=ω (W++Tx):=ac;have hS1:=xbL h1a;have QO:=xxI s3;generalize hH3:xfv H2 l3 (W++Tx)=H3 at*;clear hH3 s3 n3 h1a s2 n2 s1;show xds ⟨_,rfl,l3,_,rfl,Ο ZR,_,rfl,l1,_,rfl,Ο hS1,_,_,rfl,rfl,χ⟩;have ep:xfD (Wp (W++Tx))-xfD xEY=KF W.length:=by
  rw [CM,CM,CN];lia
 try dsimp only
 rw [ep];generalize hS:W++Tx=S at*;have hSl:xyq (xDD Tx.length):=by rw [<-hS,CN]
 show xds (xg9 (xdX l5 n5));have s5:=xj0 n5;have n5':XV l5:=xBO QO;have hS5:=xar ZR;have n35:l3≠l5:=ad ZR n5;have UN:=QO.trans s5;refine xeq (xac (λ n σ H2=>∃q Pp ts v6,n=xrC q/\σ=[xbv,Χ,ST l1,ST l3,SB q,ST l5,v6]/\xfL q/\xHG S Pp q/\H2 l3=xir/\H2 l5=xsE/\TF H2 ts Pp/\xiq) ⟨xrC W.length,W.length,[],[],none,rfl,rfl,Nat.le.intro hSl.symm,rfl,hS5,ac,xb2 (λ i b y h=>by show xbm),UN⟩)
 rintro n σ H2 ⟨q,Pp,ts,v6,rfl,rfl,hq,hw,h3,h5,OK,sm⟩;refine⟨_,rfl,_,rfl,l3,_,rfl,Ο h3,_,_,rfl,rfl,_,rfl,xec hc hc⟩
 ·have LH:xdN q:=by show xkX (C5 hc) CM xus
  refine xac (λ σ' H'=>∃q' Pp ts v6,q<q'/\σ'=[xbv,Χ,ST l1,ST l3,SB q',ST l5,v6]/\xfL q'/\xHG S Pp q'/\H' l3=xir/\H' l5=xsE/\TF H' ts Pp/\Β) (λ σ' H' z9=>by obtain⟨q',Pp,ts,v6,JO,z1,z2,z⟩:=z9;exact⟨xrC q',Z4,q',Pp,ts,v6,rfl,z1,z2,z⟩)
  have hlen:xfL Pp.length:=by show xaR (cL hw)
  have Yx:=gT LH;show xcg g2 ⟨_,rfl,_,rfl,l3,S,q,rfl,h3,LH,Z5,λ t nt=>xcG⟩ g2;have st:=xth [xrg,vN xrY,vN xhx];have ht:(xiA t [xrg,vN xrY,vN xhx]) t=xcd [xrg,vN xrY,vN xhx]:=ac;have h3t:=xd6 h3;have UZ:=xd6 h5;have htst:=OK.keep (H':=xiA t [xrg,vN xrY,vN xhx]) (xra (xd6 z))
  have smt:=sm.trans st;generalize hHt:xiA t [xrg,vN xrY,vN xhx]=Ht at*;clear hHt st;have hap:∀H4 u,H4 l5=xsE->H4 l3=xir->TF H4 ts Pp->xcn H4->H4 u=xHd (xtR q)->
    xbC H4 l5 (xcK++[xC5]) l3=xir/\xbC H4 l5 (xcK++[xC5]) l5=Ι (xrd (ts++xi0))/\TF (xby H4 l5 (xcK++[xC5])) (ts++xi0) (Pp++[xtR q])/\xcn (xby H4 l5 (xcK++[xC5])):=by
   intro H4 u a5 a3 at' as au;have kt:∀b xs,H4 b=xgK->xbC H4 l5 (xcK++[xC5]) b=xgK:=λ b xs z=>by
    show Ty (xkm a5 (by show xgp y y)) z
   refine⟨by show Ty n35 a3,by rw [ac,C8];rfl,(at'.keep kt).snoc (kt _ _ au),Sc b o z⟩;show xh3 z n5' (as _ _ z)
  refine⟨_,rfl,t,_,_,_,rfl,rfl,xoU,xwy 2,_,_,rfl,rfl,_,rfl,xec h6 h6⟩
  ·have h7:3≤xhx:=by have:=C5 h6;exact I0.mp this
   have Y0:xtR q=.cp xrY xhx:=by show xbk pcAt (Dq h7)
   obtain⟨b3,b5,bt,bs⟩:=hap Ht t UZ h3t htst smt (by show IO Y0 ht);refine⟨_,rfl,xeD UZ,_,rfl,l5,_,_,rfl,rfl,UZ,bw (by rw [CM,xsy];lia),?_⟩;have ht2:xbC Ht l5 (xcK++[xfc]) t=xcd [xrg,vN xrY,vN xhx]:=by
    show Ty (aF ht UZ (by show xgp y y)) ht
   refine⟨_,rfl,_,rfl,t,_,_,_,rfl,rfl,Kk.of ht2,xwy 2,_,_,rfl,rfl,?_⟩;rw [Y0] at bt Yx;show xaM Wf (c7 hw LH) Y0 Wf;have hz:xKm xrY xhx=xhx:=rfl;rw [hz] at Wf Yx;refine⟨q+xhx,_,_,ST t,EN Yx.1,?_,Yx.2,Wf,b3,b5,bt,bs⟩;have e2:KF q+KF xhx=KF (q+xhx):=Z5
   try dsimp only
   rw [e2];rfl
  ·have h7:¬3≤xhx:=LT (h6 xm6)
   have Y0:xtR q=.sg S[q]:=by show xbk pcAt (Dc h7);simp [List.getD,LH]
   refine⟨_,rfl,xeD UZ,_,rfl,_,rfl,l3,_,_,_,rfl,rfl,JS.of h3t,xla LH,(by show xeE),LE u nu⟩;have su:=xoy [xDr "sign",vN S[q]] nu;obtain⟨b3,b5,bt,bs⟩:=hap (xbE Ht u [xDr "sign",vN S[q]]) u (su _ _ UZ) (su _ _ h3t) (htst.keep (xra (su _ _ z))) (smt.trans su) (by show IO Y0 ac);show SC ⟨l5,_,_,rfl,rfl,su _ _ UZ,bw (by rw [CM,xsy];omega),?_⟩ ⟨_,rfl,_,_,rfl,rfl,?_⟩;have Wf:=c7 hw LH;rw [Y0] at bt Wf Yx;exact⟨q+1,_,_,ST t,Ij _,rfl,Yx.2,Wf,b3,b5,bt,bs⟩
 ·have LH:xrQ q:=by
   have h1:¬(xsb (KF q) (xfD xkO)):=hc;rw [CM] at h1;have:¬(KF q<KF S.length):=LT (h1 xsf)
   lia
  subst LH;refine xzf;exact k l5 Pp H2 sm n5' ⟨ts,h5,OK⟩ hw
noncomputable def app (B:Fr):Pc->Fr
 | .sg s=>B++[s]
 | .cp b z=>xCS z
def runP (B:Fr)(P:xek):Fr:=P.foldl app B
noncomputable def pcP:Pc->xaJ
 | .sg s=>[(0,1),(s,8)]
 | .cp b z=>[(1,1),(b,8),(z-3,4)]
def pP (P:xek):xaJ:=P.flatMap pcP
def fE (B:Fr):Ψ Pc
 | .sg s=>xbN s
 | .cp b z=>xdd/\xnK b/\xfI b/\3≤z/\z≤18
def GR:Fr->Ψ xek
 |_,[]=>True
 |B,x::P=>fE B x/\GR (xzF x) P
def fK (B)(x):xat (xzF x) (xrE x.size):=by
 cases x with
 |sg s=>show xbq B [s]=xrE 1;simp
 |cp b z=>exact cF B b z
def tD (P Q:xek):pP (P++Q)=pP P++pP Q:=by simp [pP]
def d5 (x)(P):pP (x::P)=pcP x++pP P:=by simp [pP]
def AG (x:Pc):pP xbl=pcP x:=by simp [pP]
theorem GR.at:∀{P} {B} {i} {x},GR B P->xa6 P=Χ->fE (runP B (P.take i)) x
 |y::P,B,0,x,h,e=>by simp at e;subst e;exact xbW
 |y::P,B,i+1,x,h,e=>by
  have:=GR.at (P:=P) (B:=xzF y) (i:=i) (x:=x) xez (by show xzo);show xi3
def uH (h:fE B x):Δ x.size/\x.size≤18:=by
 cases x with
 |sg s=>exact xpP (by show Δ 18;decide)
 |cp b z=>
  obtain⟨_,_,_,h1,h2⟩:xdd/\xnK b/\xfI b/\3≤z/\z≤18:=h;show xaI (by show Δ z;omega) h2
theorem GR.len:∀{P} {B:Fr},GR B P->xrE P.length≤xE9 B P
 | [],B,_=>P3
 |x::P,B,h=>by
  have h1:=GR.len (P:=P) (B:=xzF x) xez;show xaM h2 (uH xbW) fK h1;show xrE (xfw 1)≤xE9 (xzF x) P;omega
theorem rn:∀{P} {B},GR B P->Good (pP P)
 | [],_,_=>λ q hq=>by cases hq
 |x::P,B,h=>by
  have ih:=rn (P:=P) (B:=xzF x) xez;intro q hq;rw [d5] at hq;show xbR hq hq hq
  ·cases x with
   |sg s=>
    have hs:xbN s:=xbW;simp [pcP] at hq;show xiu hq
    ·decide
    ·exact hs
   |cp b z=>
    obtain⟨_,h2,_,h4,h5⟩:xdd/\xnK b/\xfI b/\3≤z/\z≤18:=xbW;simp [pcP] at hq;show xp1 hq rfl rfl
    ·decide
    ·show b<2^8;exact Fg h2
    ·show z-3<2^4;omega
  ·exact ih q hq
def xj (x):xms x=9\/xms x=13:=by
 cases x with
 |sg s=>exact xbZ
 |cp b z=>show xbX rfl
theorem lO:∀P:xek,xtP P≤13*P.length
 | []=>P3
 |x::P=>by
  rw [d5,aP,Df];have:=lO P;rcases xj x with h|h<;>lia
def AR (hb:xdo S)(hp:xdN p):fE xur xo9/\app xur xo9=S.take (p+xB4):=by
 cases e:xo9 with
 |sg s=>
  have h:=yg hp e;refine xcO (hb s (D9 h));show xur++[s]=S.take (p+1);rw [Ei,h];rfl
 |cp b z=>
  obtain⟨h1,h2,h3,h4,h5,h6,h7,_⟩:=yK hp e;refine xcO ⟨h1,h3,by show xam Dd,h4,h5⟩;exact oY h1 h2 h6 h7 z P3
theorem pc (hb:xdo S):∀{P} {p q},xil S P q->GR xur P/\runP xur P=S.take q
 | [],p,q,h=>by cases h;exact xbn trivial
 |x::P,p,q,⟨h1,h2,h3⟩=>by
  subst h2;show xwt g (AR hb h1);show xbp i1 i2 (pc hb h3) (xcO ⟨g,by show xeY i1⟩);show runP (app xur xo9) P=_;show xeY i2
theorem dO:∀{P P'} {p q},xil S P q->xil S P' q->P=P'
 | [],[],_,_,_,_=>rfl
 | [],x::P',p,q,h,h'=>by
  cases h;show xc6 (cL h') Df;lia
 |x::P,[],p,q,h,h'=>by
  cases h';show xc6 (cL h) Df;lia
 |x::P,x'::P',p,q,⟨_,h2,h3⟩,⟨_,NN,U0⟩=>by
  subst h2 NN;rw [dO h3 U0]
def c6 {P:xek}(hW:xdo W)(hT:xdo T)(h:xs9 (W++T) P W T):GR W P/\runP W P=W++T/\xgw P.length:=by
 have hb:xdo (W++T):=λ b z=>by
  show xbR z z z
  ·exact hW b z
  ·exact hT b z
 obtain⟨h1,h2⟩:=pc hb h;rw [Jc] at h1 h2;rw [DV] at h2;show xkX (cL h) CN ⟨h1,h2,Fh.mp this⟩
structure XB (K:Frag)(mg:W1):Prop where
 V:V4 K mg
 pieces:∃f fd,XI K mg "pieces_of" ik Jae f fd
 needahead:TD "need_ahead" di xjj
 needsigns:TD "need_signs" f7 Jae
universe K31
namespace SM
section
variable {α κ:Type}{blt:κ -> xsL}{kf:α -> κ}
structure Ord (blt:κ->xsL):Prop where
 irr:∀a,xmG a a
 tr:∀a b c,xo3 a b->xo3 b c->xo3 a c
 neg:∀a b c,xo3 a c->xo3 a b\/xo3 b c
 tot:∀a b,xmG a b->xmG b a->a=b
variable (O:xHr)
abbrev Le (blt:κ->xsL)(kf:α->κ)(x y:α):Prop:=xmG xpf xcP
abbrev Lt (blt:κ->xsL)(kf:α->κ)(x y:α):Prop:=xo3 xcP xpf
include O
def le_of_lt {x y:α}(h:xsS x y):xic x y:=by
 cases e:blt xpf xcP with
 |false=>exact e
 |true=>have:=O.tr _ _ _ h e;show Tl O.irr this this
def le_trans {x y z:α}(h1:xic x y)(h2:xic y z):xic x z:=by
 cases e:blt (kf z) xcP with
 |false=>exact e
 |true=>
  rcases xHs xpf _ e with h|h
  ·show Tl (show xmG (kf z) xpf from h2) h h
  ·show Tl (show xmG xpf xcP from h1) h h
def cM {x y z:α}(h1:xsS x y)(h2:xic y z):xsS x z:=by
 rcases xHs (kf z) _ h1 with h|h
 ·exact h
 ·show Tl (show xmG (kf z) xpf from h2) h h
def eQ {x y z:α}(h1:xic x y)(h2:xsS y z):xsS x z:=by
 rcases xHs xcP _ h2 with h|h
 ·show Tl (show xmG xpf xcP from h1) h h
 ·exact h
omit O in
noncomputable def eqv (blt:κ->xsL) (kf:α->κ) (k:κ) (x:α):Bool:= ! blt xcP k&& ! blt k xcP
omit O in
def KL {k:κ}{x:α}:xr0 k x<->xmG xcP k/\xmG k xcP:=by unfold eqv;simp
omit O in
def J3 (blt:κ->xsL)(kf:α->κ)(xs ys:xbF):Prop:=∀k,xs.filter (xoY k)=ys.filter (xoY k)
omit O in
def J3.refl (xs:xbF):xE2 xs:=xfH
omit O in
theorem J3.trans {xs ys zs:xbF}(h:xwj)(g:xfR ys zs):xE2 zs:=λ k=>(xi1).trans (g k)
omit O in
theorem J3.symm {xs ys:xbF}(h:xwj):xfR ys xs:=λ k=>(xi1).symm
omit O in
def J3.app {xs ys us vs:xbF}(h:xwj)(g:xfR us vs):xfR (xs++us) (ys++vs):=λ k=>by rw [DG,DG,xi1,g k]
omit O in
def Kt (O:xHr)(x:α):xr0 xcP x:=by unfold eqv;simp [O.irr]
def J3.mem {xs ys:xbF}(h:xwj){x:α}(hx:x∈xs):x∈ys:=by
 have:x∈xs.filter (xoY xcP):=Fk.mpr ⟨hx,Kt O x⟩;show UV h this (Fk.mp this).1
def dN {X Y:xbF}(h:∀y∈Y,xcq X (xsS y x)):xfR (X++Y) (Y++X):=λ k=>by
 rw [DG,DG];by_cases hx:∃x∈X,xr0 k x
 ·obtain⟨x,hx,ex⟩:=hx;have hy:Y.filter (xoY k)=[]:=ET.mpr λ y hy ey=>by
   have l:=h y hy x hx;have ex:=KL.mp ex;have ey:=KL.mp ey;have:xo3 xpf k\/xo3 k xcP:=xHs k _ l;rcases this with z|z
   ·show Tl ey.1 z z
   ·show Tl ex.2 z z
  rw [hy,DM,D3]
 ·have Zr:X.filter (xoY k)=[]:=ET.mpr λ x Zr ex=>hx ⟨x,Zr,ex⟩
  rw [Zr,DM,D3]
theorem M4:∀{xs ys:xbF},xs.Pairwise xic->ys.Pairwise xic->xwj->xs=ys
 | [],[],_,_,_=>rfl
 | [],y::ys,_,_,h=>by have:=xuP h.symm (xyV y (l:=ys));cases this
 |x::xs,[],_,_,h=>by have:=xuP h (xyV x (l:=xs));cases this
 |x::xs,y::ys,hx,hy,h=>by
  have hxm:=xuP h (xyV x (l:=xs));have hym:=xuP h.symm (xyV y (l:=ys));have l1:xic x y:=by
   show xei hym z
   ·exact O.irr _
   ·exact xBA hx y z
  have l2:xic y x:=by
   show xei hxm z
   ·exact O.irr _
   ·exact xBA hy x z
  have ex:xr0 xcP x:=Kt O x;have ey:xr0 xcP y:=KL.mpr ⟨l1,l2⟩;have e:=h xcP;rw [Dx ex,Dx ey] at e;obtain⟨rfl,_⟩:=HL e;have ht:xwj:=λ k=>by
   have e:=xi1;by_cases z:xr0 k x
   ·rw [Dx z,Dx z] at e;exact(HL e).2
   ·rw [DE z,DE z] at e;exact e
  rw [M4 (xCc hx) (xCc hy) ht]
omit O in
structure Mg (blt:κ->xsL)(kf:α->κ)(all out A B:xbF):Prop where
 s1:xq6 (xdF A)
 s2:xq6 (xdF B)
 sq0:xfR (xdF A++B) all
omit O in
def Mg.pushA {all out A B X:xbF}(h:xyW kf all out (X++A) B)(hX:xcq X (∀y∈B,xic x y)):xyW kf all (xdF X) A B:=by
 refine⟨by show IO CQ h.s1,?_,by show IO (CQ out) h.sq0⟩;rw [CQ,Dh];have h1:=xxd;have h2:=xxe;refine⟨h1.1,?_,λ a ha b hb=>?_⟩
 ·show IO Dh ⟨(Dh.mp (Μ h1)).1,Μ h2,hX⟩
 ·show xbR hb z z
  ·exact xaY h1 a ha b (xnQ z)
  ·exact xaY h2 a ha b z
def Mg.pushB {all out A B Y:xbF}(h:xyW kf all out A (Y++B))(hY:∀y∈Y,xcq A (xsS y x)):xyW kf all (xdF Y) A B:=by
 have h1:=xxd;have h2:=xxe;refine xac ?_ (by show IO CQ h.s2)
 ·rw [CQ,Dh];refine⟨h1.1,?_,λ a ha b hb=>?_⟩
  ·show IO Dh ⟨(Dh.mp (Μ h2)).1,Μ h1,λ a ha b hb=>le_of_lt O (hY a ha b hb)⟩
  ·show xbR hb z z
   ·exact xaY h2 a ha b (xnQ z)
   ·exact xaY h1 a ha b z
 ·refine xA7 h.sq0;have:xfR (xdF (Y++A)++B) (xdF (A++Y)++B):=xJ8 (J3.refl out|>.app (dN O hY).symm) B;rw [<-CQ,<-CQ] at this;show xa5 (CQ (xdF A)) this
omit O in
def Mg.endA {all out A:xbF}(h:xyW kf all out A []):xq6 (xdF A)/\xfR (xdF A) all:=⟨h.s1,by have:=h.sq0;rwa [DM] at this⟩
omit O in
def Mg.endB {all out B:xbF}(h:xyW kf all out [] B):xq6 (xdF B)/\xfR (xdF B) all:=⟨h.s2,by have:=h.sq0;rwa [DM] at this⟩
omit O in
structure Mh (blt:κ->xsL)(kf:α->κ)(all A B out:xbF):Prop where
 s1:xq6 (A++out)
 s2:xq6 (B++out)
 sq0:xfR (A++B++out) all
omit O in
def Mh.pushB {all A B out Y:xbF}(h:xyX kf all A (B++Y) out)(hY:xcq A (∀y∈Y,xic x y)):xyX kf all A B (Y++out):=by
 refine⟨?_,by show xa5 CQ h.s2,by rw [<-CQ,CQ A];exact h.sq0⟩;have h1:=xxd;have h2:=xxe;show Tm Dh ⟨h1.1,?_,λ a ha b hb=>?_⟩
 ·show IO Dh ⟨Μ (Dh.mp xzD),Μ h2,λ a ha b hb=>xaY h2 a (xk8 ha) b hb⟩
 ·show xbR hb z z
  ·exact hY a ha b z
  ·exact xaY h1 a ha b z
def Mh.pushA {all A B out X:xbF}(h:xyX kf all (A++X) B out)(hX:∀y∈B,xcq X (xsS y x)):xyX kf all A B (X++out):=by
 have h1:=xxd;have h2:=xxe;refine xac (by show xa5 CQ h.s1) ?_
 ·show Tm Dh ⟨xzD,?_,λ a ha b hb=>?_⟩
  ·show IO Dh ⟨Μ (Dh.mp h1.1),Μ h1,λ a ha b hb=>xaY h1 a (xk8 ha) b hb⟩
  ·show xbR hb z z
   ·exact le_of_lt O (hX a ha b z)
   ·exact xaY h2 a ha b z
 ·refine xA7 h.sq0;have:xfR (A++(B++X)++out) (A++(X++B)++out):=xJ8 (J3.refl A|>.app (dN O hX).symm) out;rw [<-CQ,<-CQ] at this;show xa5 (CQ (A++B)) this
omit O in
def Mh.endA {all A out:xbF}(h:xyX kf all A [] out):xq6 (A++out)/\xfR (A++out) all:=⟨h.s1,by have:=h.sq0;rwa [DM] at this⟩
omit O in
def Mh.endB {all B out:xbF}(h:xyX kf all [] B out):xq6 (B++out)/\xfR (B++out) all:=⟨h.s2,h.sq0⟩
universe s
universe SM
namespace SG
open PySem PyProof.Rows
noncomputable def gy:Bool->Keyed->No->xhD (xaQ (xr6 xh2)):=sortPriv%PySem.Builtin.gallop
def wE:No->No->xr6 No:=sortPriv%PySem.Builtin.mergeLo
def wF:No->No->xr6 No:=sortPriv%PySem.Builtin.mergeHi
noncomputable def kf (κ:KeyKind) (p:Keyed):κ.α:=(κ.keyOf xag).getD κ.dflt
def Mq (κ:KeyKind)(p:Keyed):Prop:=∃a,Re (κ.keyOf xag) a
def ord (κ:KeyKind):SM.Ord κ.blt:=⟨κ.irrefl,κ.trans,κ.negTrans,κ.total⟩
def jB (hO:κ.OneLt)(hk:xj4)(hx:xwN x)(hy:xwN y)(h:xpr (xih x y)):
  xdi (lt' x y):=by
 obtain⟨a,ha⟩:=hx;obtain⟨b,hb⟩:=hy;rw [lt'_eq];show xnO;rw [hk,keyLt'_oneType];show xaS (wpS_lift (Hj (hO prog w A _ s xgb xgP a b ha hb xgB)));unfold kf at h;rw [ha,hb] at h;exact DA h
def aR (hi:i<arr.size)(h:Q arr[i] sq0):xdi (elem' arr i):=by
 rw [elem'_eq,getElem?_pos arr i hi];exact DA h
noncomputable def MP (κ:KeyKind) (left:Bool) (key:Keyed) (arr:No) (j:Nat):Bool:=xbS left (κ.blt (xz6 arr j) xuK) (! xKX (xz6 arr j))
def dC {κ:KeyKind}{arr:No}{j:Nat}(h:j<arr.size):xz6 arr j=xh1 arr[j]:=by show xbk KK (getElem?_pos arr j h);rfl
noncomputable def Aw (left:Bool) (key:Keyed) (arr:No) (j:Nat):xr6 xEH:=elem' arr j>>= λ y=>xbS left (lt' y key) (lt' key y>>= λ o=>pure (o.map λ c=> ! c))
def yd {prog:JE}{w:JF}{A:JH}{E:Κ}{s:JD}{κ:KeyKind}(hO:κ.OneLt){sq0:SortSt}{left:Bool}{key:Keyed}{arr:No}{j:Nat}{Q:xEH->xfa}(hk:xj4)(hj:j<arr.size)(LJ:xy5)(ha:xwN arr[j])
  (h:xpr (xKS j)):xdi (Aw left key arr j):=by
 unfold Aw;unfold MP at h;rw [dC hj] at h;show xsC hj ?_;cases left with
 |true=>
  simp only [if_true] at h ⊢;exact jB hO hk ha LJ h
 |false=>
  simp only [Fj,Ii] at h ⊢;exact wpS_bind (jB hO hk LJ ha (DA h))
def mid {l r:Nat}(h:l<r):l+(r-l)/2<r:=Ez (Nat.div_lt_self (Gj h) (by decide))
def mz (h:l≤r)(k:r-l≤n-xGn n):l=r:=Dy h (xwA (Nat.le_zero.1 (xr2 k (Gs n))))
def dbl (a:Nat):a≤2*a:=Nat.le_mul_of_pos_left a (by decide)
def rR {prog:JE}{w:JF}{A:JH}{E:Κ}{s:JD}{sq0:SortSt}{n Kf hi:Nat}{c:xjC Nat}{f:xaQ ((xFQ×xev)->xr6 (ForInStep (xFQ×xev)))}{Q:(xFQ×xev)->xfa}
  (h1:Kf≤hi) (h2:xbx hi) (mono:∀i j,i≤j->j<n->NE (c j)->NE (c i)) (NK:∀i,i<Kf->NE (c i)) (QW:∀i,hi≤i->i<n->ρ (c i))
  (fd:∀x Kf hi,Kf≥hi->xBD (f x (xf8 Kf hi)) (λ r st'=>st'=sq0/\r=.done (xf8 Kf hi)))
  (fy:∀x Kf hi,Kf<hi->xbx hi->xBD (f x (xf8 Kf hi)) (λ r st'=>st'=sq0/\r=xbS (c (Kf+(hi-Kf)/2)) (.yield (xf8 (Kf+(hi-Kf)/2+1) hi)) (.yield (xf8 Kf (Kf+(hi-Kf)/2)))))
  (h:∀k,xbx k->(∀i,i<k->NE (c i))->(∀i,k≤i->i<n->ρ (c i))->Q (xf8 k k) sq0):xdi (forIn [:n] (xf8 Kf hi) f):=by
 refine xAR (λ x d st'=>st'=sq0/\∃Kf hi,d=xf8 Kf hi/\Kf≤hi/\xbx hi/\hi-Kf≤n-x/\(∀i,i<Kf->NE (c i))/\(∀i,hi≤i->i<n->ρ (c i))) ?_ ?_ ⟨rfl,Kf,hi,rfl,h1,h2,CV xlH h2,NK,QW⟩
 ·rintro x d st' _ hx ⟨rfl,Kf,hi,rfl,h1,h2,h3,NK,QW⟩;by_cases K2:Kf≥hi
  ·refine Fx (fd x Kf hi K2) ?_;rintro r st' ⟨rfl,rfl⟩;show xbO Kf hi (Dy h1 K2) (h Kf h2 NK QW)
  ·have hm:=mid (Hy K2);refine Fx (fy x Kf hi (Hy K2) h2) ?_;rintro r st' ⟨rfl,rfl⟩;by_cases hc:NE (c (Kf+(hi-Kf)/2))
   ·show xlo hc ⟨rfl,_,_,rfl,hm,h2,CV (IT (FQ xdY) _) (Fs h3 1),λ i hi'=>mono i _ (Eh hi') (CZ hm h2) hc,QW⟩
   ·show Tm (Dc hc) ⟨rfl,_,_,rfl,xdY,xCQ hm h2,CV (Fs (Ft hm) _) (by show IO Jb (Fs h3 1)),NK,Sc i h1 h2⟩;cases e:c i with
    |false=>rfl
    |true=>show xaW (mono _ i h1 h2 e) hc
 ·rintro d st' ⟨rfl,Kf,hi,rfl,h1,h2,h3,NK,QW⟩;show xbO Kf hi (mz h1 h3) (h Kf h2 NK QW)
def eu {prog:JE}{w:JF}{A:JH}{E:Κ}{s:JD}{κ:KeyKind}(hO:κ.OneLt){left:Bool}{key:Keyed}{arr:No}{base n hint:Nat}{sq0:SortSt}{Q:xh2->xfa}(hk:xj4)(hn:base+n≤arr.size)(hh:hint<n)(LJ:xy5)
  (J7:xjw p arr.toList p) (mono:∀i j,i≤j->j<n->NE (xlp j)->NE xst)
  (h:∀k,xbx k->(∀i,i<k->NE xst)->(∀i,k≤i->i<n->ρ xst)->xpr k):
  xdi (gy left key arr base n hint):=by
 have hB:∀(i:Nat) {Q':xEH->xfa},i<n->Q' (some xst) sq0->xBD (Aw left key arr (base+i)) Q':=λ i Q' hi hq=>
  yd hO hk (CZ (FY hi _) hn) LJ (J7 _ Z6) hq
 show xq4 (hB hint hh ?_);cases hr:xlp hint with
 |true=>
  rw [Τ];show xki (λ x d st'=>st'=sq0/\∃la of,d=xf8 la of/\la<of/\x<of/\xl5 la<n/\NE (xlp (xl5 la))) (Q:=λ d st'=>st'=sq0/\∃la of,d=xf8 la of/\la<of/\xl5 la<n/\NE (xlp (xl5 la))/\(n-hint≤of\/(xl5 of<n/\ρ (xlp (xl5 of))))) ?_ ⟨rfl,0,1,rfl,by show xGb,by show xGb,by assumption,hr⟩ ?_
  ·rintro x d st' _ hx ⟨rfl,la,of,rfl,h1,h2,h3,h4⟩;dsimp only;by_cases K2:of≥n-hint
   ·show xlo K2 (DA ⟨rfl,la,of,rfl,h1,h3,h4,.inl K2⟩)
   ·rw [Dc K2];show xq4 (hB (xl5 of) (by exact Ez xCm) ?_);cases e:xlp (xl5 of) with
    |false=>
     show xlo Z7 (DA ⟨rfl,la,of,rfl,h1,h3,h4,xcv (by exact Ez xCm) e⟩)
    |true=>
     show xjP Z9 (DA ⟨rfl,of,2*of+1,rfl,Fg xFZ,Nat.succ_lt_succ (CZ h2 xFZ),by exact Ez xCm,e⟩)
  ·rintro d st' ⟨rfl,la,of,rfl,h1,h2,h3,h4⟩;exact⟨rfl,la,of,rfl,h1,h3,h4,.inl (CV xlH (Dr h2))⟩
  ·rintro d st' ⟨rfl,la,of,rfl,h1,h3,h4,h5⟩;dsimp only;show xaS (rR (c:=λ i=>xst) (FY (xIW ⟨h1,xDC h3⟩) _) (xr2 (GG (Et _ _) _) (xCL hh)) mono (λ i hi=>mono i _ (show i≤xl5 la by exact Eh hi) h3 h4) (Sc i h6 h7) ?_ ?_ λ k h6 h7 h8=>?_)
   ·rcases h5 with z|⟨z,z2⟩
    ·rw [Fc z,xCL hh] at h6;show xaW h7 (xEq h6)
    ·cases e:xst with
     |false=>rfl
     |true=>show Tl (mono _ i (by show UV (DL (Dr (xDC z))) h6 h6) h7 e) z2 z2
   ·intro x Kf hi K2;dsimp only;show xlo K2 xnb
   ·intro x Kf hi JO hhn;dsimp only;rw [Dc (by exact xL2)];show xq4 (hB _ (CZ (mid JO) hhn) ?_)
    split
    ·exact xnb
    ·exact xnb
   ·exact DA (xi1 h6 h7 h8)
 |false=>
  rw [Dc Z9];show xki (λ x d st'=>st'=sq0/\∃la of,d=xf8 la of/\la<of/\x<of/\la≤hint/\ρ (xlp (hint-la))) (Q:=λ d st'=>st'=sq0/\∃la of,d=xf8 la of/\la<of/\la≤hint/\ρ (xlp (hint-la))/\(xl5 1≤of\/(of≤hint/\NE (xlp (hint-of))))) ?_ ⟨rfl,0,1,rfl,by show xGb,by show xGb,by exact Ω,hr⟩ ?_
  ·rintro x d st' _ hx ⟨rfl,la,of,rfl,h1,h2,h3,h4⟩;dsimp only;by_cases K2:of≥xl5 1
   ·show xlo K2 (DA ⟨rfl,la,of,rfl,h1,h3,h4,.inl K2⟩)
   ·rw [Dc K2];show xq4 (hB (hint-of) (by exact Ev hh) ?_);cases e:xlp (hint-of) with
    |true=>
     show xlo Z7 (DA ⟨rfl,la,of,rfl,h1,h3,h4,xcv (by exact Ec K2) e⟩)
    |false=>
     show xjP Z9 (DA ⟨rfl,of,2*of+1,rfl,Fg xFZ,Nat.succ_lt_succ (CZ h2 xFZ),by exact Ec K2,e⟩)
  ·rintro d st' ⟨rfl,la,of,rfl,h1,h2,h3,h4⟩;exact⟨rfl,la,of,rfl,h1,h3,h4,.inl (by exact CV hh (Dr h2))⟩
  ·rintro d st' ⟨rfl,la,of,rfl,h1,h3,h4,h5⟩;dsimp only;show xaS (rR (c:=λ i=>xst) (xr2 (IT (xIW ⟨h1,Fg h3⟩) _) (Nat.add_sub_add_right ..)) (CV xlH (Dr hh)) mono (LE i hi) (Sc i h6 h7) ?_ ?_ λ k h6 h7 h8=>?_)
   ·rcases h5 with z|⟨z,z2⟩
    ·show xfB (Fc z) Gs hi hi
    ·exact mono i _ (show i≤hint-of by rw [DL (Nat.le_succ_of_le z),Jn z] at hi;exact Eh hi) (by exact Ev hh) z2
   ·cases e:xst with
    |false=>rfl
    |true=>show Tl (mono _ i (show hint-la≤i by assumption) h7 e) h4 h4
   ·intro x Kf hi K2;dsimp only;show xlo K2 xnb
   ·intro x Kf hi JO hhn;dsimp only;rw [Dc (by exact xL2)];show xq4 (hB _ (CZ (mid JO) hhn) ?_)
    split
    ·exact xnb
    ·exact xnb
   ·exact DA (xi1 h6 h7 h8)
universe SG
namespace SG
open PySem PyProof.Rows SM
abbrev Kd (κ:KeyKind):Keyed->Ψ Keyed:=Le κ.blt xh1
abbrev L7 (κ:KeyKind):Keyed->Ψ Keyed:=Lt κ.blt xh1
def cy (κ:KeyKind)(a b r:No):Prop:=r.toList.Pairwise xbc/\xis r.toList (a.toList++b.toList)
def MA (κ:KeyKind)(a b out:No)(ia ib:Nat):Prop:=Mg κ.blt xh1 (a.toList++b.toList) out.toList xAj xwL
def MA.sa {κ:KeyKind}{a:No}{b:No}{out:No}{ia ib:Nat}(h:xlZ a b):xkU xAj:=Μ xxd
def MA.sb {κ:KeyKind}{a:No}{b:No}{out:No}{ia ib:Nat}(h:xlZ a b):xkU xwL:=Μ xxe
def fh {xs:No}{i:Nat}(h:xgE i):xmh=xs[i]::xEz i 1:=by
 have:xI5 i:=by show xvw
 rw [EA this];rfl
def iO {κ:KeyKind}{xs:No}{i:Nat}(h:xgE i)(s:xkU xmh){y:Keyed}(hy:y∈xmh):xbc xs[i] y:=by
 rw [fh h] at s hy;show xei hy z
 ·exact xj8
 ·exact xBA s y z
def jr {xs:No}{i k:Nat}:xwH i (i+k)=xyS xmh:=by
 rw [IG,Hx];congr 1;exact FJ _ _
def fo {xs:No}{i:Nat}:xwH i xs.size=xmh:=by
 rw [IG,Hx,Dv Z6]
def jP {xs:No}{i k:Nat}:xyS xmh++xEz i k=xmh:=by
 rw [<-EB,Dw]
theorem MA.pushA {κ:KeyKind}{a:No}{b:No}{out:No}{ia ib k:Nat}(h:xlZ a b)(hX:xcq (xyS xAj) (xny y xwL x y)):xre a b (xdF (xEA (ia+k))) (ia+k) ib:=by
 show xpN MA;rw [DP,jr];rw [<-jP (k:=k)] at h;exact Mg.pushA h hX
theorem MA.pushB {κ:KeyKind}{a:No}{b:No}{out:No}{ia ib k:Nat}(h:xlZ a b)(hY:∀y∈xyS xwL,xcq xAj (xb7 y x)):xre a b (xdF (xAK (ib+k))) ia (ib+k):=by
 show xpN MA;rw [DP,jr];rw [<-jP (xs:=b) (k:=k)] at h;exact Mg.pushB xcL h hY
def pJ {out xs:No}{i:Nat}(h:xgE i):xyd xs i=xdF (xs.extract i (i+1)):=by
 apply Array.toList_inj.mp;rw [Jg,DP,jr,fh h];rfl
def MA.pushA1 {κ:KeyKind}{a:No}{b:No}{out:No}{ia ib:Nat}(h:xlZ a b)(Sk:xju ia)(Vs:xjT ib)(hl:xbc a[ia] b[ib]):xre a b (xyd a ia) (ia+1) ib:=by
 show Tm (pJ Sk) (h.pushA λ x hx y hy=>?_)
 rw [fh Sk] at hx;show xbO x a[ia] (by simpa using hx) (xfy hl (iO Vs h.sb hy))
def MA.pushB1 {κ:KeyKind}{a:No}{b:No}{out:No}{ia ib:Nat}(h:xlZ a b)(Sk:xju ia)(Vs:xjT ib)(hl:xb7 b[ib] a[ia]):xre a b (xyd b ib) ia (ib+1):=by
 show Tm (pJ Vs) (h.pushB λ y hy x hx=>?_)
 rw [fh Vs] at hy;show xbO y b[ib] (by show xC6) (cM xcL hl (iO Sk h.sa hx))
def MA.doneB {κ:KeyKind}{a:No}{b:No}{out:No}{ia ib:Nat}(h:xlZ a b)(e:ib=b.size):xkA (xdF (xEA a.size)++xAK b.size):=by
 unfold MA at h;have e0:xwL=[]:=ED (by simp [e]);rw [e0] at h;unfold cy;rw [DP,DP,fo,fo,e0,DM];exact h.endA
def MA.doneA {κ:KeyKind}{a:No}{b:No}{out:No}{ia ib:Nat}(h:xlZ a b)(e:ia=a.size):xkA (xdF (xEA a.size)++xAK b.size):=by
 unfold MA at h;have e0:xAj=[]:=ED (by simp [e]);rw [e0] at h;unfold cy;rw [DP,DP,fo,fo,e0,DM];exact h.endB
def MA.last {κ:KeyKind}{a:No}{b:No}{out:No}{ia ib:Nat}(h:xlZ a b)(e:ia+1=a.size)(hl:∀y∈b.toList,xcq xLX (xb7 y x)):xkA (xdF (xAK b.size)++xEA a.size):=by
 have h2:=h.pushB (k:=xvN ib) λ y hy x hx=>hl y (DR (DN hy)) x (by show IO (xae xzl ia (F1 (Hm e))) hx)
 unfold MA at h2;have e0:b.toList.drop (ib+(xvN ib))=[]:=ED (by simp;lia);rw [e0] at h2;have h3:=h2.endA;unfold cy;rw [DP] at h3;rw [DP,DP,fo,fo];have e1:xly (xAK (ib+(xvN ib))) xwL:=by rw [jr,Dv Z6]
 show UV e1 h3 h3
structure Lq (sq0 st':SortSt):Prop where
 k:kindOf st'=kindOf sq0
 a:xw3=xoq
 p:pendingOf st'=xtU
 f:failedOf st'=failedOf sq0
def Lq.refl (sq0:SortSt):xC7 sq0:=xlv rfl rfl
def xu:xaQ (xr6 Unit):=sortPriv%PySem.Builtin.setMinGallop
def d4 {prog:JE}{w:JF}{A:JH}{E:Κ}{s:JD}{Yh sq0:SortSt}{g:Nat}{Q:Unit->xfa}(h0:Lq Yh sq0)(h:∀st',Lq Yh st'->xnR st'):xdi (xu g):=by
 refine wpS_modify (xf6 ⟨h0.k,h0.a,h0.p,h0.f⟩)
def yV {κ:KeyKind}{xs:No}(h:xHY){i j:Nat}(Xn:i≤j)(hj:xgE j):ρ (xnG j (xuk i)):=by
 rw [dC hj,dC (DS Xn hj)];show xaX i j z z
 ·exact xmM h i j (by simp;exact Hf z hj) (by simpa using hj) z
 ·show xbO i j (Dy Xn z) xj8
def rz {prog:JE}{w:JF}{A:JH}{E:Κ}{s:JD}{κ:KeyKind}(hO:κ.OneLt){sq0:SortSt}{key:Keyed}{xs:No}{i n hint:Nat}{Q:xh2->xfa}(hk:xj4)(hs:xHY)(J7:xF5 p p)(LJ:xy5)(hn:xvm (i+n))(hh:hint<n)
  (h:∀k,xbx k->(∀j,j<k->ρ (xmP (i+j)))->(∀j,k≤j->j<n->NE (xmP (i+j)))->xpr k):xdi (gy false key xs i n hint):=by
 have eb:∀j,MP κ false key xs j= ! xmP j:=λ j=>rfl
 refine eu hO hk hn hh LJ J7 (λ p q Td hq hb=>?_) λ k h1 h2 h3=>xi1 h1 xte (Sc j hj ND)
 ·rw [eb] at hb ⊢;have KI:ρ (xmP (i+q)):=by show xmI
  have:=yV hs (show i+p≤i+q from Fh.mpr Td) (CZ (FY hq _) hn);cases e:xmP (i+p) with
  |false=>rfl
  |true=>
   rcases xEk _ (i+q) _ e with z|z
   ·show Tl KI z z
   ·show Tl this z z
 ·show xc6 (h2 j hj) eb;show xmv
 ·show xc6 (h3 j hj ND) eb;show xmv
def sL {prog:JE}{w:JF}{A:JH}{E:Κ}{s:JD}{κ:KeyKind}(hO:κ.OneLt){sq0:SortSt}{key:Keyed}{xs:No}{i n hint:Nat}{Q:xh2->xfa}(hk:xj4)(hs:xHY)(J7:xF5 p p)(LJ:xy5)(hn:xvm (i+n))(hh:hint<n)
  (h:∀k,xbx k->(∀j,j<k->NE (xnG (i+j) xuK))->(∀j,k≤j->j<n->ρ (xnG (i+j) xuK))->xpr k):xdi (gy true key xs i n hint):=by
 have eb:∀j,MP κ true key xs j=xnG j xuK:=λ j=>rfl
 refine eu hO hk hn hh LJ J7 (λ p q Td hq hb=>?_) λ k h1 h2 h3=>xi1 h1 xte (Sc j hj ND)
 ·rw [eb] at hb ⊢;have:=yV hs (show i+p≤i+q from Fh.mpr Td) (CZ (FY hq _) hn);rcases xEk _ (i+p) _ hb with z|z
  ·show Tl this z z
  ·exact z
 ·exact h2 j hj
 ·exact h3 j hj ND
def aM [xA4] {Q:α->xfa}(hc:c)(h:xsz A E s m1 Q sq0):xsz A E s (if c then m1 else m2) Q sq0:=by show xlo hc h
def aJ [xA4] {Q:α->xfa}(hc:¬c)(h:xsz A E s m2 Q sq0):xsz A E s (if c then m1 else m2) Q sq0:=by show xjP hc h
def cJ {M:Model}{A:JH}{E:Κ}{s:JD}{α:Type}{c:Prop} [xA4] {m1 m2:xr6 α}{Q:α->xfa}{sq0:SortSt}(h1:xsz A E s m1 Q sq0)(h2:xsz A E s m2 Q sq0):xsz A E s (if c then m1 else m2) Q sq0:=by
 by_cases hc:c
 ·exact aM hc h1
 ·exact aJ hc h2
def mj {xs:No}{i k:Nat}{x:Keyed}(h:x∈xyS xmh):∃j,j<k/\∃hj:xgE (i+j),x=xs[i+j]:=by
 obtain⟨j,hj⟩:=List.mem_iff_getElem?.mp h;rw [IZ] at hj
 split at hj
 ·rename_i hjk
  rw [FK] at hj;have JO:=xco hj;refine⟨j,hjk,by simpa using JO,?_⟩;have:=(Da.mp hj).2;rw [<-this];rfl
 ·cases hj
def XF (κ:KeyKind)(a b:No)(Yh:SortSt){β:Type}(low:Nat)(pr:No->xhD (Ψ β))(c:xFP×β)(sq0:SortSt):Prop:=
 Lq Yh sq0/\((∃r,Re xhA r/\xkA r)\/∃out ia ib,xsN/\pr out ia ib xhK/\xlZ a b/\xju (ia+1)/\xjT ib/\low≤ia+ib)
def LoP (κ:KeyKind)(a b:No)(sq0:SortSt)(y:Nat){γ δ ε:Type}(r:ForInStep (xFP×No×Nat×Nat×γ×δ×ε))(st':SortSt):Prop:=match r with
 | .done c'=>xv2 a b sq0 (y+1+1) (λ out ia ib d=>∃g p q,d=(out,ia,ib,g,p,q)) c' st'
 | .yield c'=>xv2 a b sq0 (y+1+1) (λ out ia ib d=>∃g p q,d=(out,ia,ib,g,p,q)) c' st'/\Ζ c'.1
def o6 {prog:JE}{w:JF}{A:JH}{E:Κ}{s:JD}{κ:KeyKind}{a:No}{b:No}(hO:κ.OneLt){sq0:SortSt}{Q:No->xfa}(hk:xj4)(ha:xjw p a.toList p)(hb:xjw p b.toList p)(sa:xLU)(sb:xLV)
  (na:xju 0) (nb:xjT 0) (h0:xb7 b[0] a[0]) (hl:∀y∈b.toList,xcq xLX (xb7 y x)) (h:∀r st',xC7 st'->xkA r->Q r st'):
  xdi (wE a b):=by
 show xaS xx6
 extract_lets total done lastOfA ia0 ib0
 show xsC nb ?_
 extract_lets VJ
 have Wo:xre a b VJ 0 1:=MA.pushB1 (out:=#[]) (ia:=0) (ib:=0) ⟨sa,sb,xgt⟩ na nb h0;by_cases e1:1=b.size
 ·refine xr4 (by simpa [ib0] using e1) (xjS xxg (Wo.doneB e1))
 refine aJ (by simpa [ib0] using e1) ?_;by_cases e2:0+1=a.size
 ·refine xr4 (by simpa [ia0] using e2) (xjS xxg (Wo.last e2 hl))
 refine aJ (by simpa [ia0] using e2) ?_;show xnO
 extract_lets mg0
 show xki (λ y c st'=>xv2 a b sq0 (y+1) (λ out ia ib d=>∃mg,d=(out,ia,ib,mg)) c st'/\xsN) (Q:=λ c st'=>xC7 st'/\∃r,Re xhA r/\xkA r) ?_ (xbn (xh6 xxg ⟨VJ,0,1,rfl,xbg,Wo,D8 na e2,Z5,Z5⟩)) ?_
 rotate_left
 ·rintro c st' ⟨⟨_,⟨r,e,_⟩|⟨out,ia,ib,_,_,_,q1,q2,q3⟩⟩,en⟩
  ·show xn0
  ·exfalso;have:xGD=xvO:=by simp [total]
   lia
 ·rintro⟨c1,c2⟩ st' ⟨MD,r,e,hW⟩;show xxL e e;exact DA (h r st' MD hW)
 rintro y c QN _ hy ⟨⟨XU,⟨r,e,_⟩|⟨XR,ia1,ib1,_,⟨mg1,e2⟩,hM1,q1,q2,q3⟩⟩,en⟩
 ·show xn0
 show xw1 c1 c2 c en e2;subst en e2;show xki (λ x c st'=>xv2 a b sq0 (y+1+x) (λ out ia ib d=>∃p q,d=(out,ia,ib,p,q)) c st'/\xsN) (Q:=λ c st'=>xv2 a b sq0 (y+1+1) (λ out ia ib d=>∃p q,d=(out,ia,ib,p,q)) c st') ?_ (xbn (xh6 XU ⟨XR,ia1,ib1,rfl,xn3,hM1,q1,q2,q3⟩)) ?_
 ·rintro x c Mm _ hx ⟨⟨KR,⟨r,e,_⟩|⟨TN,UQ,Wb,_,⟨p2,r2,e2⟩,Tu,t1,t2,t3⟩⟩,en⟩
  ·show xn0
  show xw1 c1 c2 c en e2;subst en e2;show xsC t2 (xAU (xvJ UQ xvp) (wpS_bind (jB hO xMs xG2 (ha _ Z6) ?_)));cases e:xih b[Wb] a[UQ] with
  |true=>
   have Qw:=Tu.pushB1 Z4 t2 e;refine aM rfl (xAU t2 ?_);by_cases hz:Wb+1=b.size
   ·refine xAN hz KR (Qw.doneB hz)
   ·refine xzk (xh6 KR ⟨_,UQ,Wb+1,rfl,xn3,Qw, xeg,xtb t2,Z5⟩) (xsd KR ⟨_,UQ,Wb+1,rfl,xn3,Qw,Ej t1,xtb t2,FQ t3⟩)
  |false=>
   have Qw:=Tu.pushA1 Z4 t2 e;refine xpz (xAU (xvJ UQ Z4) ?_);by_cases hz:UQ+1+1=a.size
   ·refine xAN hz KR (Qw.last hz hl)
   ·refine xzk (xh6 KR ⟨_,UQ+1,Wb,rfl,xn3,Qw,xtb t1, xeg,Z5⟩) (xsd KR ⟨_,UQ+1,Wb,rfl,xn3,Qw,xtb t1,Ej t2,Z5⟩)
 ·rintro c st' ⟨⟨_,⟨r,e,_⟩|⟨out,ia,ib,_,_,_,t1,t2,t3⟩⟩,en⟩
  ·show xn0
  ·exfalso;have:xGD=xvO:=by simp [total]
   lia
 rintro⟨c1,c2⟩ Mm ⟨KR,⟨r,e,hW⟩|⟨TN,UQ,Wb,e,⟨p2,r2,e2⟩,Tu,t1,t2,t3⟩⟩
 ·show xxL e e;exact DA (xdm KR r hW)
 dsimp only at e e2;subst e e2;show xaS xx6;show xki (λ x c st'=>xv2 a b sq0 (y+1+1) (λ out ia ib d=>∃g p q,d=(out,ia,ib,g,p,q)) c st'/\xsN) (Q:=λ c st'=>xv2 a b sq0 (y+1+1) (λ out ia ib d=>∃g p q,d=(out,ia,ib,g,p,q)) c st') ?_ (xbn (xh6 KR ⟨TN,UQ,Wb,rfl,xdK _ _ rfl,Tu,t1,t2,t3⟩)) ?_
 ·clear Tu t1 t2 t3 hM1 q1 q2 q3;rintro x c KJ _ hx ⟨⟨OB,⟨r,e,_⟩|⟨QA,SQ,SO,_,⟨g3,p3,r3,e2⟩,Tt,t1,t2,t3⟩⟩,en⟩
  ·show xn0
  show xw1 c1 c2 c en e2;subst en e2
  extract_lets v1 v2 v3 v4 v5 v6 v7 v8 v9 v10 v11 v12 jp
  have Tf:∀g,xkB (jp () g) (LoP κ a b sq0 y) KJ:=by
   intro g;show xaS (d4 OB λ Ll KC=>xAU t2 (wpS_bind (rz hO xD4 sa ha xG2 (Di (xCL xvp)) (show 0<a.size-SQ from Nat.zero_lt_sub_of_lt (Dr t1)) λ k f1 f2 f3=>?_)));have f1':k≤a.size-SQ:=f1;show xyx YT (xre a b (QA++a.extract SQ (SQ+k)) (SQ+k) SO) (Tt.pushA λ x hx y hy=>by
    show xs1 j hj ND (mj hx);show xkX (f2 j hj) (dC ND) (xfy this (iO t2 Tt.sb hy)))
   extract_lets u1 Vd
   have O3:∀out ia,xre a b out ia SO->∀Sk:xju (ia+1),xb7 b[SO] a[ia]->y+1+1≤ia+SO->xkB (Vd () out ia) (LoP κ a b sq0 y) Ll:=by
    intro out ia hM Sk JO OD;show xsC t2 ?_;have Vu:=hM.pushB1 xC8 t2 JO;by_cases hz:SO+1=b.size
    ·refine xoi hz (Vu.doneB hz)
    refine xx2 ?_;have t2':=xtb t2;show xsC (xvJ ia xC8) (wpS_bind (sL hO xD4 sb hb (ha _ Z6) (Di (D2 t2)) (Gj t2') λ k2 d1 d2 d3=>?_));show xyx d1' (k2≤xvN (SO+1)) d1
    extract_lets w1 w2 V'
    have O2:∀out ib,xlZ a b->∀Vs:xjT ib,xbc a[ia] b[ib]->y+1+1≤ia+ib->xkB (V' () out ib) (LoP κ a b sq0 y) Ll:=by
     intro out ib hM Vs hle OD;show xsC (xvJ ia xC8) ?_;have Xv:=hM.pushA1 xC8 Vs hle;have hw:=CV OD (Eo (Fl ia) ib);by_cases hz:ia+1+1=a.size
     ·refine xoi hz (Xv.last hz hl)
     refine xzk (xh6 KC ⟨_,ia+1,ib,rfl,xdK _ _ rfl,Xv,xtb Sk,Vs,hw⟩) (xsd KC ⟨_,ia+1,ib,rfl,xdK _ _ rfl,Xv,xtb Sk,Vs,hw⟩)
    clear_value V'
    by_cases ME:k2>0
    ·refine aM ME ?_;have YS:=Vu.pushB (k:=k2) λ y hy x hx=>by
      show xs1 j hj ND (mj hy);show xkX (d2 j hj) (dC ND) (cM xcL this (iO (xvJ ia xC8) Vu.sa hx))
     by_cases NU:SO+1+k2=b.size
     ·refine xoi NU (YS.doneB NU)
     ·have OU:=D8 (Iw t2 d1') NU;refine xoQ (NU xos) (O2 _ (SO+1+k2) YS OU ?_ (CV OD (GG (CV xjG xdY) _)));show xgF (d3 k2 P3 (xDC OU)) (dC OU)
    ·refine aJ ME (O2 _ (SO+1) Vu t2' ?_ (CV OD (GG xjG _)));show xgF (d3 0 (Ec ME) (Gj t2')) (dC (show xjT (SO+1+0) from t2'))
   clear_value Vd
   by_cases ME:k>0
   ·refine aM ME ?_;by_cases hz:SQ+k+1=a.size
    ·refine xoi hz (YT.last hz hl)
    refine xx2 ?_;by_cases NU:SQ+k=a.size
    ·refine xoi NU (YT.doneA NU)
    ·have OL:=D8 (Iw (Dr xvp) f1') NU;refine xoQ (NU xos) (O3 _ (SQ+k) YT (xtb OL) ?_ (CV t3 (Eo xdY _)));show xgF (f3 k P3 (xDC OL)) (dC OL)
   ·refine aJ ME (O3 _ SQ Tt t1 ?_ t3);show xgF (f3 0 (Ec ME) (Gj xvp)) (dC (xvJ (SQ+0) xvp))
  clear_value jp
  exact cJ (Fx (Tf _) λ r st' q=>by cases r<;>exact q) (Fx (Tf _) λ r st' q=>by cases r<;>exact q)
 ·rintro c st' ⟨q,_⟩;exact q
 rintro⟨c1,c2⟩ KJ ⟨OB,⟨r,e,hW⟩|⟨QA,SQ,SO,e,⟨g3,p3,r3,e2⟩,Tt,u1,u2,u3⟩⟩
 ·show xxL e e;exact DA (xdm OB r hW)
 dsimp only at e e2;subst e e2;exact wpS_bind (d4 OB λ Ll KC=>xsd KC ⟨QA,SQ,SO,rfl,xbg,Tt,u1,u2,u3⟩)
def MH (κ:KeyKind)(a b out:No)(na nb:Nat):Prop:=Mh κ.blt xh1 (a.toList++b.toList) xH9 xIa out.toList.reverse
def MH.sa {κ:KeyKind}{a:No}{b:No}{out:No}{na nb:Nat}(h:xwo):xkU xH9:=xxd.1
def MH.sb {κ:KeyKind}{a:No}{b:No}{out:No}{na nb:Nat}(h:xwo):xkU xIa:=xxe.1
def rk {xs:No}{i:Nat}(h:xgE i):xAs i 1=xs.toList.take i++[xs[i]]:=by
 have h':xI5 i:=by show xvw
 rw [Ei,CU h'];rfl
def iD {κ:KeyKind}{xs:No}{i:Nat}(h:xgE i)(s:xkU (xAs i 1)){y:Keyed}(hy:y∈xAs i 1):xbc y xs[i]:=by
 rw [rk h] at s hy;show xbR hy z z
 ·exact xaY (Dh.mp s) y z _ Z6
 ·show xbO y xs[i] (by show xmY) xj8
def cY {xs:No}{i n:Nat}(h:xbx i):xwH i n=xb6 xmh n i:=by
 rw [IG,Hx]
def nQ {xs:No}{i n:Nat}(h:xbx i):xs.toList.take i++xwH i n=xs.toList.take n:=by
 rw [cY h];have:n=i+(n-i):=F1 (D2 h);rw(config:={occs:=.pos [2]}) [this];rw [IH]
def iG {xs:No}{i n:Nat}{x:Keyed}(hin:xbx i)(hn:xvm n)(h:x∈xwH i n):∃j,i≤j/\∃hj:j<n,x=xs[j]:=by
 rw [cY hin] at h;show xs1 j hj ND (mj h);show xaC (i+j) xdY (Ez hj) rfl
theorem MH.pushA {κ:KeyKind}{a:No}{b:No}{out:No}{na nb at':Nat}(h:xwo)(YO:at'≤na)(hX:∀y∈xIa,xcq (xBc at').toList (xb7 y x)):xrK b (xdF (xBc at').reverse) at' nb:=by
 show xpN MH;rw [<-nQ YO] at h;rw [DP,F2,Fu,E5];exact Mh.pushA xcL h hX
theorem MH.pushB {κ:KeyKind}{a:No}{b:No}{out:No}{na nb at':Nat}(h:xwo)(YO:at'≤nb)(hY:xcq xH9 (xny y (xBd at').toList x y)):xrK b (xdF (xBd at').reverse) na at':=by
 show xpN MH;rw [<-nQ (xs:=b) YO] at h;rw [DP,F2,Fu,E5];exact Mh.pushB h hY
def pA {out xs:No}{i:Nat}(h:xgE i):xyd xs i=xdF (xs.extract i (i+1)).reverse:=by
 apply Array.toList_inj.mp;rw [Jg,DP,Fu,jr,fh h];rfl
def MH.pushA1 {κ:KeyKind}{a:No}{b:No}{out:No}{i j:Nat}(h:xyF (i+1) (j+1))(hi:xju i)(hj:xjT j)(hl:xb7 b[j] a[i]):xrK b (xyd a i) i (j+1):=by
 show Tm (pA hi) (h.pushA Z5 λ y hy x hx=>?_)
 show xs1 q q1 q2 (iG xy6 xeg hx);show xbO q i (Nat.eq_of_le_of_lt_succ q1 q2) (eQ xcL (iD hj h.sb hy) hl)
def MH.pushB1 {κ:KeyKind}{a:No}{b:No}{out:No}{i j:Nat}(h:xyF (i+1) (j+1))(hi:xju i)(hj:xjT j)(hl:xbc a[i] b[j]):xrK b (xyd b j) (i+1) j:=by
 show Tm (pA hj) (h.pushB xy6 λ x hx y hy=>?_)
 show xs1 q q1 q2 (iG xy6 xeg hy);show xbO q j Z5 (xfy (iD hi h.sa hx) hl)
def MH.doneA {κ:KeyKind}{a:No}{b:No}{out:No}{na nb:Nat}(h:xwo)(e:na=0):xkA (xBc 0++xBd 0++out.reverse):=by
 subst e;unfold MH at h;rw [F9] at h;unfold cy;rw [DP,DP,Fu,cY Ω,cY Ω,EY,EY,Gr,Gr,F9,D3];exact h.endB
def MH.doneB {κ:KeyKind}{a:No}{b:No}{out:No}{na nb:Nat}(h:xwo)(e:nb=0):xkA (xBc 0++xBd 0++out.reverse):=by
 subst e;unfold MH at h;rw [F9] at h;unfold cy;rw [DP,DP,Fu,cY Ω,cY Ω,EY,EY,Gr,Gr,F9,DM];exact h.endA
def MH.first {κ:KeyKind}{a:No}{b:No}{out:No}{na nb:Nat}(h:xwo)(e:nb=1)(hf:∀y∈b.toList.take 1,xcq a.toList (xb7 y x)):xkA (xBd 0++xBc 0++out.reverse):=by
 subst e;have h2:=h.pushA (at':=0) Ω λ y hy x hx=>hf y hy x (by rw [cY Ω,EY] at hx;exact xEB)
 unfold MH at h2;rw [F9,DP,F2,Fu,E5] at h2;have h3:=h2.endB;unfold cy;rw [DP,DP,Fu,CQ];rw [cY (xs:=b) Ω,EY,Gr];exact h3
def XG (κ:KeyKind)(a b:No)(Yh:SortSt){β:Type}(low:Nat)(pr:No->xhD (Ψ β))(c:xFP×β)(sq0:SortSt):Prop:=
 Lq Yh sq0/\((∃r,Re xhA r/\xkA r)\/∃out i j,xsN/\pr out (i+1) (j+1) xhK/\xyF (i+1) (j+1)/\xju i/\xjT j/\0<j/\i+1+(j+1)+low≤xvO)
def HiP (κ:KeyKind)(a b:No)(sq0:SortSt)(y:Nat){γ δ ε:Type}(r:ForInStep (xFP×Nat×Nat×No×γ×δ×ε))(st':SortSt):Prop:=match r with
 | .done c'=>xv3 a b sq0 (y+1+1) (λ out ia ib d=>∃g p q,d=(ia,ib,out,g,p,q)) c' st'
 | .yield c'=>xv3 a b sq0 (y+1+1) (λ out ia ib d=>∃g p q,d=(ia,ib,out,g,p,q)) c' st'/\Ζ c'.1
def oj {prog:JE}{w:JF}{A:JH}{E:Κ}{s:JD}{κ:KeyKind}{a:No}{b:No}(hO:κ.OneLt){sq0:SortSt}{Q:No->xfa}(hk:xj4)(ha:xjw p a.toList p)(hb:xjw p b.toList p)(sa:xLU)(sb:xLV)
  (na:xju 0) (nb:xjT 0) (hf:∀y∈b.toList.take 1,xcq a.toList (xb7 y x)) (hl:xb7 b[xvN 1] a[xzl]) (h:∀r st',xC7 st'->xkA r->Q r st'):
  xdi (wF a b):=by
 show xtQ ma Vn ma (a.size=ma+1) ⟨xzl,xG7 na rfl⟩;show xtQ mb YF mb (b.size=mb+1) ⟨xvN 1,Z5⟩;have JO:xb7 (b[mb]'(xJU)) (a[ma]'(xFd)):=by
  have e1:xvN 1=mb:=F1 (Hm YF.symm);have e2:xzl=ma:=F1 (Hm Vn.symm);simp only [e1,e2] at hl;exact hl
 have hM00:xrK b #[] (ma+1) (mb+1):=by
  unfold MH;have e1:a.toList.take (ma+1)=a.toList:=Dv (by simp;exact Di Vn);have e2:b.toList.take (mb+1)=b.toList:=Dv (by simp;exact Di YF);rw [e1,e2];exact⟨by simpa using sa,by simpa using sb,by simpa using xgt⟩
 have Wo:xrK b #[a[ma]'(xFd)] ma (mb+1):=hM00.pushA1 xFd xJU JO;show xaS xx6
 extract_lets total done firstOfB Yp nb0
 have ena:Yp=ma:=by show xzl=ma;exact F1 (Hm Vn.symm)
 have enb:nb0=mb+1:=YF
 clear_value Yp nb0
 subst ena enb;show xsC (xvJ Yp xFd) ?_
 extract_lets VJ
 by_cases e1:Yp=0
 ·refine xAb e1 (xjS xxg (Wo.doneA e1))
 refine xoQ (e1 xos) ?_;by_cases e2:mb+1=1
 ·refine xAb e2 (xjS xxg (Wo.first e2 hf))
 refine xoQ (e2 xos) ?_;show xga i0 i0 (Yp=i0+1) ⟨Yp-1,xCM e1⟩;show xnO
 extract_lets mg0
 show xki (λ y c st'=>xv3 a b sq0 (y+1) (λ out ia ib d=>∃mg,d=(ia,ib,out,mg)) c st'/\xsN) (Q:=λ c st'=>xC7 st'/\∃r,Re xhA r/\xkA r) ?_ (xbn (xh6 xxg ⟨VJ,i0,mb,rfl,xbg,Wo,Z5,xJU,Z5,Z5⟩)) ?_
 rotate_left
 ·rintro c st' ⟨⟨_,⟨r,e,_⟩|⟨out,i,j,_,_,_,q1,q2,q3,q4⟩⟩,en⟩
  ·show xn0
  ·exfalso;have:xGD=xvO:=by simp [total]
   lia
 ·rintro⟨c1,c2⟩ st' ⟨MD,r,e,hW⟩;show xxL e e;exact DA (h r st' MD hW)
 clear Wo hM00;rintro y c QN _ hy ⟨⟨XU,⟨r,e,_⟩|⟨XR,i1,j1,_,⟨mg1,e2⟩,hM1,q1,q2,q3,q4⟩⟩,en⟩
 ·show xn0
 show xw1 c1 c2 c en e2;subst en e2;show xki (λ x c st'=>xv3 a b sq0 (y+1+x) (λ out ia ib d=>∃p q,d=(ia,ib,out,p,q)) c st'/\xsN) (Q:=λ c st'=>xv3 a b sq0 (y+1+1) (λ out ia ib d=>∃p q,d=(ia,ib,out,p,q)) c st') ?_ (xbn (xh6 XU ⟨XR,i1,j1,rfl,xn3,hM1,q1,q2,q3,q4⟩)) ?_
 ·rintro x c Mm _ hx ⟨⟨KR,⟨r,e,_⟩|⟨TN,i2,j2,_,⟨p2,r2,e2⟩,Tu,t1,t2,t3,t4⟩⟩,en⟩
  ·show xn0
  show xw1 c1 c2 c en e2;subst en e2;show xaS (xFT j2 t2 (xFT i2 t1 (jB hO xMs xG2 (ha _ Z6) ?_)));cases e:xih b[j2] a[i2] with
  |true=>
   have Qw:=Tu.pushA1 t1 t2 e;refine xFf rfl (xuR i2 t1 ?_);by_cases hz:i2=0
   ·refine xAN hz KR (Qw.doneA hz)
   ·show xga i3 i3 (i2=i3+1) ⟨i2-1,xCM hz⟩;refine xzk (xh6 KR ⟨_,i3,j2,rfl,xn3,Qw,xvp, xeg, xeg,Z5⟩) (xsd KR ⟨_,i3,j2,rfl,xn3,Qw,xvp,Z5,Nat.zero_lt_of_lt t3,Z5⟩)
  |false=>
   have Qw:=Tu.pushB1 t1 t2 e;refine xpz (wpS_bind (xuR j2 t2 ?_));by_cases hz:j2=1
   ·refine xAN hz KR (Qw.first hz hf)
   ·show xga j3 j3 (j2=j3+1) ⟨j2-1,xG7 t3 rfl⟩;refine xzk (xh6 KR ⟨_,i2,j3,rfl,xn3,Qw, xeg,Ea t2,Z5,Z5⟩) (xsd KR ⟨_,i2,j3,rfl,xn3,Qw,Z5,Ea t2,Z4,Z5⟩)
 ·rintro c st' ⟨⟨_,⟨r,e,_⟩|⟨out,i,j,_,_,_,t1,t2,t3,t4⟩⟩,en⟩
  ·show xn0
  ·exfalso;have:xGD=xvO:=by simp [total]
   lia
 rintro⟨c1,c2⟩ Mm ⟨KR,⟨r,e,hW⟩|⟨TN,i2,j2,e,⟨p2,r2,e2⟩,Tu,t1,t2,t3,t4⟩⟩
 ·show xxL e e;exact DA (xdm KR r hW)
 dsimp only at e e2;subst e e2;show xaS xx6;show xki (λ x c st'=>xv3 a b sq0 (y+1+1) (λ out ia ib d=>∃g p q,d=(ia,ib,out,g,p,q)) c st'/\xsN) (Q:=λ c st'=>xv3 a b sq0 (y+1+1) (λ out ia ib d=>∃g p q,d=(ia,ib,out,g,p,q)) c st') ?_ (xbn (xh6 KR ⟨TN,i2,j2,rfl,xdK _ _ rfl,Tu,t1,t2,t3,t4⟩)) ?_
 ·clear Tu t1 t2 t3 t4 hM1 q1 q2 q3 q4;rintro x c KJ _ hx ⟨⟨OB,⟨r,e,_⟩|⟨QA,i3,j3,_,⟨g3,p3,r3,e2⟩,Tt,t1,t2,t3,t4⟩⟩,en⟩
  ·show xn0
  show xw1 c1 c2 c en e2;subst en e2
  extract_lets v1 v2 v3 v4 v5 v6 v7 v8 v9 v10 v11 v12 jp
  have Tf:∀g,xkB (jp () g) (HiP κ a b sq0 y) KJ:=by
   intro g;show xaS (d4 OB λ Ll KC=>wpS_bind (xFT j3 t2 (rz (i:=0) (n:=i3+1) (hint:=i3) hO xD4 sa ha xG2 (xig (Er _) t1) (Ij _) λ k f1 f2 f3=>?_)));show xyx YT (xrK b (QA++(a.extract k (i3+1)).reverse) k (j3+1)) (Tt.pushA f1 λ y hy x hx=>by
    show xs1 q q1 q2 (iG f1 xeg hx);show xeo (f3 q q1 xeg) Er (dC (CZ q2 t1));exact eQ xcL (iD t2 Tt.sb hy) this)
   extract_lets u1 u2 Vd
   have O3:∀out i,xyF (i+1) (j3+1)->∀hi:xju i,xbc a[i] b[j3]->i+1+(j3+1)+(y+1+1)≤xvO->xkB (Vd () (i+1) out) (HiP κ a b sq0 y) Ll:=by
    intro out i hM hi hle OD;show xaS (xuR j3 t2 ?_);have Vu:=hM.pushB1 hi t2 hle;by_cases hz:j3=1
    ·refine xoi hz (Vu.first hz hf)
    refine xx2 ?_;show xga j4 j4 (j3=j4+1) ⟨j3-1,xG7 t3 rfl⟩;show xaS (xFT i hi (sL (i:=0) (n:=j4+1) (hint:=j4) hO xD4 sb hb (ha _ Z6) (xig (Er _) (Dr t2)) (Ij _) λ k2 d1 d2 d3=>?_));dsimp-zeta only
    extract_lets w1 w2 w3 V'
    have O2:∀out j,xyF (i+1) (j+1)->∀hj:xjT j,0<j->xb7 b[j] a[i]->i+1+(j+1)+(y+1+1)≤xvO->xkB (V' () (j+1) out) (HiP κ a b sq0 y) Ll:=by
     intro out j hM hj hj0 JO OD;show xaS (xuR i hi ?_);have Xv:=hM.pushA1 hi hj JO;by_cases hz:i=0
     ·refine xoi hz (Xv.doneA hz)
     show xga i5 i5 (i=i5+1) ⟨i-1,xCM hz⟩;have hw:=CV (Eo (Eo xjG _) _) OD;refine xzk (xh6 KC ⟨_,i5,j,rfl,xdK _ _ rfl,Xv,Ea hi,hj,hj0,hw⟩) (xsd KC ⟨_,i5,j,rfl,xdK _ _ rfl,Xv,Ea hi,hj,hj0,hw⟩)
    clear_value V'
    have Mr:∀q,q+1=k2->∀hq:xjT q,xb7 b[q] a[i]:=λ q hq LH=>by
     show xeo (d2 q (xul hq)) Er (dC LH);show xi3
    by_cases ME:j4+1-k2>0
    ·refine aM ME ?_;have YS:=Vu.pushB (at':=k2) d1 λ x hx y hy=>by
      show xs1 q q1 q2 (iG d1 (Dr t2) hy);show xeo (d3 q q1 q2) Er (dC (Hf q2 t2));exact xfy (iD hi Vu.sa hx) this
     by_cases NU:k2=1
     ·refine xoi NU (YS.first NU hf)
     refine xoQ (NU xos) ?_;by_cases Yq:k2=0
     ·refine xoi Yq (YS.doneB Yq)
     refine xoQ (Yq xos) ?_;show xga k3 k3 (k2=k3+1) ⟨k2-1,xCM Yq⟩;exact O2 _ k3 YS (Hf d1 t2) (HJ (LT (NU (xAk z)))) (Mr k3 rfl _) (CV (Eo (GG (Nat.le_succ_of_le d1) _) _) OD)
    ·refine aJ ME ?_;exact O2 _ j4 Vu (Ea t2) (HJ (LT (hz (xAk z)))) (Mr j4 (Dy (xwA (G7 ME)) d1) _) (CV (Eo (GG xjG _) _) OD)
   clear_value Vd
   have Mr:∀q,q+1=k->∀hq:xju q,xbc a[q] b[j3]:=λ q hq LH=>by
    show xeo (f2 q (xul hq)) Er (dC LH);show xi3
   by_cases ME:i3+1-k>0
   ·refine aM ME ?_;by_cases hz:k=0
    ·refine xoi hz (YT.doneA hz)
    refine xx2 ?_;show xga k3 k3 (k=k3+1) ⟨k-1,xCM hz⟩;exact O3 _ k3 YT (CZ f1 t1) (Mr k3 rfl _) (CV (Eo (Eo f1 _) _) t4)
   ·refine aJ ME ?_;exact O3 _ i3 Tt t1 (Mr i3 (Dy (xwA (G7 ME)) f1) _) t4
  clear_value jp
  exact cJ (Fx (Tf _) λ r st' q=>by cases r<;>exact q) (Fx (Tf _) λ r st' q=>by cases r<;>exact q)
 ·rintro c st' ⟨q,_⟩;exact q
 rintro⟨c1,c2⟩ KJ ⟨OB,⟨r,e,hW⟩|⟨QA,i3,j3,e,⟨g3,p3,r3,e2⟩,Tt,u1,u2,u3,u4⟩⟩
 ·show xxL e e;exact DA (xdm OB r hW)
 dsimp only at e e2;subst e e2;exact wpS_bind (d4 OB λ Ll KC=>xsd KC ⟨QA,i3,j3,rfl,xbg,Tt,u1,u2,u3,u4⟩)
def wj {prog:JE}{w:JF}{A:JH}{E:Κ}{s:JD}{κ:KeyKind}(hO:κ.OneLt){sq0:SortSt}{key:Keyed}{xs:No}{i n hint:Nat}{Q:xh2->xfa}(hk:xj4)(hs:∀p q,p≤q->q<n->ρ (xnG (i+q) (xuk (i+p))))(J7:xF5 p p)(LJ:xy5)(hn:xvm (i+n))(hh:hint<n)
  (h:∀k,xbx k->(∀j,j<k->ρ (xmP (i+j)))->(∀j,k≤j->j<n->NE (xmP (i+j)))->xpr k):xdi (gy false key xs i n hint):=by
 have eb:∀j,MP κ false key xs j= ! xmP j:=λ j=>rfl
 refine eu hO hk hn hh LJ J7 (λ p q Td hq hb=>?_) λ k h1 h2 h3=>xi1 h1 xte (Sc j hj ND)
 ·rw [eb] at hb ⊢;have KI:ρ (xmP (i+q)):=by show xmI
  have:=hs p q Td hq;cases e:xmP (i+p) with
  |false=>rfl
  |true=>
   rcases xEk _ (i+q) _ e with z|z
   ·show Tl KI z z
   ·show Tl this z z
 ·show xc6 (h2 j hj) eb;show xmv
 ·show xc6 (h3 j hj ND) eb;show xmv
def vy {prog:JE}{w:JF}{A:JH}{E:Κ}{s:JD}{κ:KeyKind}(hO:κ.OneLt){sq0:SortSt}{key:Keyed}{xs:No}{i n hint:Nat}{Q:xh2->xfa}(hk:xj4)(hs:∀p q,p≤q->q<n->ρ (xnG (i+q) (xuk (i+p))))(J7:xF5 p p)(LJ:xy5)(hn:xvm (i+n))(hh:hint<n)
  (h:∀k,xbx k->(∀j,j<k->NE (xnG (i+j) xuK))->(∀j,k≤j->j<n->ρ (xnG (i+j) xuK))->xpr k):xdi (gy true key xs i n hint):=by
 have eb:∀j,MP κ true key xs j=xnG j xuK:=λ j=>rfl
 refine eu hO hk hn hh LJ J7 (λ p q Td hq hb=>?_) λ k h1 h2 h3=>xi1 h1 xte (Sc j hj ND)
 ·rw [eb] at hb ⊢;have:=hs p q Td hq;rcases xEk _ (i+p) _ hb with z|z
  ·show Tl this z z
  ·exact z
 ·exact h2 j hj
 ·exact h3 j hj ND
theorem pD (o:Nat):∀(r:xe8) (n:Nat) (xs:No),xvm (o+n+r.length)->
  xly ((r.zipIdx n).foldl (λ a x=>a.setIfInBounds (o+xkc) xgb) xs) (xAs o n++r++xEz (o+n) r.length)
 | [],n,xs,h=>by simp
 |x::r,n,xs,h=>by
  rw [Df] at h;have JO:xI5 (o+n):=by simp;exact Nat.lt_of_add_right_lt h
  rw [List.zipIdx_cons,List.foldl_cons,pD o r (n+1) _ (by show xMb),IX];have e1:(xs.toList.set (o+n) x).take (o+(n+1))=xAs o n++xbl:=by
   rw [show o+(n+1)=o+n+1 by lia,Ei,Fy JO,List.take_set_of_le P3];rfl
  have e2:(xs.toList.set (o+n) x).drop (o+(n+1)+r.length)=xEz (o+n) (r.length+1):=by
   rw [List.drop_set_of_lt Z5];congr 1;lia
  rw [e1,e2,Df];simp [CQ]
def fg {κ:KeyKind}{xs:No}{P X S:xe8}(e:xvn (P++X++S)){j:Nat}(hj:xgz j):xuk xnE=xh1 X[j]:=by
 have JO:xgE xnE:=by
  have:xs.toList.length=xs.size:=Z6;rw [<-this,e];simp;exact Jo _ hj
 rw [dC JO];congr 1;have:xs[xnE]=xs.toList[xnE]'(by simpa using JO):=Z6;rw [this];simp only [e];rw [Gn (by show xBS),FE Z5];congr 1;exact FJ _ _
def iI {xs:No}(e:xvn (P++X++S))(hj:xgz j):∃JO:xgE xnE,xs[xnE]=X[j]:=by
 have JO:xgE xnE:=by
  have:xs.toList.length=xs.size:=Z6;rw [<-this,e];simp;exact Jo _ hj
 refine xcO JO;have:xs[xnE]=xs.toList[xnE]'(by simpa using JO):=Z6;rw [this];simp only [e];rw [Gn (by show xBS),FE Z5];congr 1;exact FJ _ _
def pO {xs:No}{P X S:xe8}(e:xvn (P++X++S)){i n:Nat}(hi:xbx i)(hn:n≤X.length):xwH (xfw i) (xfw n)=xb6 (X.drop i) n i:=by
 rw [cY (Fh.mpr hi),e,xae (xfw n-(xfw i)) (n-i) (Nat.add_sub_add_left _ _ _)];rw [CQ,<-EB,Hs,ES (CV hi hn),Ed (by simp;lia)]
def kF {κ:KeyKind}{xs:No}{P X S:xe8}(e:xvn (P++X++S))(h:X.Pairwise xbc)(p q:Nat)(Td:p≤q)(hq:xgz q):ρ (xnG (xfw q) (xuk (xfw p))):=by
 rw [fg e hq,fg e (show xgz p from DS Td hq)];show xaX p q z z
 ·exact xmM h p q (Hf z hq) hq z
 ·show xbO p q (Dy Td z) xj8
universe SG
namespace SM
theorem KO {α:Type}{p:xjC α}:∀{ys:xbF},(∃y∈ys,NE (p y))->∃l1 y l2,ys=l1++y::l2/\NE (p y)/\∀z∈l1,¬NE (p z)
 | [],h=>by obtain⟨y,hy,_⟩:=h;cases hy
 |z::ys,h=>by
  by_cases hz:NE (p z)
  ·exact xhY [] z ys hz (xuA h h)
  ·obtain⟨y,hy,hp⟩:=h;show xei hy hy
   ·show xaW hp hz
   ·obtain⟨l1,y,l2,e,h1,h2⟩:=KO ⟨y,hy,hp⟩;refine⟨z::l1,y,l2,by rw [e];rfl,h1,LE u hu⟩;show xei hu hu
    ·exact hz
    ·exact h2 u hu
theorem Ka {kf:α->κ}(O:xHr):∀{xs ys:xbF},xwj->xs.Perm ys
 | [],ys,h=>by
  cases ys with
  |nil=>show xg0
  |cons y ys=>have:=xuP h.symm (Do);cases this
 |x::xs,ys,h=>by
  have hx:=xuP h (Do);obtain⟨l1,y,l2,rfl,hy,h1⟩:=KO ⟨x,hx,Kt O x⟩;have e:=h xcP;have n1:l1.filter (xoY xcP)=[]:=ET.mpr h1;rw [Dx (Kt O x),DG,n1,D3,Dx hy] at e;show xws rfl (HL e);have ht:xE2 (l1++l2):=λ k=>by
   by_cases hk:xr0 k x
   ·have z:=KL.mp hk;show xfs (xcP=k) (xHt _ xd3 xgV);rw [DG,n1,D3];exact e2
   ·have e3:=xi1;rw [xni,DG,xni] at e3;show IO DG e3
  exact(List.Perm.cons x (Ka O ht)).trans GQ.symm
universe SM
namespace SG
open PySem PyProof.Rows SM
def uG {xs:No}(h:xgE 0):xs[0]∈xs.toList.take 1:=by
 show xc6 (rk (xs:=xs) (i:=0) h) Er;show xbD this
def uS {xs:No}(h:xgE 0):xs[xs.size-1]∈xs.toList.drop (xs.size-1):=by
 show xbD (fh (show xgE (xs.size-1) from Z4))
def yu {A:JH}{E:Κ}{s:JD}{M:Model}{σ:Type}{x:σ}{Q:PUnit->Ψ σ}{sq0:σ}(h:Q ⟨⟩ x):xsz A E s (set x:StateT σ Sem PUnit) Q sq0:=by
 show xpt wpS StateT.run_set (Dl (xb2 h))
def o5 {prog:JE}{w:JF}{A:JH}{E:Κ}{s:JD}{κ:KeyKind}(hO:κ.OneLt){sq0:SortSt}{i:Nat}{P X Y S:xe8}{pw pw2:Nat}{Q:Bool->xfa}(hk:xj4)(hf:xt2 sq0)(J7:xjw p xoH p)
  (e:xoH=P++X++Y++S) (hX:X.Pairwise xbc) (hY:xEs) (nX:xgz 0) (nY:0<Y.length)
  (p1:xad (xtU) (P.length,X.length,pw)) (p2:xaH (xtU) (i+1) (xbq P X,Y.length,pw2))
  (h:∀st' Z,kindOf st'=oneType'->xt2 st'->pendingOf st'=xDT ((xtU).setIfInBounds i (P.length,xrh,pw)) i 1->xly xw3 (P++Z++S)->Z.Pairwise xbc->xis Z (X++Y)->xyO st'):
  xdi (mergeAt' i):=by
 have eX:xoH=P++X++(Y++S):=by show xbD e
 have eY:xoH=(P++X)++Y++S:=e;have lPX:xbq P X=xJQ:=CN;have lA:xB0=xDL xJQ+S.length:=by
  have:(xoq).toList.length=xB0:=Z6;rw [<-this,e];simp [D4]
 have hmX:xcq X (xwN x):=λ x hx=>J7 x (by rw [e];simp [hx])
 have hmY:xjw y Y y:=λ y hy=>J7 y (by rw [e];simp [hy])
 show xnO;dsimp-zeta only;rw [p1,p2];dsimp-zeta only;show xaS (yu ?_);obtain⟨hy0,ey0⟩:=iI eY (j:=0) nY;show xaS (xuR (xbq P X) xeg ?_);have ey:(xoq)[xbq P X]'(Ej hy0)=Y[0]:=ey0;rw [ey];show xaS (wj hO hk (kF eX hX) J7 (hmY _ (ER _)) (show xJQ≤xB0 from xig lPX.symm (Dr hy0)) nX λ k f1 f2 f3=>?_);have g2:∀j (hj:j<k),xbc (X[j]'(xjY f1)) Y[0]:=λ j hj=>by
  show xgF (f2 j hj) (fg eX (show xgz j from xjY f1))
 have g3:∀j,k≤j->∀hj:xgz j,xb7 Y[0] X[j]:=λ j hj ND=>by
  show xgF (f3 j hj ND) (fg eX ND)
 show xyx XM (xny y Y Y[0] y) (λ y hy=>by
  show xow j hj hy;rcases FL j with rfl|z
  ·exact xj8
  ·exact xmM hY 0 j nY hj z);by_cases hz:xwD k=0
 ·show xs3 (xAb hz (xf6 (X++Y) hk hf rfl (by show xoH=_;show xbD e) ?_ xgt)) Dh ⟨hX,hY,λ x hx y hy=>?_⟩;show xow j hj hx;exact xfy (g2 j (xjY (xwA hz))) (XM y hy)
 refine xx2 ?_;have n1:=Fq nX;have US:k≤xkg:=Ft (Hy (LT (hz (Ix z))));obtain⟨hx0,ex0⟩:=iI eX (j:=xkg) n1;rw [D4,D2 f1,Ih nX];show xaS (xuR (xfw (xkg)) hx0 ?_);rw [ex0];show xaS (vy hO hk (kF eY hY) J7 (hmX _ (ER _)) (show xDL (xbq P X)≤xB0 from Z5) (show Y.length-1<Y.length from Fq nY) λ k2 d1 d2 d3=>?_);have c2:∀j (hj:j<k2),xb7 (Y[j]'(xjY d1)) (X[xkg]' n1):=λ j hj=>by
  show xgF (d2 j hj) (fg eY (show j<Y.length from xjY d1))
 have c3:∀j,k2≤j->∀hj:j<Y.length,xbc (X[xkg]' n1) Y[j]:=λ j hj ND=>by
  show xgF (d3 j hj ND) (fg eY ND)
 have OR:0<k2:=by
  rcases FL k2 with rfl|z
  ·have a1:=c3 0 P3 nY;have a2:=g3 xkg US n1;have a3:ρ (xih Y[0] (X[xkg]' n1)):=a1;have a4:NE (xih Y[0] (X[xkg]' n1)):=a2;show Tl a3 a4 a4
  ·exact z
 show xyx xlast (xcq X (xbc x (X[xkg]' n1))) (λ x hx=>by
  show xow j hj hx;show xaX j xkg z z
  ·exact xmM hX j _ hj n1 z
  ·show xbO j xkg (Dy (Ft hj) z) xj8);refine xoQ (Gq OR xos) ?_
 extract_lets x y jp
 have ex:x.toList=X.drop k:=by
  show xly ((xoq).extract xzw (xbq P X)) _;rw [lPX,pO eX f1 P3,Dv Z6]
 have Wt:y.toList=Y.take k2:=by
  show xly ((xoq).extract (xbq P X) (xbq P X+k2)) _;show xc6 (pO eY (i:=0) (n:=k2) Ω d1) FG;rw [this,EY,Gr]
 have lx:x.size=xwD k:=by rw [<-Ee,ex,C6]
 have ly:y.size=k2:=by rw [<-Ee,Wt,Dd,DL d1]
 have hxa:xjw p x.toList p:=λ p hp=>hmX p (by show UV ex hp (DR hp))
 have hya:xjw p y.toList p:=λ p hp=>hmY p (by show UV Wt hp (DN hp))
 have sx:x.toList.Pairwise xbc:=by show IO ex (hX.sublist (Jh _ _))
 have sy:y.toList.Pairwise xbc:=by show IO Wt (hY.sublist (Ge _ _))
 have xge:∀u∈x.toList,xb7 Y[0] u:=λ u hu=>by
  rw [ex] at hu;show xow j hj hu;show IO FX (g3 _ xdY _)
 have UC:∀v∈y.toList.take 1,∀u∈x.toList,xb7 v u:=λ v hv u hu=>by
  rw [Wt,Hn,DL OR] at hv;show xbO v Y[0] (by
   show xpy j hj hv Dd hj;show xfs (j=0) (xAl (xjY xiF));rw [E3]) (xge u hu)
 have Mr:∀v∈y.toList,∀u∈x.toList.drop (x.size-1),xb7 v u:=λ v hv u hu=>by
  rw [Wt] at hv;show xpy j hj hv Dd hj;rw [E3];rw [ex,lx,EB,Jb,D2 US] at hu;show xbO u (X[xkg]' n1) (by
   show xpy q hq hu C6 hq;rw [FX];congr 1;omega) (c2 j (xjY xiF))
 have hj:∀(r:No) (Mm:SortSt),kindOf Mm=oneType'->arrOf Mm=xoq->xt2 Mm->pendingOf Mm=xDT ((xtU).setIfInBounds i (P.length,xrh,pw)) i 1->cy κ x y r->xkB (jp r) Q Mm:=by
  intro r Mm b1 b2 b3 b4 hW;have lr:r.toList.length=(xwD k)+k2:=by
   rw [xEN xcL hW.2,CN,Ee,Ee,lx,ly]
  show xKs ?_;show xnO;have Xo:NE (failedOf Mm).isNone:=by rw [b3];rfl
  refine DA ?_;show Q ((failedOf Mm).isNone) _;show Tm Xo (xf6 (xF0++r.toList++xFv) b1 b3 b4 ?_ ?_ ?_)
  ·show xly ((r.toList.zipIdx 0).foldl (λ a x=>a.setIfInBounds (xzw+xkc) xgb) (arrOf Mm)) _;rw [b2,pD xzw r.toList 0 xoq (by rw [lr,lA];omega),FG,lr,e];have t1:(P++X++Y++S).take xzw=P++xF0:=by
    rw [CQ,CQ,List.take_append,Dv xdY,Ex,Ed f1]
   have t2:xr9 (P++X++Y) S (xzw+(xwD k+k2))=xFv++S:=by
    rw [CQ (P++X),show xzw+(xwD k+k2)=xbq P X+k2 by rw [lPX,D4,<-D4 k,D2 f1,D4],<-EB,Hs,ES d1]
   rw [t1,t2];simp [CQ]
  ·have memr:∀u∈r.toList,u∈x.toList\/u∈y.toList:=λ u hu=>Dj.mp (J3.mem xcL hW.2 hu)
   rw [CQ,Dh,Dh];refine⟨hX.sublist (Ge _ _),⟨hW.1,hY.sublist (Jh _ _),λ u hu v hv=>?_⟩,λ u hu v hv=>?_⟩
   ·show xpy q hq hv C6 hq;rw [FX];rcases memr u hu with z|z
    ·show UV ex z (xfy (xlast u (DR z)) (c3 _ xdY _))
    ·rw [Wt] at z;show xpy j hj z Dd hj;rw [E3];have hj:=xjY xiF;exact xmM hY j _ (xjY d1) (Ez hq) (xjY xdY)
   ·show xpy q hq hu Dd hq;rw [E3];have a1:=g2 q (CZ hq xiF);show xbR hv z z
    ·rcases memr v z with z|z
     ·exact xfy a1 (xJP (xge v z))
     ·show UV Wt z (xfy a1 (XM v (DN z)))
    ·exact xfy a1 (XM v (DR z))
  ·have q1:=xJ8 ((J3.refl (blt:=κ.blt) (kf:=xh1) xF0).app hW.2) xFv;rw [ex,Wt] at q1;have:xF0++(X.drop k++Y.take k2)++xFv=X++Y:=by
    rw [<-CQ,Dw,CQ,Dw]
   show UV this q1 q1
 clear_value jp
 have nx:0<x.size:=lx▸HJ hz;have ny:0<y.size:=ly▸OR;refine cJ (wpS_bind (o6 hO hk hxa hya sx sy nx ny (UC _ (uG ny) _ Z6) Mr λ r st' MD hW=>hj r st' xMt MD.a xMu MD.p hW))
  (wpS_bind (oj hO hk hxa hya sx sy nx ny UC (Mr _ Z6 _ (uS nx)) λ r st' MD hW=>hj r st' xMt MD.a xMu MD.p hW))
def toL {xs:No}(k:Nat):xfX k=xs.toList[k]?:=Z6
def oQ {A' M B:xe8}(e:xvn (xs2++B)):xly (mirror xs A'.length xhd ((xhd-A'.length)/2)) (A'++M.reverse++B):=by
 have hs:xvm xhd:=by
  rw [<-Ee,e];simp
 apply EF;intro k;rw [<-toL,getElem?_mirror_all hs k,toL,toL,e];by_cases h:A'.length≤k/\k<xhd
 ·show xcI j (FS xbW);have hj:=Nat.lt_of_add_lt_add_left xez;have e0:xDv (xhd)-1-(xDv j)=xDv (M.length-1-j):=by clear h e hs;omega
  rw [Dq h,e0,CQ,CQ,DC xdY,DC xdY,Ex,Ex,DW (DS xlH (Fq hj)),DW (by simp;exact hj),List.getElem?_reverse hj]
 ·rw [Dc h,CQ,CQ];show xaX k A'.length z z
  ·rw [DW z,DW z]
  ·rw [DC z,DC z,DC Z5,DC (by simp;omega),GJ]
def pC {x:Keyed}(e:xvn (xs2++xbl++B)):xly (bubble xs xhd (xhd-A'.length)) (A'++xbl++M++B):=by
 have hs:xgE xhd:=by
  rw [<-Ee,e];simp
 apply EF;intro k;rw [<-toL,getElem?_bubble hs _ xlH k,toL,toL,toL,e,show xhd-(xhd-A'.length)=A'.length by omega];have e1:(xs2++xbl++B)[xhd]?=Χ:=by
  rw [CQ xs2,DC Z6];simp
 rw [e1];by_cases h1:k=A'.length
 ·subst h1;rw [Τ,CQ,CQ,DC P3];simp
 ·rw [xng];by_cases h2:A'.length<k/\k≤xhd
  ·rw [Dq h2,CQ xs2,CQ,DC (Ft xzD),DW Z4,CQ (A'++xbl),DC (by simp;exact Nat.succ_le_of_lt xzD),DW (by simp;omega)];congr 1;simp;lia
  ·rw [xlt];show xaX k A'.length z z
   ·rw [CQ xs2,CQ,DW z,CQ (A'++xbl),CQ,DW z]
   ·rw [DC (by simp;lia),DC (by simp;omega)];congr 1;simp
structure At (κ:KeyKind)(sq0:SortSt)(pe:Array (Nat×xev))(l:xe8):Prop where
 k:xj4
 f:xt2 sq0
 p:xtU=pe
 a:xoH=l
 has:xjw p l p
def At.setA (h:xpl l)(e:xvn l')(hm:xcU l' (p∈l)):xk1 (setArr sq0 xs) l':=⟨h.k,h.f,h.p,e,λ p hp=>h.has p (hm p hp)⟩
def iR (hO:κ.OneLt)(h:xpl (P++X++S))(hi:xgz i)(hj:xgz j)
  (hq:xpr (xih X[i] X[j])):xdi (ltAt' (xfw i) xnE):=by
 rw [ltAt'_eq];show xnO;obtain⟨h1,e1⟩:=iI h.a hi;show xws h2 (iI h.a hj);show xsC h1 (xAU h2 ?_);rw [e1,e2];exact jB hO h.k (h.has _ Z6) (h.has _ Z6) hq
def iN (h:xpl (xs2++B))(ei:i=A'.length)(ej:j=xhd)(hq:∀st',xr8 (A'++M.reverse++B)->xnR st'):
  xdi (reverseSlice' i j):=by
 subst ei ej;exact wpS_reverse (hq _ (h.setA (oQ h.a) λ p hp=>by simpa using hp))
def wS (h:xpl (xs2++xbl++B))(ei:i=xhd)(ej:j=A'.length)(hq:∀st',xr8 (A'++xbl++M++B)->xnR st'):
  xdi (moveDown' i j):=by
 subst ei ej;show IO moveDown'_eq (wpS_modify (hq _ (h.setA (pC h.a) λ p hp=>by
  simp only [Dj,DF] at hp ⊢;rcases hp with((z|z)|z)|z
  ·show xCP (.inl z)
  ·show xaN (.inr z)
  ·show xCP (.inr z)
  ·show xbX z)))
def tK:xhD (xr6 xh2):=sortPriv%PySem.Builtin.countRun
def xt (h:l.Pairwise xbc)(hx:xny y l y x):xkU (l++xbl):=by
 show IO Dh ⟨h,Z6,λ a ha b hb=>by
  show xbO b x (by show xmI) (hx a ha)⟩
def sS {l:xe8}(h:l.Pairwise xbc)(hn:n+1=l.length)(hy:y∈l):xbc y (l[n]'(xul hn)):=by
 show xow j hj hy;show xaX j n z z
 ·exact xmM h j n hj (xul hn) z
 ·show xbO j n (Dy (Eh (De hj hn.symm)) z) xj8
structure Ds (κ:KeyKind)(X D0 Eb:xe8)(n MB:Nat):Prop where
 le:Eb.length=MB+1
 ln:D0.length+Eb.length=n
 eq:∀u∈Eb,xny v Eb u v
 sd:D0.reverse.Pairwise xbc
 lt:∀u∈Eb,∀d∈D0,xb7 u d
 sq0:xis xsc xha
def Ds.sorted (h:xsA X D0 Eb n MB):xkU xsc:=by
 show IO Dh ⟨List.pairwise_of_forall_mem_list λ u hu v hv=>h.eq u hu v hv,h.sd,λ u hu d hd=>xJP (h.lt u hu d (GU.mp hd))⟩
def dj {X:xe8}(hn:xgz n):X.take (n+1)=xha++[X[n]]:=by
 rw [Ei,CU hn];rfl
def Ds.next (h:xsA X D0 Eb n MB)(hn:xgz n)(JO:∀u∈Eb,xb7 X[n] u):xsA X (xxv D0) [X[n]] (n+1) 0:=by
 have J7:∀u∈xsc,xb7 X[n] u:=λ u hu=>by
  show xbR hu z z
  ·exact JO u z
  ·have L5:0<Eb.length:=by have:=h.le;exact Iu this
   have e0:Eb[0]∈Eb:=ER L5;exact(xcL).tr _ _ _ (JO _ e0) (h.lt _ e0 u (GU.mp z))
 refine⟨rfl,by rw [CN,GJ,h.ln];rfl,λ u hu v hv=>?_,?_,λ u hu d hd=>?_,?_⟩
 ·have e1:u=X[n]:=by show xu9
  have e2:v=X[n]:=by simpa using hv
  subst e1;subst e2;exact xj8
 ·rw [F2,E5];exact h.sorted
 ·have e1:u=X[n]:=by show xu9
  subst e1;refine J7 d ?_;show xbR hd z z
  ·exact xk8 (GU.mpr z)
  ·exact xnQ (GU.mp z)
 ·rw [F2,E5,dj hn];show SC (xA7 (xMv [X[n]])) (dN xcL λ y hy x hx=>?_).symm;have e1:y=X[n]:=by show xC6
  subst e1;exact J7 x hx
def Ds.more (h:xsA X D0 Eb n MB)(hn:xgz n)(h1:xny u Eb X[n] u)(h2:xny u Eb u X[n]):xsA X D0 (Eb++[X[n]]) (n+1) (MB+1):=by
 have L5:0<Eb.length:=by have:=h.le;exact Iu this
 have e0:Eb[0]∈Eb:=ER L5;have hD:∀d∈D0,xb7 X[n] d:=λ d hd=>eQ xcL (h1 _ e0) (h.lt _ e0 d hd)
 refine⟨by rw [CN,h.le];rfl,by rw [CN,<-D4,h.ln];rfl,λ u hu v hv=>?_,h.sd,λ u hu d hd=>?_,?_⟩
 ·rcases Dj.mp hu with z|z<;>rcases Dj.mp hv with z2|z2
  ·exact h.eq u z v z2
  ·show xbO v X[n] (by simpa using z2) (h2 u z)
  ·show xbO u X[n] (by show xmY) (h1 v z2)
  ·have e1:u=X[n]:=by show xmY
   have e2:v=X[n]:=by simpa using z2
   subst e1;subst e2;exact xj8
 ·show xbR hu z z
  ·exact h.lt u z d hd
  ·show xbO u X[n] (by show xmY) (hD d hd)
 ·show Tm (dj hn) (xA7 (xMv [X[n]]));rw [CQ,CQ];refine(J3.refl Eb).app (dN xcL λ y hy x hx=>?_).symm;show xbO y X[n] (by show xC6) (hD x (GU.mp hx))
def vk (hO:κ.OneLt){Q:(xFQ×Nat)->xfa}
  (h:xpl (P++X++S)) (hn:KA=X.length) (ha:Δ a) (han:a≤KA) (hs:xkU (X.take a))
  (hf:∀(x n:Nat) (Si:Δ n) (Ox:n<KA),xBD (f x (xf3 n)) (λ r st'=>st'=sq0/\r=xbS (xih (X[n]'(xzG hn)) (X[n-1]'(Ev (xzG hn)))) (.done (xf3 n)) (.yield (xf3 (n+1)))))
  (hq:∀n,xbx a->n≤KA->xkU xha->(n=KA\/∃JO:xgz n,xb7 X[n] (X[n-1]'(Ev JO)))->Q (xf3 n) sq0):xdi (forIn [a:KA] (xf3 a) f):=by
 refine xAR (λ x c st'=>st'=sq0/\c=xf3 x/\xkU (X.take x)) ?_ ?_ (xfE rfl hs)
 ·rintro x c st' ZP Qp ⟨rfl,rfl,QS⟩;refine Fx (hf x x (CV ha ZP) Qp) ?_;rintro r OZ ⟨rfl,rfl⟩;by_cases hc:NE (xih (X[x]'(xyK)) (X[x-1]'(Ev xyK)))
  ·show xlo hc (hq x ZP (Ff Qp) QS (xcv xyK hc))
  ·show Tm (Dc hc) (xac rfl rfl);show Tm (dj (show xgz x from xyK)) (xt QS (LE y hy))
   have l1:=sS QS (by rw [Dd,DL (Dr xyK),Ja (CV ha ZP)]) hy;show UV E3 l1 (xfy l1 (by simpa using hc))
 ·rintro c st' ⟨rfl,rfl,QS⟩;rw [xae (max a KA) KA (Jq han)] at QS ⊢;exact hq KA han P3 QS xbZ
def lW (hO:κ.OneLt)(h:xpl (P++X++S))(NK:Kf=P.length)(hn:KA=X.length)(h1:Δ KA)
  (hq:∀m Y st',Δ m->m≤KA->Y.length=m->xEs->xis Y (X.take m)->xr8 (P++(Y++xoP)++S)->Q (some m) st'):xdi (tK Kf KA):=by
 subst NK;have up:∀{sq0} {X},xpl (P++X++S)->∀(hXn:KA=X.length) (n:Nat) (Si:Δ n) (Ox:n<KA) {Q:xEH->xfa},xpr (xih (X[n]'(xzG hXn)) (X[n-1]'(Ev (xzG hXn))))->xdi (ltAt' (xfw n) (xfw n-1)):=by
  intro sq0 X h hn n Si Ox Q hq;show IO (xae (xfw n-1) (xfw (n-1)) (Ih Si _)) (iR hO h (xzG hn) (Ev (xzG hn)) hq)
 show xaS (vk hO h hn (C4 1) h1 ?_ ?_ λ n Si Ox hs hor=>?_)
 ·cases X with
  |nil=>simp
  |cons x X=>simp
 ·intro x n Si Ox;show xq4 (up h hn n Si Ox ?_)
  split
  ·exact xnb
  ·exact xnb
 dsimp-zeta only;have same:P++X++S=P++(xha++X.drop n)++S:=by rw [Dw]
 have lt:xat xha n:=by rw [Dd,DL (xr2 Ox hn)]
 by_cases e1:n=KA
 ·refine xAb e1 (hq n xha sq0 Si Ox lt hs xgt (same▸h))
 show xhh (xoQ (e1 xos) ?_) JO N1 (hor.resolve_left e1);have hn5:=De JO hn.symm;have Q2:=DS Ω JO
 extract_lets v1 v2 jp
 have Tf:∀QN,xk1 QN (P++(xE1++X.drop n)++S)->(∀u∈xha,xny v xha u v)->xkB (jp ()) Q QN:=by
  intro QN hA1 heq;show xaS xx6;have hprev:(X[n-1]'(Ev JO))∈xha:=by
   show IO List.mem_take_iff_getElem (xdt (n-1) (xIW ⟨Fq Si,Ev JO⟩))
  have hX0:∀u∈xha,xb7 X[n] u:=λ u hu=>cM xcL N1 (heq _ hprev u hu)
  have hD0:xsA X xE1 [X[n]] (n+1) 0:=by
   refine⟨rfl,by rw [GJ,lt];rfl,λ u hu v hv=>?_,by show IO E5 hs,λ u hu d hd=>?_,?_⟩
   ·have e1:u=X[n]:=by show xu9
    have e2:v=X[n]:=by simpa using hv
    subst e1;subst e2;exact xj8
   ·have e1:u=X[n]:=by show xu9
    subst e1;exact hX0 d (GU.mp hd)
   ·rw [E5,dj JO];refine(dN xcL λ y hy x hx=>?_).symm;have e1:y=X[n]:=by show xC6
    subst e1;exact hX0 x hx
  have hA0:xk1 QN (P++(xE1++[X[n]]++X.drop (n+1))++S):=by
   rw [CQ xE1,Hh,<-EA JO];exact hA1
  show xki (λ x c st'=>∃D0 Eb MB,c=xf8 x MB/\xsA X D0 Eb x MB/\xr8 (P++(D0++Eb++xBX)++S)) (Q:=λ c st'=>∃m D0 Eb MB,c=xf8 m MB/\m≤KA/\n+1≤m/\xsA X D0 Eb m MB/\xr8 (P++(D0++Eb++xoP)++S)) ?_ (xhY _ _ 0 hD0 hA0) ?_
  ·rintro x c Mm ZP Qp ⟨D0,Eb,MB,rfl,hD,hA⟩;have hax':n+1≤x:=ZP;have Mn:=hD.le;have Kg:=hD.ln;have Zq:xgz x:=xyK;have lC:KA=xbq (D0++Eb) xBX:=by rw [CN,CN,C6,Kg,xCL Zq];exact hn
   have hc1:(D0++Eb++xBX)[x]'(xBP lC)=X[x]:=by
    rw [FE (by show IO CN (Di Kg)),FX];simp only [CN,Kg,Gs,FG]
   have hE:=xul Mn.symm;have ON:=CZ (HF n) hax';have Wd:x-1=D0.length+MB:=by rw [<-Kg,Mn];rfl
   have YN:(D0++Eb++xBX)[x-1]'(Ev (xBP lC))=Eb[MB]' hE:=by
    rw [Gn (by rw [CN,Kg];exact Fq ON),FE (by show IO Wd xdY)];simp only [Wd,Ex]
   have Xw:(Eb[MB]' hE)∈Eb:=ER _;show xaS (up hA lC x ON Qp ?_);rw [hc1,YN];dsimp only;cases e:xih X[x] (Eb[MB]' hE) with
   |true=>
    refine aM rfl ?_;have hN:=hD.next Zq λ u hu=>cM xcL e (hD.eq _ Xw u hu)
    have fin:∀KJ,xk1 KJ (xxv (P++D0)++(xBX++S))->xk1 KJ (P++(xxv D0++[X[x]]++X.drop (x+1))++S):=λ KJ h3=>by
     rw [CQ (xxv D0),Hh,<-EA Zq];show xoR h3
    by_cases QC:MB>0
    ·refine xFf QC (iN (by show xoR hA) (by rw [CN,<-Kg,Mn,<-D4];exact xLI) (by rw [CN,D4,Kg]) λ KJ Sm=>DA (xhY _ _ 0 hN (fin KJ Sm)))
    ·have XW:Eb.reverse=Eb:=by
      show xwt y (xLr (Mn.trans (xAk (G7 QC))));rw [e];rfl
     refine aJ QC (DA (xhY _ _ 0 hN (fin Mm ?_)));rw [XW];show xoR hA
   |false=>
    refine xpz ?_;rw [Ih ON];show xaS (iR hO hA (Ev (xBP lC)) (xBP lC) ?_);rw [hc1,YN];dsimp only;cases e2:xih (Eb[MB]' hE) X[x] with
    |true=>exact xr4 rfl ⟨x,D0,Eb,MB,rfl,Dr Qp,hax',hD,hA⟩
    |false=>
     refine xpz (DA (xhY D0 _ (MB+1) (hD.more Zq (λ u hu=>xfy e2 (hD.eq _ Xw u hu)) (λ u hu=>xfy (hD.eq u hu _ Xw) e)) ?_));rw [<-CQ D0,CQ (D0++Eb),Hh,<-EA Zq];exact hA
  ·rintro c Mm ⟨D0,Eb,MB,rfl,hD,hA⟩;have:max (n+1) KA=KA:=Jq hn5;have this':max v1 KA=KA:=this;rw [this'] at hD hA ⊢;exact⟨KA,D0,Eb,MB,rfl,P3,hn5,hD,hA⟩
  ·rintro c Mm ⟨m,D0,Eb,MB,ec,Vo,hm2,hD,hA⟩;subst ec;have Mn:=hD.le;have Kg:=hD.ln;dsimp-zeta only
   extract_lets r1 r2 r3 r4 V'
   have er3:m=r3:=rfl;have er4:MB=r4:=rfl
   clear_value r3 r4
   subst er3 er4;have O2:∀KJ,xk1 KJ (xxv (P++D0)++(xoP++S))->xkB (V' ()) Q KJ:=by
    intro KJ Sm;have hm0:=CZ (HF n) hm2;show xaS (iN (M:=xxv D0) (by show xoR Sm) rfl (by rw [CN,GJ,Kg]) (LE Ll OY));rw [F2,E5] at OY;have lY:xbq Eb D0.reverse=m:=by rw [CN,GJ,Hc,Kg]
    have lYX:KA=xbq xsc xoP:=by rw [CN,lY,C6,D2 (xr2 Vo hn)];exact hn
    have hA5:xk1 Ll (P++(xsc++xoP)++S):=by show xoR OY
    show xaS (vk hO hA5 lYX hm0 Vo ?_ ?_ λ n2 Xi hn4 NI _=>?_)
    ·rw [Ed (Di lY.symm),Dv (Di lY)];exact hD.sorted
    ·intro x n2 Xi hn4;show xq4 (up hA5 lYX n2 Xi hn4 ?_)
     split
     ·exact xnb
     ·exact xnb
    refine DA (hq n2 _ Ll (CV hm0 Xi) hn4 (by rw [Dd,<-lYX,DL hn4]) NI ?_ ?_)
    ·have e1:(xsc++xoP).take n2=xsc++xb6 xoP n2 m:=by
      rw [List.take_append,Dv (xig lY Xi),lY]
     have e2:X.take n2=X.take m++xb6 xoP n2 m:=by
      rw [<-IH,D2 Xi]
     rw [e1,e2];exact hD.sq0.app xgt
    ·have e1:xr9 xsc xoP n2=X.drop n2:=by
      rw [List.drop_append,ED (xig lY Xi),D3,lY,EB,D2 Xi]
     rw [<-e1,Dw];exact hA5
   clear_value V'
   by_cases QC:MB>0
   ·refine xFf QC (iN (by show xoR hA) (by rw [CN,<-Kg,Mn,<-D4];exact xLI) (by rw [CN,D4,Kg]) λ KJ Sm=>O2 KJ Sm)
   ·have XW:Eb.reverse=Eb:=by
     show xwt y (xLr (Mn.trans (xAk (G7 QC))));rw [e];rfl
    refine aJ QC (O2 Mm ?_);rw [XW];show xoR hA
 clear_value jp
 by_cases hgt:n>1
 ·refine aM hgt ?_;rw [Ih Si];show xq4 (iR hO h Q2 (Ev JO) ?_);cases er:xih (X[0]' Q2) (X[n-1]'(Ev JO)) with
  |true=>exact xr4 rfl (hq n xha sq0 Si Ox lt hs xgt (same▸h))
  |false=>
   refine xpz (wpS_bind (iN ?_ rfl (by rw [lt]) λ KJ Sm=>Tf KJ (by show xoR Sm) λ u hu v hv=>?_))
   ·have e0:P++xha++(X.drop n++S)=P++X++S:=by rw [CQ P,<-CQ xha,Dw,<-CQ]
    show IO e0 h
   ·show xaM l1 (sS hs (by rw [lt,Ja Si]) hu) E3 l1;show xow j hj hv;rw [E3];have l2:xbc (X[0]' Q2) (X[j]'(xjY (xig lt (Dr JO)))):=by
     rcases FL j with rfl|z
     ·exact xj8
     ·show xeo (xmM hs 0 j (Hf z hj) hj z) E3 E3;show xi3
    exact xfy l1 (xfy er l2)
 ·refine aJ hgt (Tf sq0 ?_ λ u hu v hv=>?_)
  ·show xfs (n=1) (Dy (xHF hgt) Si);rw [same] at h;have e1:(X.take 1).reverse=X.take 1:=by
    cases X with
    |nil=>rfl
    |cons x X=>rfl
   show IO e1 h
  ·show xfs (n=1) (Dy (xHF hgt) Si);show xow j hj hu;show xow q Sf hv;have e1:j=0:=xAl (lt▸hj);have e2:q=0:=xAl (lt▸Sf);subst e1;subst e2;exact xj8
def jR (hO:κ.OneLt)(h:xpl (P++(Y++R)++S))(NK:Kf=P.length)(hY:xEs)(lY:Y.length=ok)(h1:Δ ok)(hok:xbx ok)(hn:n≤ok+R.length)
  (hq:∀Y' st',Y'.length=n->xIL->xis Y' (Y++R.take (n-ok))->xr8 (P++(Y'++xke n)++S)->xyO st'):xdi (binarySort' Kf n ok):=by
 subst NK;show xaS (Fx (xAR (λ k c st'=>c=xf3 ()/\∃Y',Y'.length=k/\xIL/\xis Y' (Y++R.take (k-ok))/\xr8 (P++(Y'++xke k)++S)) (Q:=λ c st'=>c=xf3 ()/\∃Y',Y'.length=n/\xIL/\xis Y' (Y++R.take (n-ok))/\xr8 (P++(Y'++xke n)++S)) ?step ?fin ?init) ?post)
 case post=>
  rintro c st' ⟨rfl,Y',e1,e2,e3,e4⟩;exact DA (hq Y' st' e1 e2 e3 e4)
 case init=>
  have e:max ok 1=ok:=Nat.max_eq_left h1;show Tm e ⟨rfl,Y,lY,hY,?_,?_⟩
  ·rw [Gs,F9,DM];exact xgt
  ·rw [Gs,EY];exact h
 case fin=>
  rintro c st' ⟨rfl,Y',e1,e2,e3,e4⟩;rw [Jq (Nat.max_le.2 ⟨hok,CV h1 hok⟩)] at e1 e3 e4;exact⟨rfl,Y',e1,e2,e3,e4⟩
 case step=>
  rintro k c st' hak hkn ⟨rfl,Y',e1,e2,e3,e4⟩;have hak':ok≤k:=CV (Nat.le_max_left _ _) hak;have ZD:k-ok<R.length:=Z4;have lC:xbq Y' (xke k)=k+(R.length-(k-ok)):=by rw [CN,C6,e1]
  have hkC:k<xbq Y' (xke k):=lC▸EN (Gj ZD);clear lC;have hx:(Y'++xke k)[k]' hkC=R[k-ok]:=by
   rw [FE (Di e1),FX];simp only [e1,Gs,FG]
  have hy:∀m (hm:m<k),(Y'++xke k)[m]'(Hf hm hkC)=Y'[m]'(xkY hm):=λ m hm=>Gn (xkY hm)
  extract_lets v1 v2
  show xaS (Fx (xAR (λ x c OZ=>OZ=st'/\∃l r,c=xf8 l r/\l≤r/\r≤k/\r-l≤k-x/\
    (∀i (hi:i<l) (ZG:i<k),xbc (Y'[i]'(xkY ZG)) R[k-ok])/\(∀i,r≤i->∀hi:i<k,xb7 R[k-ok] (Y'[i]'(xkY hi)))) (Q:=λ c OZ=>OZ=st'/\∃l r,c=xf8 l r/\l≤k/\(∀i (hi:i<l) (ZG:i<k),xbc (Y'[i]'(xkY ZG)) R[k-ok])/\(∀i,l≤i->∀hi:i<k,xb7 R[k-ok] (Y'[i]'(xkY hi)))) ?istep ?ifin ?iinit) ?ipost)
  case iinit=>exact⟨rfl,0,k,rfl,Ω,P3,F4 _ 0,xjE i hi hi (Jt _),λ i h1 h2=>absurd h2 (xEq h1)⟩
  case ifin=>
   rintro c OZ ⟨rfl,l,r,rfl,NJ,Zv,hm,NK,QW⟩;show xbO l r (mz NJ hm) ⟨rfl,l,l,rfl,Zv,NK,QW⟩
  case istep=>
   rintro x c OZ _ hxk ⟨rfl,l,r,rfl,NJ,Zv,hm,NK,QW⟩;dsimp only;by_cases K2:l≥r
   ·show xbO l r (Dy NJ K2) (xr4 P3 ⟨rfl,l,l,rfl,Zv,NK,QW⟩)
   ·have hmr:(l+r)/2<r:=Z5;have hml:l≤(l+r)/2:=Z5;have Vm:=CZ hmr Zv;refine aJ K2 (wpS_bind (iR hO e4 hkC (Hf Vm hkC) ?_));rw [hx,hy _ Vm];dsimp only;cases N1:xih R[k-ok] (Y'[(l+r)/2]'(xkY Vm))
    case true=>
     refine xr4 rfl ⟨rfl,l,(l+r)/2,rfl,hml,Dr Vm,CV (Fs (Ft hmr) _) (by show IO Jb (Fs hm 1)),NK,Sc i h1 h2⟩;show xaX ((l+r)/2) i z z
     ·exact cM xcL N1 (xmM e2 _ i (xkY Vm) (xkY h2) z)
     ·show xbO i ((l+r)/2) (Dy z h1) N1
    case false=>
     refine xpz (DA ⟨rfl,(l+r)/2+1,r,rfl,hmr,Zv,CV (IT (FQ hml) _) (Fs hm 1),Sc i h1 h2,QW⟩);show xaX i ((l+r)/2) z z
     ·exact xfy (xmM e2 i _ (xkY h2) (xkY Vm) z) N1
     ·show xbO i ((l+r)/2) (Dy (Eh h1) z) N1
  case ipost=>
   rintro c OZ ⟨rfl,l,r,rfl,OQ,NK,QW⟩;have hd:xke k=R[k-ok]::xke (k+1):=by
    rw [EA ZD];rw [Jn hak']
   have hA:xk1 OZ ((P++xux)++xuy++[R[k-ok]]++(xke (k+1)++S)):=by
    rw [hd] at e4;have e0:(P++xux)++xuy++[R[k-ok]]++(xke (k+1)++S)=P++(Y'++R[k-ok]::xke (k+1))++S:=by
     rw [CQ P,Dw];simp [CQ]
    show IO e0 e4
   have lt:xat xux l:=by rw [Dd,e1,DL OQ]
   have ld:xat xuy (k-l):=by rw [C6,e1]
   show xaS (wS hA (by rw [CN,lt,ld,D4,D2 OQ]) (by rw [CN,lt]) λ KJ Sm=>DA ⟨rfl,xux++[R[k-ok]]++xuy,?_,?_,?_,?_⟩)
   ·rw [CN,CN,lt,ld];show l+1+(k-l)=k+1;rw [Nat.add_right_comm,D2 OQ]
   ·have m1:xny y xux y R[k-ok]:=λ y hy=>by
     show xpy j hj hy lt hj;show IO E3 (NK j hj (xjY OQ))
    have m2:xny y xuy R[k-ok] y:=λ y hy=>by
     show xpy j hj hy ld hj;show IO FX (xJP (QW _ xdY (Ez hj)))
    rw [CQ,Dh];refine⟨e2.sublist (Ge _ _),?_,λ a ha b hb=>?_⟩
    ·rw [Hh,EH];show xaI m2 (e2.sublist (Jh _ _))
    ·show xbR hb z z
     ·show xbO b R[k-ok] (by show xmY) (m1 a ha)
     ·exact xfy (m1 a ha) (m2 b z)
   ·have e5:R.take (k+1-ok)=R.take (k-ok)++[R[k-ok]]:=by
     rw [Jn hak',dj ZD]
    rw [e5,<-CQ];refine xA7 (e3.app (J3.refl [R[k-ok]]));have sw:xis (xux++([R[k-ok]]++xuy)) (xux++(xuy++[R[k-ok]])):=(xgt).app (dN xcL λ y hy x hx=>by
     show xfs (y=R[k-ok]) (by show xC6);show xpy j hj hx ld hj;show IO FX (QW _ xdY (Ez hj))).symm
    rw [<-CQ,<-CQ,Dw] at sw;exact sw
   ·show xoR Sm
noncomputable def cq (o:Nat):List xe8->xaJ
 | []=>[]
 |r::Rs=>(o,r.length)::cq (o+r.length) Rs
theorem cf (o):∀Rs,xat (cq o Rs) Rs.length
 | []=>rfl
 |r::Rs=>by show(cq _ Rs).length+1=_;rw [cf _ Rs];rfl
theorem ci (o):∀As Bs,cq o (As++Bs)=cq o As++cq (xwQ o) Bs
 | [],Bs=>by simp [cq]
 |r::As,Bs=>by
  show(o,r.length)::cq (o+r.length) (As++Bs)=(o,r.length)::(cq (o+r.length) As++_);rw [ci _ As Bs,Es,CN,D4]
theorem ke {α β:Type}(f:α->β):∀(l:xbF) (i:Nat),(l.eraseIdx i).map f=(l.map f).eraseIdx i
 | [],_=>rfl
 |a::l,0=>rfl
 |a::l,i+1=>by show f a::(l.eraseIdx i).map f=f a::(l.map f).eraseIdx i;rw [ke f l i]
noncomputable abbrev two (e:Nat×xev):xev:=(e.1,Μ e)
def KU (Rs:List xe8)(pe:Array (Nat×xev)):Prop:=xMw=cq 0 Rs
theorem KU.size {pe:Array (Nat×xev)}(h:KU Rs pe):pe.size=Rs.length:=by
 have:=xeI h;rw [CM,cf,Ee] at this;show xi3
theorem KU.push (h:KU Rs pe)(e1:Kf=Rs.flatten.length)(e2:n=r.length):KU (Rs++[r]) (pe.push (Kf,n,pw)):=by
 show xpN KU;subst e1 e2;rw [Jg,C8,h,ci,Er];rfl
theorem KU.modify (h:KU Rs pe)(i)(hf:∀e,two (f e)=two e):KU Rs (pe.modify i f):=by
 show xpN KU;rw [<-h];apply EF;intro j;rw [DX,DX];have:(pe.modify i f).toList[j]?=xbV i j ((pe.toList[j]?).map f) pe.toList[j]?:=by
  rw [Iy,Iy,Array.getElem?_modify]
 rw [this]
 split
 ·cases e:pe.toList[j]? with
  |none=>rfl
  |some v=>show Re (some (two (f v))) (two v);rw [hf]
 ·rfl
theorem KU.at (h:KU (As++X::Bs) pe)(hi:xG8 i):∃pw,xad pe (xAG X.length pw):=by
 subst hi;unfold KU at h;have e:xaH (xMw) As.length (xIQ X.length):=by
  rw [h,ci,DC (by show IO cf P3),cf,Gs,Er];rfl
 rw [DX,Iy] at e;cases e2:pe[As.length]? with
 |none=>show xnZ e2
 |some v=>
  rw [e2] at e;have e3:two v=xIQ X.length:=DK e;obtain⟨v1,v2,v3⟩:=v;have e4:=congrArg Prod.fst e3;have e5:=congrArg Prod.snd e3;dsimp only at e4 e5;subst e4 e5;exact xbn v3
def KU.merge (h:KU (As++X::Y::Bs) pe)(hi:xG8 i)(hZ:Z.length=xrh):
  KU (As++Z::Bs) (xDT (pe.setIfInBounds i (xAG xrh pw)) i 1):=by
 subst hi;have hs:=h.size;show xpN KU;rw [CN,Df,Df] at hs;have e1:xly (xDT (pe.setIfInBounds As.length (xAG xrh pw)) As.length 1) ((pe.toList.set As.length (xAG xrh pw)).eraseIdx (As.length+1)):=by
  unfold Array.eraseIdxIfInBounds;rw [dif_pos (by show xMb),Array.toList_eraseIdx,IX]
 rw [e1,ke,List.map_set,h,ci,ci];show((cq 0 As++(xwQ 0,X.length)::(xwQ 0+X.length,Y.length)::cq (xDL (xwQ 0+X.length)) Bs).set As.length (xIQ xrh)).eraseIdx (As.length+1)=cq 0 As++(xwQ 0,Z.length)::cq (xwQ 0+Z.length) Bs;have lA:=cf 0 As;rw [List.set_append,Dc (Jd.mpr (Di lA)),lA,Gs,List.set_cons_zero,List.eraseIdx_append_of_length_le (Nat.le.intro (congrFun (congrArg HAdd.hAdd lA) 1)),lA,xae (As.length+1-As.length) 1 (FJ _ 1),hZ,Er];show _++(_::cq _ Bs)=_;rw [D4]
structure Rn (κ:KeyKind)(a0:xe8)(sq0:SortSt)(L:Nat)(Rs:List xe8)(tail:xe8):Prop where
 at':∃pe,xpl (xxl tail)/\KU Rs pe
 so:∀r∈Rs,r.Pairwise xbc/\0<r.length
 len:Rs.flatten.length=L
 st':xis (xxl tail) a0
def i8 (hO:κ.OneLt)(h:xEi sq0 L (As++X::Y::Bs) tail)(hi:xG8 i)
  (hq:∀st' Z,xm5 L (As++Z::Bs) tail->xyO st'):xdi (mergeAt' i):=by
 obtain⟨⟨pe,hA,hP⟩,so,hlen,MD⟩:=h;obtain⟨sX,nX⟩:=so X Z6;obtain⟨sY,nY⟩:=so Y Z6;have ef:xvb (As++X::Y::Bs) tail=As.flatten++X++Y++(Bs.flatten++tail):=by simp [CQ]
 obtain⟨pw,p1⟩:=hP.at hi;show xbp pw2 p2 (KU.at (As:=As++[X]) (X:=Y) (Bs:=Bs) (pe:=pe) (i:=i+1) (by simpa using hP) (by simp [hi])) (o5 hO (P:=As.flatten) (X:=X) (Y:=Y) (S:=Bs.flatten++tail) (pw:=pw) (pw2:=pw2) hA.k hA.f (λ p hp=>hA.has p (by show UV hA.a hp hp)) (by rw [hA.a,ef]) sX sY nX nY (by show IO hA.p p1) (by rw [hA.p,p2];simp) λ st' Z b1 b2 b3 b4 b5 b6=>?_)
 have lZ:Z.length=xrh:=by rw [xEN xcL b6,CN]
 have ez:xvb (As++Z::Bs) tail=As.flatten++Z++(Bs.flatten++tail):=by simp [CQ]
 have QN:xis (xvb (As++Z::Bs) tail) (xvb (As++X::Y::Bs) tail):=by
  rw [ez,ef,CQ As.flatten X];exact((xgt).app b6).app xgt
 refine hq st' Z ⟨xaT ⟨b1,b2,b3,by rw [b4,ez],λ p hp=>hA.has p (J3.mem xcL QN hp)⟩,LE r hr,?_,QN.trans MD⟩
 ·show IO hA.p (hP.merge hi lZ)
 ·show xbR hr z z
  ·exact so r (by simp [z])
  ·show xei z z
   ·show xaI b5 Z5
   ·exact so r (by simp [z])
 ·rw [<-hlen];simp [lZ,D4]
theorem qy {α:Type}:∀{Rs:xbF} {j:Nat},xrz (j+1)->∃As X Y Bs,Rs=As++X::Y::Bs/\xG8 j
 | [],j,h=>by show xbm
 | [x],j,h=>by show xbm
 |x::y::Rs,0,_=>⟨[],x,y,Rs,rfl,rfl⟩
 |x::Rs,j+1,h=>by
  obtain⟨As,X,Y,Bs,e,hj⟩:=qy (Rs:=Rs) (j:=j) (by show xbm;assumption);exact⟨x::As,X,Y,Bs,by rw [e];rfl,by simp [hj]⟩
theorem sJ:∀{Rs:List xe8},(∀r∈Rs,0<r.length)->Rs.length≤Rs.flatten.length
 | [],_=>P3
 |r::Rs,h=>by
  have h1:=h r Z6;have h2:=sJ (Rs:=Rs) λ q hq=>h q (by simp [hq])
  rw [Es,CN,Df];lia
def SrP (κ:KeyKind)(a0:xe8)(x:Nat){γ:Type}(r:ForInStep (Option γ×Nat))(st':SortSt):Prop:=match r with
 | .done c'=>∃Rs L,c'=xf3 L/\xm5 L Rs []
 | .yield c'=>∃Rs tail L,c'=xf3 L/\xm5 L Rs tail/\x+1≤L
def AV (h:1<n):n-2+1<n:=by omega
def P8 (hO:κ.OneLt)(hk:xj4)(hf:xt2 sq0)(hp:xtU=#[])(J7:xjw p xoH p)
  (h:∀st',xt2 st'->xL9 xbc->xis (xw3).toList xoH->xnR st'):xdi sortRuns':=by
 show xtQ a0 ha0 a0 (xoH=a0) xbg;have hsz:xB0=a0.length:=by rw [<-ha0,Ee]
 show xnO
 extract_lets size LA Kf
 have hsize:size=a0.length:=hsz
 clear_value size
 have tot:∀{st' L Rs tail},xm5 L Rs tail->L+tail.length=size:=λ {st' L Rs tail} hR=>by
  show xeo (xEN xcL hR.st') CN hR.len;exact this.trans hsize.symm
 show xki (λ x c st'=>∃Rs tail L,c=xf3 L/\xm5 L Rs tail/\x≤L) (Q:=λ c st'=>∃Rs L,c=xf3 L/\xm5 L Rs []) ?_ ?_ ?_
 rotate_left
 ·rintro c st' ⟨Rs,tail,L,rfl,hR,hx⟩;have t:=tot hR;show xbO tail [] (Ey.mp ((F8 t).trans (Ix hx))) (xdm Rs L hR)
 ·exact xhY [] a0 0 (xdm (xdt #[] ⟨hk,hf,hp,ha0,λ p hp'=>J7 p (by show IO ha0 hp')⟩) (xuA h h) xgt) P3
 ·rintro c Mm ⟨Rs,L,rfl,hR⟩;have hlen:=tot hR;show xaM K2 (sJ (Rs:=Rs) λ r hr=>(hR.so r hr).2) hR.len K2;show xki (λ x c st'=>c=xf3 ()/\∃K5,xm5 L K5 []/\K5.length≤max 1 (size-x)) (Q:=λ c st'=>c=xf3 ()/\∃K5,xm5 L K5 []/\K5.length≤1) ?_ ⟨rfl,Rs,hR,CV K2 (xig hlen (xMf _))⟩ ?_
  ·rintro x c KJ _ hx ⟨rfl,K5,KQ,Lo⟩;show xnO;obtain⟨pe,hA,hP⟩:=KQ.at';have hs4:xz0 KJ=K5.length:=by show IO hA.p hP.size
   extract_lets p i before i2
   by_cases h1:p.size≤1
   ·refine xr4 h1 ⟨rfl,K5,KQ,?_⟩;have Lx:xz0 KJ≤1:=h1;exact EZ hs4.symm Lx
   ·refine aJ h1 ?_;have Lx:¬xz0 KJ≤1:=h1;have hi2:i2+1<K5.length:=by
     have e1:i=xz0 KJ-2:=rfl;have e2:i2=i-1\/i2=i:=by
      show(xgL _)=i-1\/(xgL _)=i
      split
      ·exact xbZ
      ·show xbX rfl
     exact hs4▸DS (FQ (e2.elim (λ e=>e▸xlH) Di)) (AV (Hy Lx))
    clear_value i2
    obtain⟨As,X,Y,Bs,rfl,hj⟩:=qy hi2;show xaS (i8 hO KQ hj (Sc Ll Z KP));refine xpz (DA ⟨rfl,_,KP,?_⟩);simp only [CN,Df] at Lo ⊢;exact CV (Ft ((Std.le_max.1 Lo).resolve_left (LT (Nat.not_succ_le_zero _ (Nat.le_of_succ_le_succ (CV (IM _ _) z)))))) (xMf _)
  ·rintro c KJ ⟨rfl,K5,KQ,Lo⟩;show xaC rfl K5 KQ (CV Lo (Nat.max_le.2 (xpP (xig (Gs size) Ω))))
  ·rintro c KJ ⟨rfl,K5,KQ,Lo⟩;show xa8 pe hA hP KQ.at' (DA (h KJ hA.f ?_ ?_))
   ·rw [hA.a,DM];rcases K5 with _|⟨r,_|⟨_,R⟩⟩
    ·simp
    ·simpa using(KQ.so r Z6).1
    ·cases Nat.le_of_succ_le_succ Lo
   ·rw [ha0,hA.a];exact KQ.st'
 rintro x c QN _ hx ⟨Rs,tail,L,ec,hR,hxL⟩;subst ec;have t:=tot hR
 extract_lets Kf jp force nf
 have elo:Kf=L:=rfl
 clear_value Kf
 subst elo;by_cases K2:Kf≥size
 ·show xbO tail [] (Ey.mp ((F8 t).trans (Ix K2))) (xr4 K2 (xdm Rs Kf hR))
 show xeL (aJ K2 ?_) pe hA hP hR.at';show xaS (lW hO (P:=Rs.flatten) (X:=tail) (S:=[]) (by simpa using hA) hR.len.symm (xae (size-Kf) tail.length (F1 (F8 t))) ((Nat.le_sub_iff_add_le' (Dr xCm)).mpr xCm) λ m Y Mm m1 m2 lY sY tY hA2=>?_);show xyx m2' (m≤tail.length) (xr2 m2 (F8 t).symm)
 extract_lets n0
 have Tf:∀n Y tail' KJ,Y.length=n->0<n->xEs->xis xvQ tail->xk1 KJ (xxl (xvQ))->
   xkB (jp () n) (SrP κ a0 x) KJ:=by
  intro n Y tail' KJ lY nY sY tY Sm;have KQ:xEi KJ Kf Rs xvQ:=⟨⟨pe,Sm,hP⟩,hR.so,hR.len,((xgt).app tY).trans hR.st'⟩;show xnO
  extract_lets v1 Vd
  have O3:∀Ll K5,xEi Ll Kf K5 xvQ->xkB (Vd ()) (SrP κ a0 x) Ll:=by
   intro Ll K5 KP;obtain⟨pe4,OY,YR⟩:=KP.at';have ef:xvb (K5++[Y]) tail'=K5.flatten++(xvQ):=by simp [CQ]
   show xKs (DA (xhY (K5++[Y]) tail' (Kf+n) ⟨xac ((xEm).push (Kf,n,0)) (xay OY.k OY.f (by show IO ef OY.a) (λ p hp=>OY.has p (by show UV ef hp hp))),LE r hr,?_,by show IO ef KP.st'⟩ (G2 hxL nY)))
   ·show IO OY.p (YR.push KP.len.symm lY.symm)
   ·show xbR hr z z
    ·exact KP.so r z
    ·show xbO r Y (by show xmY) ⟨sY,De nY lY.symm⟩
   ·have:=KP.len;simp only [Gy,CN,Es,List.flatten_nil,DM];rw [this,lY]
  clear_value Vd
  cases hb:(pendingOf KJ).back? with
  |none=>
   have:xkB (Vd ()) (SrP κ a0 x) KJ:=O3 KJ Rs KQ;simpa only [hb] using this
  |some e=>
   obtain⟨s1,n1,p1⟩:=e;simp only [hb];show xki (λ _ c st'=>c=xf3 ()/\∃K5,xm5 Kf K5 xvQ) (Q:=λ c st'=>c=xf3 ()/\∃K5,xm5 Kf K5 xvQ) xy8 (xfE Rs KQ) ?_
   ·rintro x2 c Ll _ _ ⟨rfl,K5,KP⟩;show xnO;obtain⟨pe4,OY,YR⟩:=KP.at';have hs4:xpC=K5.length:=by show IO OY.p YR.size
    by_cases h2:xpC>1
    ·obtain⟨As,X,Y1,Bs,rfl,hj⟩:=qy (Rs:=K5) (j:=xpC-2) (hs4▸AV h2);obtain⟨pw,p1⟩:=YR.at (i:=xpC-2) hj;have e1:Re (xeW (xpC>1) (xEm)[xpC-2]? none) (xAG X.length pw):=by
      rw [Dq h2,<-p1,OY.p]
     rw [e1];dsimp only;refine cJ (DA (xfE _ KP)) (wpS_bind (i8 hO KP hj (Sc W4 Z Wl)));exact xpz (DA (xfE _ Wl))
    ·have e1:Ζ (xeW (xpC>1) (xEm)[xpC-2]? none):=xlt;show IO e1 (DA (xfE K5 KP))
   ·rintro c Ll ⟨rfl,K5,KP⟩;show xKs (O3 _ K5 ?_);show xa8 pe4 OY YR KP.at' ⟨xaT (xay OY.k OY.f OY.a OY.has),KP.so,KP.len,KP.st'⟩;show KU K5 ((xEm).modify (xpC-1) _);show IO OY.p (YR.modify _ λ e=>rfl)
 clear_value jp
 by_cases JO:m<LA
 ·refine xFf JO xx6;show xaS (jR hO (P:=Rs.flatten) (Y:=Y) (R:=xqQ) (S:=[]) hA2 hR.len.symm sY lY m1 (show m≤xzH (size-Kf) from xLs (Dr JO)) (show xzH (size-Kf)≤xip m xqQ by rw [C6,D2 m2'];exact xr2 xiF (F8 t).symm) λ Y' KJ lY' sY' tY' Sm=>?_);refine xpz (Fx (Tf _ Y' ((xqQ).drop (xzH (size-Kf)-m)) KJ lY' (CZ m1 (xLs (Dr JO))) sY' ?_ (by simpa using Sm)) λ r st' q=>by cases r<;>exact q);have e1:xis (Y'++(xqQ).drop (xzH (size-Kf)-m)) ((tail.take m++xb6 xqQ (xzH (size-Kf)) m)++(xqQ).drop (xzH (size-Kf)-m)):=(tY'.trans (tY.app xgt)).app xgt;rw [CQ,Dw,Dw] at e1;exact e1
 ·refine aJ JO (Fx (Tf m Y xqQ Mm lY xeg sY ?_ (by simpa using hA2)) λ r st' q=>by cases r<;>exact q);have e1:=tY.app (J3.refl (blt:=κ.blt) (kf:=xh1) xqQ);show UV Dw e1 e1
universe SG
namespace SG
open PySem PyProof.Rows
abbrev ltI:Int->xjC Int:=λ a b=>xfM a b
noncomputable abbrev ky {β:Type} (p:Int×β):Int:=xag
def O1:SM.Ord ltI:=⟨λ a=>EQ xL3,λ a b c h1 h2=>CY (Int.lt_trans xii (C5 h2)),λ a b c h=>by
  have:=xbK;by_cases c1:a<b
  ·show xaN (CY c1)
  ·show xbX (CY (Int.lt_of_le_of_lt (xIV c1) this)),λ a b h1 h2=>by
  have:=G9 h1;show xaR (G9 h2)⟩
noncomputable def kInt:KeyKind where
 α:=Int
 blt:=λ a b=>xfM a b
 irrefl:=λ a=>EQ xL3
 trans:=λ a b c h1 h2=>CY (Int.lt_trans xii (C5 h2))
 negTrans:=λ a b c h=>by
  have:=xbK;by_cases c1:a<b
  ·show xaN (CY c1)
  ·show xbX xm6
 total:=λ a b h1 h2=>by
  have:=G9 h1;show xaR (G9 h2)
 keyOf:=λ v=>match v with
  | .int n _=>some n
  |_=>none
 dflt:=0
def UJ:kInt.OneLt:=by
 intro prog w A E s x y a b Q hx hy hq;cases x with
 |int n t=>
  cases y with
  |int m u=>
   show xgk hx hy;exact oneLt_int hq
  |_=>cases hy
 |_=>cases hx
theorem UG {α:Type}{R:α->Ψ α}:∀{l:xbF},l.length<2->l.Pairwise R
 | [],_=>.nil
 | [x],_=>by simp
 |x::y::l,h=>by show xbm;lia
universe SG
namespace L2
open PySem PyProof.Rows QQ
theorem oI:∀{l1} {x} {l2} {m},PR (l1++x::l2) m->∃m1 y m2,m=m1++y::m2/\PR l1 m1/\(∃t,xgb=xb1 xgP)/\RelV y.2 xkc/\PR l2 m2
 | [],x,l2,m,h=>by
  cases h with
  |cons a b c=>exact⟨[],_,_,rfl,.nil,a,b,c⟩
 |z::l1,x,l2,m,h=>by
  cases h with
  |cons a b c=>
   obtain⟨m1,y,m2,rfl,h1,h2,h3,h4⟩:=oI c;exact⟨_::m1,y,m2,rfl,.cons a b h1,h2,h3,h4⟩
def zE (g:PR l1 m1)(h:PR l2 m2):PR (l1++l2) (m1++m2):=by
 induction g with
 |nil=>exact h
 |cons a b _ ih=>exact .cons a b ih
def xq (h:PR l m){k:Int}(hn:∀z∈l,¬NE (xIb xe5 k z)):∀z∈m,¬NE (xGz k z):=by
 induction h with
 |nil=>intro z hz;cases hz
 |cons a b c ih=>
  intro z hz;show xei hz hz
  ·show xfJ t a (xnD (Do ..))
  ·exact ih (λ u hu=>hn u (xkZ hu)) z hz
theorem w4:∀{l' l:xkL JC JC} {m},xDz xe5 l' l->PR l m->xcH (xAL SG.ky m' m/\PR l' m')
 | [],l,m,hs,h=>by
  have e:=xIB xDY hs;cases h with
  |nil=>exact⟨[],xJd,.nil⟩
  |cons a b c=>cases e
 |x::l',l,m,hs,h=>by
  have O:=xDY;have hx:=SM.J3.mem O hs (xyV x (l:=l'));obtain⟨l1,y,l2,rfl,hy,h1⟩:=SM.KO ⟨x,hx,SM.Kt (blt:=SG.kInt.blt) (kf:=xe5) O x⟩;have e:=hs (xe5 x);have n1:l1.filter (xIb xe5 (xe5 x))=[]:=ET.mpr h1;rw [Dx (SM.Kt O x),DG,n1,D3,Dx hy] at e;show xws rfl (HL e);have ht:xDz xe5 l' (l1++l2):=λ k=>by
   by_cases hk:NE (xIb xe5 k x)
   ·have z:=SM.KL.mp hk;show xfs (xe5 x=k) (xHt _ xd3 xgV);rw [DG,n1,D3];exact e2
   ·have e3:=hs k;rw [xni,DG,xni] at e3;show IO DG e3
  obtain⟨m1,y,m2,rfl,p1,⟨t,hy1⟩,p2,p3⟩:=oI h;obtain⟨m',q1,q2⟩:=w4 ht (zE p1 p3);have hkx:xe5 x=xgP:=by
   obtain⟨x1,x2⟩:=x;have e9:x1=xb1 xgP:=hy1;subst e9;rfl
  have km:∀z∈m1,¬NE (xGz xgP z):=by
   show UV hkx h1 (xq p1 h1)
  refine xac (y::m') (xcl k)
  ·by_cases hk:NE (xGz k y)
   ·have z:=SM.KL.mp hk;show xfs (xgP=k) (SG.O1.tot _ _ xd3 xgV);have n2:m1.filter (xGz xgP)=[]:=ET.mpr km;have q:=q1 xgP;rw [DG,n2,D3] at q;rw [Dx hk,DG,n2,D3,Dx hk,q]
   ·show xaM q (q1 k) DG q;rw [xni,DG,xni,q]
  ·obtain⟨x1,x2⟩:=x;show xa4 y1 y2 y (.cons ⟨t,hy1⟩ p2 q2)
def uE {σ:St}
  (I:Pi) (ho:xfK a (xAv n)) (fa:xoa a) (hl:its.length=ks.length) (Kx:xbH its.length)
  (T5:∀(Ks:π) (s':JD) (E':Κ) (i:Nat) (x:JC) (k:Int),xa6 its=Χ->xad ks k->xwm H s'->xlN (xEj xbl) (λ r L3=>(∃t,r=xb1 k)/\xwm H L3) E' s')
  (h:∀(s':JD) (out:No) (kv:xaE),xv6->(∃e,s'.heap.get? a=some (seqObj "list" (out.map (·.2)) e))->xFo ks->xKA->xKa xe5 xq3->P (.done (.ret .none)) s'):
  xlN (xMr xbU [(xmf,xb0)]) P E s:=by
 rw [j6];have ha:xg7 a:=Dt ho;show xc1 (listItems_at ho rfl ?_) (xzI ho ?_);show xtQ e1 ho1 e1 (xjq xGU a xCE) (xbs (HN ho (λ _=>#[])));have I1:xC0 xGU:=I.turn fa;show xbB hs1 (xIP (xGU).objs.size) (Heap.size_update ..) xGU h1;show xc1 (xI6 ho1 ?_) (wpAny_newTuple ?_);show xaG xDP;refine EK ?_;have ho3:xjq (xx1 (xwT 0) 0) a xCE:=xdR (xdR ho1);have I3:xC0 (xx1 (xwT 0) 0):=xDK s.toks (λ b o e=>xdR xep)
 have hc3:xjq (xx1 (xwT 0) 0) xDe (xl7 ([]:xaE).toArray 0):=xfk;have Qu:xAm xDe:=by rw [size_push',hs1];lia
 have fc:xoa xDe:=xDO Qu Qu;have nac:a≠xDe:=xuJ ha Qu;show xlN _ P E (xi7 (xx1 (xwT 0) 0));show xqI xDe c (xx1 (xwT 0) 0) h3;dsimp only;show xc1 (F3 ?_) (wpAny_forIn_array' _ (λ rest _ s'=>∃(i:Nat) (kv:xaE),rest=its.drop i/\i≤its.length/\xFo (ks.take i)/\xv6/\xov a xCE/\∃e2,xov c (xl7 kv.toArray e2)) _ ?_ ?_ _ _ ⟨0,[],rfl,Ω,.nil,I3,ho3,0,hc3⟩)
 ·rintro x rest _ s' ⟨i,kv,hr,hi,Sj,I',hoa,e2,MN⟩;have hx:xa6 its=Χ:=by
   have:(its.drop i)[0]?=Χ:=by rw [<-hr];rfl
   show xmj FK;show xmv
  have K1:i<its.length:=xco hx;have hk:xad ks ks[i]:=CU Z4;have T3:rest=its.drop (i+1):=by
   show UV (EA K1) hr (HL hr).2
  have Ip:=I'.pinned (fp:=[a,c]) (xa3 (by
   show xiS
   ·exact fa
   ·show xib hb fc)) (xa3 (by
   show xiS
   ·exact xav hoa d9
   ·show xib hb (xav MN d9)))
  show xaG (Hj (xdl (T5 _ s' _ i x ks[i] hx hk Ip) (Sc r L3 z9) e e));obtain⟨⟨t,hrv⟩,I''⟩:=z9;subst hrv;have hoa':Re (L3.heap.get? a) xCE:=(I''.pin _ (xH0 Z6 hoa)).1;have hoc':Re (L3.heap.get? c) (xl7 kv.toArray e2):=(I''.pin _ (xH0 Z6 MN)).1;have I2:=I''.unpinned;have OQ:kv.length=i:=by rw [Sj.length,Dd];lia
  dsimp only;show xaG (xzI hoc' xdO (hsz:=by rw [Dg,OQ,Ga];lia) (hsz2:=by rw [Array.size_push,Dg,OQ,Ga];lia));refine⟨i+1,kv++[xb1 ks[i]],T3,K1,?_,I2.turn fc,?_,?_⟩
  ·rw [Ei,hk];exact tE Sj
  ·show xtE c _ a=_;show IO (Fd _ _ _ _ nac) hoa'
  ·have e:=HN hoc' (λ x=>x.push (xun ks[i]));show UV List.push_toArray e (xbs e)
 ·rintro _ s' ⟨i,kv,hr,hi,Sj,I',hoa,e2,MN⟩;have hie:xua i:=by
   show xc6 (xeI hr) C6;simp at this;lia
  rw [hie,hl,DV] at Sj;have OQ:xua kv.length:=by rw [Sj.length,hl]
  have hz:xua (xqB).size:=by show xbD Array.size_zip;exact Fc (Di OQ.symm)
  have I4:xl9 (xGc (xDZ xAB)):=I'.turn fc;have TY:xjq (xDZ xAB) a xCE:=by show IO (Fd _ _ _ _ nac) hoa
  have fin:∀out:No,xKA->xKa xe5 xq3->P (.done (.ret .none)) (xGc ((xDZ xAB).update a (Obj.mapSeq λ _=>out.map (·.2)))):=by
   intro out hp hs;have e5:=HN TY (λ _=>out.map (·.2));generalize xDZ xAB=h4 at*;show xbB I5 (xl9 (xGc (xKY a))) (Inv.turn (s:=xGc h4) I4 fa) (xKY a) h5;exact xf6 out kv I5 (xbs e5) Sj hp hs
  show xaG (listItems_at MN rfl ?_);by_cases h2:its.toArray.size<2
  ·rw [Dq h2,Dq h2];show xaG xdO;show xhF StateT.run_pure xdO;dsimp only;show xc1 (xzI MN ?_ (hsz:=by rw [Dg,OQ,Ga];lia)) xGG;show xc1 (xI6 TY ?_) (xzI TY ?_ (hsz2:=by rw [Array.size_map];show(xqB).size≤_;rw [hz,Ga];lia));simp only [bne_self_eq_false,Fj,Ii];refine Dl (fin _ (SG.UG ?_) ?_)
   ·rw [Ee];show(xqB).size<2;show UV Dg h2 (lt_of_eq_of_lt hz h2)
   ·have:xly xqB xq3:=Z6;show SM.J3 _ _ (xqB).toList _;show IO this xJd
  ·rw [xlt,xlt];rw [Dg] at h2;have hkk:keyKind' kv.toArray=pure oneType':=by
    match kv,Sj,OQ with
    | [],_,OQ=>simp at OQ;lia
    | [_],_,OQ=>simp at OQ;lia
    |v₁::v₂::vs,Sj,_=>exact keyKind_ints Sj
   show xhF hkk xdO;have hzl:xly xqB xq3:=Z6;have ZG:xcU (arrOf (xL4 xqB #[] 7 none)).toList (SG.Mq SG.kInt p):=by
    intro p hp;have hp':p∈xq3:=by show xa5 hzl hp
    show xa9 n t e (Sj.all _ (HK hp').1) ⟨n,by rw [e];rfl⟩
   show xaG (xdl (SG.P8 SG.UJ (sq0:=xL4 xqB #[] 7 none)
    (Q:=λ _ st'=>xL9 (SG.Kd SG.kInt)/\xt2 st'/\xDz xe5 (xw3).toList xq3)
    rfl rfl rfl ZG λ st' a1 a2 a3=>⟨a2,a1,by show xa5 hzl a3⟩) ?_ e e)
   rintro⟨⟨⟩,st'⟩ L3 ⟨rfl,hp,hf,hs⟩;have hsz9:xua (xw3).size:=by rw [<-Ee,xIB xDY hs,List.length_zip,OQ,Nat.min_self]
   dsimp only;show xc1 (xzI MN ?_ (hsz:=by rw [Dg,OQ,Ga];exact xc9 Kx)) xGG;show xc1 (xI6 TY ?_) (xzI TY ?_ (hsz2:=by rw [Array.size_map,hsz9,Ga];omega));rw [hf];simp only [bne_self_eq_false,Fj,Ii];exact Dl (fin _ hp hs)
def oO {σ:St}
  (I:Pi) (hp:xIA its.toArray) (hl:its.length=ks.length) (Kx:xbH its.length)
  (T5:∀(Ks:π) (s':JD) (E':Κ) (i:Nat) (x:JC) (k:Int),xa6 its=Χ->xad ks k->xwm H s'->xDp X.A.in1.in1 (xEj xbl) (λ r L3=>(∃t,r=xb1 k)/\xwm H L3) E' s')
  (h:∀(s':JD) (l:JB) (out:No) (kv:xaE),xv6->xoa l->(∃e,s'.heap.get? l=some (seqObj "list" (out.map (·.2)) e))->xFo ks->xKA->xKa xe5 xq3->Q xah s'):
  xi9 (xqN "sorted" xaO [(xmf,xb0)]) Q E s:=by
 refine call_function_entry_kw kind_sorted plain_sorted entry_sorted (iC _ _) ?_;unfold Builtin.«sorted»;refine CS (m:=checkCount "sorted" 1 1 _) xdO;show xc1 (collect_list hp ?_) xDP;have hsz:((s.heap.push (seqObj "list" #[] 0)).update s.heap.objs.size (Obj.mapSeq (·++its.toArray))).objs.size=xdq:=by
  rw [Heap.size_update,size_push']
 have hoL:xjq (((s.heap.push (seqObj "list" #[] 0)).update s.heap.objs.size (Obj.mapSeq (·++its.toArray))).push (seqObj "list" its.toArray 0)) xdq (xAv 0):=by
  show xa5 hsz xfk
 have I2:xC0 (xKN (xAv 0)):=xFU (λ b o e=>
  xdR (by show IO (Fd _ _ _ _ xyh) xep))
 show xel _ (xi7 (xKN (xAv 0)));rw [hsz];have fl:xoa xdq:=xDO xjG xjG;show xaG (EK (wpAny_call_entry_kw slot_list_sort (xmo hoL) entry_list_sort (uE I2 hoL fl hl Kx T5 λ s' out kv a1 a2 a3 a4 a5=>xaT rfl) (fG _ _)));exact Dl (xbd (h s' _ out kv a1 fl a2 a3 a4 a5))
def x8 (K:Frag)(sp:Sp)(t:TA):TE:=λ σ H Q=>xd5 λ zs H1=>∃(p:JB) (xs:KB) (ks:xjr),zs=xaO/\xwl p xs/\xB8 ks.length/\xbH xs.length/\
 (∀(i:Nat) v k,xde=xab->xad ks k->sp [v] H1 (λ r H2=>r=.int k/\H2=H1) E0)/\
 ∀l m,xfO l->(m.map (·.1)).Pairwise (·≤·)->xAL SG.ky m (ks.zip xs)->Q xah (upd H1 l (.lst (m.map (·.2))))
def kB {fe:JJ}{p:Pos}{kp:Pos}{pos:Pos}{y:Str}{t:TA}(F:xAQ JU k f fd xdD sp)(hr:xuh (k+2))(hb:xww X.K xdD [])(hg:xuG "sorted")(hm:xmp "sorted")(hf:xr3 fe xb0)(ha:xin [e] t)
  (he:Ξ (xry (e:: [])=xhS::xCR)) (M0:xKQ)
  (J7:Ξ ((backToKw pos (keywordEach [⟨some "key",fe,kp⟩] X.env)).all (·.1.isSome)=true))
  (hkw:Ξ ((backToKw pos (keywordEach [⟨some "key",fe,kp⟩] X.env)).any (·.1.isNone)=false))
  (hfm:Ξ ((backToKw pos (keywordEach [⟨some "key",fe,kp⟩] X.env)).filterMap (·.1)=[("key":Str)])):
  xnr "sorted" p [e] [⟨some "key",fe,kp⟩] (x8 X.K sp t):=by
 intro JM s σ H Q I h;show SC (E7 (xyJ I (xae (bootBuiltins "sorted") (xmc "sorted") Z8) ?_)) (xLw e (rest:=[]) (xc5 xl1 us) he M0 J7 hkw);show xmK vs;refine kws_cons (thn (hf JM s1 σ H1 (λ v H2=>v=xb0/\H2=H1) I1 xmi) λ fv s2 ⟨v,H2,I2,r2,e1,e2⟩=>kws_nil ?_);subst e1 e2;obtain rfl:fv=Value.ref f:=r2;rw [hfm];obtain⟨p,xs,ks,rfl,hq,hlen,Kx,Ow,q⟩:=q1;show xot u ru (gs r1);obtain rfl:u=Value.ref p:=ru;obtain⟨its,rv,pl,hz⟩:=I2.list hq;show xo0 K1;show xel (xqN "sorted" xaO [(xmf,xb0)]) s2;refine oO (ks:=ks) I2 pl.isList Z5 (xig K1.symm Kx) (λ Ks s' E' i x k' hx hk I'=>?_) λ s' l out kv I' fl ⟨en,ho⟩ Sj hp hs=>?_
 ·obtain⟨v,hv,rvv⟩:∃v,xde=xab/\RelV v x:=by
   have hix:xfb i:=by have:=xco hx;exact De this K1.symm
   obtain⟨u,e3,r3⟩:=xBG i (x:=xs[i]) (CU hix);show xhH hx e3 e3 (xav (CU hix) r3)
  show xBW (xAH (xJ6 X.A.in1.in1 s' H2 (xid xbl) xbl [v] _ E0 hr.in1.in1 I'.env0.in1.in1 (hb s' xbl I'.kIn rfl) (xjn rvv) (Ow i v k' hv hk)) r L3 hq);cases r with
  |error e=>show xeK hq
  |ok fl=>
   cases fl with
   |ret u=>
    obtain⟨v',H',I'',rr,e1,e2⟩:=I'.after hq;subst e1 e2;show xaI rr I''
   |next=>show xeK hq
   |brk=>show xeK hq
   |cont=>show xeK hq
 ·obtain⟨m,MD,hpr⟩:=w4 hs (AD Sj rv);have hvals:=yn hpr;have hml:=AC hpr;have YB:xua out.toList.length:=by rw [xIB xDY hs,List.length_zip,Sj.length];lia
  refine xc4 xah _ (I'.adopt fl (its:=out.toList.map (·.2)) hvals (by rw [CM];show xam Ga) (n:=en) (by rw [ho,<-Array.toList_map])) (q l m fl.1 ?_ MD);rw [D7];intro i j hi hj Xn;rw [CM] at hi hj;have key:∀(i:Nat) (h:i<m.length) (h2:i<out.toList.length),xe5 (out.toList[i]' h2)=m[i].1:=by
   intro i hi hi2;obtain⟨t,v,e⟩:=BX hpr (CU hi);have e':out.toList[i]=(xb1 m[i].1,v):=DK ((CU hi2).symm.trans e);rw [e'];rfl
  have l1:=xmM hp i j Z5 Z5 Xn;rw [List.getElem_map,List.getElem_map];have l2:ρ (SG.kInt.blt (xe5 (out.toList[j]' Z4)) (xe5 (out.toList[i]' Z4))):=l1;rw [key i hi,key j hj] at l2;have l3:¬m[j].1<m[i].1:=LT (by
   have:NE (SG.kInt.blt m[j].1 m[i].1):=xsf;show Tl this l2 l2)
  exact Int.not_lt.mp l3
universe L2
namespace PM
abbrev Bd:=Nat×Fr
noncomputable def pairs:xaw->xaw
 |a::b::r=>(xnS+xf5,a.2++xd4)::xGd
 |_=>[]
def occ (R:xaw)(p:Nat):Nat:=(R.map λ b=>xrF xd4).sum
def Ko (B:xaw):Prop:=B.Pairwise λ a b=>xnS≤xf5
def gg {a b:Fr}(h:a.Perm b):a.sum=b.sum:=by
 induction h with
 |nil=>rfl
 |cons x _ ih=>simp [ih]
 |swap x y l=>simp;exact Nat.add_left_comm _ _ _
 |trans _ _ h1 h2=>exact h1.trans h2
def o9 {R S:xaw}(h:R.Perm S)(p:Nat):xlP=xdL S:=gg (h.map _)
def jO (R S:xaw)(p:Nat):xdL (R++S)=xlP+xdL S:=by simp [occ]
def dR (b:Bd)(S:xaw)(p:Nat):xdL (b::S)=xrF xd4+xdL S:=by simp [occ]
def Cw {R U X Y:xaw}(h:xpj R U (X++Y)):∃RX RY UX UY,R.Perm (RX++RY)/\U.Perm (UX++UY)/\X.Perm (RX++UX)/\Y.Perm (RY++UY):=by
 induction R generalizing X Y with
 |nil=>exact⟨[],[],X,Y,.nil,h,xHu,xHu⟩
 |cons r R ih=>
  have hr:r∈X++Y:=h.subset Do;show xbR hr hX hY
  ·have e:=Hl hX;have h2:xpj R U (X.erase r++Y):=xMx (e.append_right Y);obtain⟨RX,RY,UX,UY,h3,h4,h5,h6⟩:=ih h2;exact⟨r::RX,RY,UX,UY,h3.cons r,h4,e.trans (h5.cons r),h6⟩
  ·have e:=Hl hY;have h2:xpj R U (X++Y.erase r):=xMx ((e.append_left X).trans GQ);obtain⟨RX,RY,UX,UY,h3,h4,h5,h6⟩:=ih h2;exact⟨RX,r::RY,UX,UY,(h3.cons r).trans GQ.symm,h4,h5,e.trans (h6.cons r)⟩
def ue:∀(n:Nat) {B RP UP:xaw},xmx n->Ko B->xpj RP UP xeM->(∀r∈RP,∀u∈UP,r.1≤u.1)->
  ∃R U,xpj R U B/\(∀r∈R,∀u∈U,r.1≤u.1)/\xzc (xG9 2)/\(∀p,xlP=xdL RP)/\∀r∈R,∃q∈RP,∃x∈B,xaZ=r.1+xgb:=by
 intro n
 induction n with
 |zero=>
  intro B RP UP hB _ h _;have e:B=[]:=Ey.mp xK6;subst e;have:RP=[]/\UP=[]:=by
   have:=xHv;show xmv
  show xn1 this ⟨[],[],.nil,xps (by show xbm),rfl,xfH,xps (by show xbm)⟩
 |succ n ih=>
  intro B RP UP hB hs h hle
  match B,hB,hs,h with
  | [],_,_,h=>
   have:RP=[]/\UP=[]:=by
    have:=xHv;show xmv
   show xn1 this ⟨[],[],.nil,xps (by show xbm),rfl,xfH,xps (by show xbm)⟩
  | [x],_,_,h=>
   have:RP=[]/\UP=[]:=by
    have:=xHv;show xmv
   show xn1 this ⟨[],xbl,xHu,xps (by show xbm),rfl,xfH,xps (by show xbm)⟩
  |a::b::r,hB,hs,h=>
   have QS:Ko r:=xCc (xCc hs);have ha:=xBA hs;have hb:=xBA (xCc hs);have hab:xnS≤xf5:=ha b Do;have hm:(xnS+xf5,a.2++xd4)∈RP++UP:=h.symm.subset Do;show xbR hm hR hU
   ·have e:=Hl hR;have h2:xpj (RP.erase (xnS+xf5,a.2++xd4)) UP xGd:=((e.append_right UP).symm.trans h).cons_inv;obtain⟨R,U,h3,h4,h5,h6,h7⟩:=ih (by simp at hB;exact Ff hB) QS h2 λ x hx u hu=>hle x (Iv hx) u hu
    show xoh hl e.length_eq Df hl ⟨a::b::R,U,(h3.cons b).cons a,?_,?_,xcl p,?_⟩
    ·intro x hx u hu;have hur:u∈r:=h3.subset (xk8 hu);show xei hx hx
     ·exact ha u (xkZ hur)
     ·show xei hx hx
      ·exact hb u hur
      ·exact h4 x hx u hu
    ·rw [Df,Df,h5];lia
    ·rw [o9 e p,dR,dR,dR,h6 p];show _=xrF (a.2++xd4)+_;show xam Gf
    ·intro x hx;show xei hx hx
     ·exact xdZ hR b Z6 rfl
     ·show xei hx hx
      ·exact xdZ hR a Z6 (Hc _ _)
      ·obtain⟨q,hq,y,hy,e⟩:=h7 x hx;exact⟨q,Iv hq,y,xkZ xuY,e⟩
   ·have e:=Hl hU;have h2:xpj RP (UP.erase (xnS+xf5,a.2++xd4)) xGd:=(GQ.symm.trans ((e.append_left RP).symm.trans h)).cons_inv;obtain⟨R,U,h3,h4,h5,h6,h7⟩:=ih (by simp at hB;lia) QS h2 λ x hx u hu=>hle x hx u (Iv hu)
    have key:xcq R (xgb≤xnS/\xgb≤xf5):=by
     intro x hx;obtain⟨q,hq,y,hy,e⟩:=h7 x hx;have h8:xaZ≤xnS+xf5:=hle q hq _ hU;have h9:=hb y hy;lia
    refine⟨R,a::b::U,?_,?_,h5,h6,LE x hx⟩
    ·exact GQ.trans ((GQ.trans (h3.cons b)).cons a)
    ·intro x hx u hu;show xei hu hu
     ·exact(key x hx).1
     ·show xei hu hu
      ·exact(key x hx).2
      ·exact h4 x hx u hu
    ·obtain⟨q,hq,y,hy,e⟩:=h7 x hx;exact⟨q,hq,y,xkZ xuY,e⟩
inductive TH (sg:xaw):xvd xaw
 |zero:TH sg 0 []
 |step {k:Nat} {B B':xaw}:TH sg k B->B'.Perm (sg++xeM)->Ko B'->TH sg (k+1) B'
noncomputable def sgl (wt:xcs) (p:Nat):Bd:=(wt p,[p])
def nN {wt:xcs}{L:Fr}{RX UX:xaw}(h:(xdP).Perm (RX++UX)):∃RL UL,L.Perm (RL++UL)/\RX=RL.map xjv/\UX=UL.map xjv:=by
 have g:xax (RX++UX) (xjv ((xd4).headD 0)=b):=by
  intro b hb;show xGH p rfl (h.symm.subset hb);rfl
 refine⟨RX.map (·.2.headD 0),UX.map (·.2.headD 0),?_,?_,?_⟩
 ·show xeo (h.map (·.2.headD 0)) EJ C8;have e:((λ b:Bd=>(xd4).headD 0)∘xjv)=id:=by funext p;rfl
  rw [e,List.map_id] at this;show xi3
 ·rw [EJ]
  conv=>lhs;rw [<-List.map_id RX]
  exact HD (xa3 (g b (xnQ hb)).symm)
 ·rw [EJ]
  conv=>lhs;rw [<-List.map_id UX]
  exact HD (xa3 (g b (xk8 hb)).symm)
theorem rF {wt:xcs}:∀{M:Fr} {p:Nat},xdL (M.map xjv)=M.count p
 | [],p=>rfl
 |q::M,p=>by
  rw [Ep,dR,rF];show xrF [q]+_=_;rw [HH,HH];simp;exact Hc _ _
theorem kT {p:Nat}:∀{M:Fr},M.Nodup->p∈M->M.count p=1
 | [],_,h=>by show xbm
 |a::M,hn,h=>by
  have hn':=HR.mp hn;rw [HH];by_cases e:a=p
  ·subst e;show xbD (FR hn'.1)
  ·have hm:p∈M:=by
    show xl8 h h h
    ·show xaW h.symm e
    ·exact h
   rw [kT hn'.2 hm];simp [e]
def kr (R:xaw)(k:Nat)(S:Fr):Nat:=xEP (λ p=>2^(k-xlP))
def ud {S:Fr}{f:xcs}{c:Nat}(h:xcU S (f p=c)):xEP f=xrT c:=by
 induction S with
 |nil=>rfl
 |cons a S ih=>
  rw [Ep,Hi,xkG a,ih λ p hp=>xhv p hp,Df,Nat.mul_succ];exact Hc _ _
def t5 {S:Fr}{f g:xcs}(h:xcU S (f p=g p)):xEP f=xEP g:=by rw [HD h]
def wv {wt:xcs}{L:Fr}(hL:L.Nodup)(hw:xcU L (0<wt p)){k:Nat}{B:xaw}(lv:TH xdP k B):Ko B/\(xax B (0<xf5))/\
  ∀R U,xpj R U B->(∀r∈R,∀u∈U,r.1≤u.1)->∃S T,L.Perm (S++T)/\(xcU S (Δ xlP/\xlP≤k/\xjv p∈R))/\(∀p,p∉S->xlP=0)/\2*kr R k S+2^k*R.length=xrT (2^(k+1)):=by
 induction lv with
 |zero=>
  refine⟨.nil,xps (by show xbm),λ R U h _=>?_⟩;have:R=[]/\U=[]:=by
   have:=xHv;show xmv
  show xn1 this ⟨[],L,xHu,xps (by show xbm),xl6,rfl⟩
 | @step k B B' _ hp hs ih=>
  obtain⟨hsB,MV,ih⟩:=ih;have pos_pairs:∀(n:Nat) (B:xaw),xmx n->(xax B (0<xf5))->xax xeM (0<xf5):=by
   intro n
   induction n with
   |zero=>intro B hB _ b hb;show xfs (B=[]) (Ey.mp Z5);show xyy hb
   |succ n ih2=>
    intro B hB h b hb
    match B,hB,h,hb with
    | [],_,_,hb=>show xyy hb
    | [x],_,_,hb=>show xyy hb
    |x::y::r,hB,h,hb=>
     show xiS
     ·have:=xkG x;show 0<xgb+xgP;exact Nat.add_pos_left this _
     ·exact ih2 r (by simp at hB;lia) (xa3 (xhv b xCC)) b hb
  refine⟨hs,xfn,λ R U h hle=>?_⟩
  ·show xbR xIC hb hb
   ·show xeJ p ZA (E6.mp hb);exact hw p ZA
   ·exact pos_pairs _ B P3 MV b hb
  ·obtain⟨RX,RP,UX,UP,h1,h2,h3,h4⟩:=Cw (h.trans hp);obtain⟨RL,UL,h5,rfl,rfl⟩:=nN h3;have mR:∀b,b∈RL.map xjv\/b∈RP->b∈R:=xa3 (h1.symm.subset (Dj.mpr hb))
   have mU:∀b,b∈UL.map xjv\/b∈UP->b∈U:=xa3 (h2.symm.subset (Dj.mpr hb))
   obtain⟨R',U',h6,h7,h8,h9,YX⟩:=ue _ P3 hsB h4.symm λ r hr u hu=>hle r (mR r (.inr hr)) u (mU u (.inr hu))
   obtain⟨S,T,MO,h12,h13,h14⟩:=ih R' U' h6 h7;have VT:∀p,xlP=RL.count p+xdL R':=λ p=>by rw [o9 h1 p,jO,rF,h9 p]
   have hndR:RL.Nodup:=xLA (h5.nodup_iff.mp hL);have hndS:S.Nodup:=xLA (MO.nodup_iff.mp hL);have hsub:xcU S (p∈RL):=by
    intro p Zz;have ZA:p∈RL++UL:=h5.subset (MO.symm.subset (xnQ Zz));show xbR ZA hh hh
    ·exact hh
    ·obtain⟨q,hq,x,hx,e⟩:=YX _ (xaY (h12 p Zz));have:=hle q (mR q (.inr hq)) _ (mU _ (.inl (IP hh)));have hx0:=MV x hx;have e':xaZ=wt p+xgb:=e;have:xaZ≤wt p:=this;lia
   have X8:xcU RL (RL.count p=1):=λ p hp=>kT hndR hp
   refine⟨RL,UL,h5,λ p Yz=>⟨?_,?_,mR _ (.inl (IP Yz))⟩,LE p Yz,?_⟩
   ·rw [VT,X8 p Yz];exact DD 1 _
   ·rw [VT,X8 p Yz];by_cases Zz:p∈S
    ·show xaR (Μ (h12 p Zz))
    ·show xam (h13 p Zz)
   ·rw [VT,FR Yz,h13 p (LT (Yz (hsub p z)))]
   ·
    have hspl:RL.Perm (S++xF2 p (! xHg p S)):=by
     have e1:RL.Perm (RL.filter (xd9 p (p∈S))++xF2 p (! xHg p S)):=(List.filter_append_perm _ _).symm;refine e1.trans (List.Perm.append_right _ ?_);rw [List.perm_ext_iff_of_nodup (hndR.filter _) hndS];intro p;simp only [Fk,decide_eq_true_eq];show xaI (λ h=>xez) (λ h=>⟨hsub p h,h⟩)
    have ZD:kr R (k+1) RL=kr R' k S+2^k*(xF2 p (! xHg p S)).length:=by
     unfold kr;have e2:(RL.map λ p=>2^(k+1-xlP)).sum=(RL.map λ p=>2^(k-xdL R')).sum:=by
      refine t5 xtd
      rw [VT,X8 p hp,show k+1-(1+xdL R')=k-xdL R' by lia]
     rw [e2,gg (hspl.map _),C8,FZ];congr 1;refine ud xtd
     simp only [Fk,Bool.not_eq_true',decide_eq_false_iff_not] at hp;rw [h13 p hp.2,Gr]
    have hlR:=h1.length_eq;have hlS:=hspl.length_eq;rw [CN,CM] at hlR;rw [CN] at hlS;rw [ZD,hlR,EI 2 (k+1),EI 2 k];rw [h8,EI 2 k] at h14;show xqI (xF2 p (! xHg p S)).length xl (2^k) q;rw [hlS];have e0:∀z,q*2*z=2*(q*z):=LT (by rw [Em q 2,Ew])
    have e00:∀z,q*2*2*z=4*(q*z):=LT (by rw [Ew (q*2) 2 z,e0 (2*z),Jf q 2 z];lia)
    have e3:q*(xG9 2)=2*(xG9 q):=by rw [Jf]
    have e4:xrT (q*2)=2*(xrT q):=e0 _;have e5:q*2*(xqU xl+RP.length)=2*(xrT q)+2*(q*xl)+2*(xG9 q):=by
     rw [e0,Gw q,Gw q];lia
    have e6:q*2*2*(xqU xl)=4*(xrT q)+4*(q*xl):=by
     rw [e00,Gw q];exact Gw 4 _ _
    rw [e5,e6];rw [e3,e4] at h14;lia
theorem dH:∀(n:Nat) {B:xaw},xmx n->xat xeM (B.length/2)
 |0,[],_=>rfl
 |_+1,[],_=>rfl
 |_+1,[_],_=>by simp [pairs]
 |n+1,a::b::r,hB=>by
  have h1:=dH n (B:=r) (by simp at hB;lia);rw [pairs,Df,h1,Df,Df];lia
theorem oz {L:Fr}:∀(n:Nat) {B:xaw},xmx n->(xax B (xcU xd4 (p∈L)))->xax xeM (xcU xd4 (p∈L))
 |0,[],_,_,_,hb=>by cases hb
 |_+1,[],_,_,_,hb=>by cases hb
 |_+1,[_],_,_,_,hb=>by cases hb
 |n+1,x::y::r,hB,h,b,hb=>by
  show xiS
  ·exact λ p hp=>xml hp (xkG x p) (xhv y Do p)
  ·exact oz n (by simp at hB;lia) (xa3 (xhv b xCC)) b hb
def zD {L:Fr}{wt:xcs}{k:Nat}{B:xaw}(lv:TH xdP k B):xax B (xcU xd4 (p∈L)):=by
 induction lv with
 |zero=>intro b hb;cases hb
 | @step k B B' _ hp hs ih=>
  intro b hb;show xbR xIC hb hb
  ·show xeJ p ZA (E6.mp hb);exact λ q hq=>by show xib hq ZA
  ·exact oz _ P3 ih b hb
def yN {L:Fr}{wt:xcs}{k:Nat}{B:xaw}(lv:TH xdP k B):xb9*2^k+1≤xyp (2^k)+xb9+2^k:=by
 induction lv with
 |zero=>simp
 | @step k B B' _ hp hs ih=>
  have hl:=hp.length_eq;rw [CN,CM,dH _ (B:=B) P3] at hl;rw [hl,EI];have h2:xmx (2*(B.length/2)+1):=Z5;show xqI (B.length/2) h B.length b;show xqI L.length n (2^k) q;have h3:q*b≤q*(2*h+1):=EV _ h2;have e1:q*(2*h+1)=2*(q*h)+q:=by rw [Gw,Jf];lia
  have e2:2*n*q=2*(q*n):=by rw [Ew,Em n]
  have e3:2*n*(q*2)=4*(q*n):=by rw [<-Ew,e2];lia
  have e4:q*2*(n+h)=2*(q*n)+2*(q*h):=by rw [Em q 2,Ew,Gw q];exact Gw 2 _ _
  rw [e3,e4];rw [e2] at ih;lia
def best {L:Fr}{wt:xcs}(hL:L.Nodup)(hw:xcU L (0<wt p)){m:Nat}{B:xaw}(lv:TH xdP m B)(hn:xhg 2)(hm:xh9 (2^m)):
  (xcU L (Δ (xdL xpV)/\xdL xpV≤m))/\(∀p,p∉L->xdL xpV=0)/\
  (L.map λ p=>2^(m-xdL xpV)).sum≤2^m:=by
 obtain⟨hs,MV,hpart⟩:=wv hL hw lv;have hlen:xfI (xb9-2):=by
  have h1:=yN lv;have h0:0<2^m:=xjI;show xaX B.length (xb9-2) h h
  ·exfalso;have h2:2^m*(xrE 3)≤2^m*(xb9):=EV _ Z5;rw [Gw] at h2;rw [Em xb9] at h1;lia
  ·exact h
 have QZ:xat xpV (xb9-2):=by show IO Dd (DL hlen)
 have Yf:xpj xpV (B.drop (xb9-2)) B:=by rw [Dw]
 have hle:∀r∈xpV,∀u∈B.drop (xb9-2),r.1≤u.1:=by
  have:Ko (xpV++B.drop (xb9-2)):=by show IO Dw hs
  exact xaY (Dh.mp this)
 obtain⟨S,T,h1,h2,h3,h4⟩:=hpart _ _ Yf hle;rw [QZ] at h4;generalize xpV=R at*;show xaM hlL h1.length_eq CN hlL;have hT:T=[]:=by
  rcases FL T.length with h|h
  ·exact Ey.mp h
  ·exfalso;have h0:0<2^m:=xjI;have h5:xrT (2^(m+1))≤2^m*(xb9-2):=by
    have:xrT 2≤xb9-2:=Z5;rw [EI,Ew];exact EV _ this
   have ME:kr R m S=0:=Z5;have hS0:S=[]:=by
    match S,ME with
    | [],_=>rfl
    |p::S',ME=>
     exfalso;unfold kr at ME;rw [Ep,Hi] at ME;have:0<2^(m-xlP):=xjI;lia
   subst hS0;rw [ME] at h4;have h6:2^m*(xb9-2)=0:=by simpa using h4
   rcases Nat.mul_eq_zero.mp h6 with h|h<;>lia
 subst hT;rw [DM] at h1;rw [IN,FG] at hlL;have hkL:kr R m S=(L.map λ p=>2^(m-xlP)).sum:=(gg (h1.map _)).symm;refine xac xtd (λ p hp=>h3 p (LT (hp (h1.symm.subset z))))
 ·show xoW a b (h2 p (h1.subset hp)) ⟨a,b⟩
 ·rw [<-hkL];rw [<-hlL,EI] at h4;have e:2^m*(xb9-2)+2*2^m=2^m*2*L.length:=by
   rw [Em 2 (2^m),<-Gw,Ew];congr 1;lia
  lia
def xZ {wt:xcs}{p:Nat}{k:Nat}{B:xaw}(lv:TH ([p].map xjv) k B):k=0\/B=[xjv p]:=by
 induction lv with
 |zero=>exact xbZ
 | @step k B B' _ hp hs ih=>
  right
  have:xeM=[]:=by
   show xiu ih
   ·rename_i h;cases h;rfl
   ·rfl
  show UV this hp (List.perm_singleton.mp hp)
def QI (P:Fr)(wt:xcs)(m:Nat)(ln:xcs):Prop:=
 (xcU P (Δ (ln p)/\ln p≤m))/\(∀p,p∉P->ln p=0)/\xJx (λ p=>2^(m-ln p))≤2^m
def QI.perm {P L:Fr}{wt:xcs}{m:Nat}{ln:xcs}(h:QI L wt m ln)(hp:L.Perm P):QI P wt m ln:=by
 show xa9 h1 h2 h3 h ⟨λ p hpP=>h1 p (hp.symm.subset hpP),λ p hpP=>h2 p (LT (hpP (hp.subset z))),by show xa5 (gg (hp.map _)) h3⟩
def vG {L:Fr}{wt:xcs}(hL:L.Nodup)(hw:xcU L (0<wt p)){m:Nat}{B:xaw}(lv:TH xdP m B)(h1:xhg 1)(Vo:Δ m)(hm:xh9 (2^m)):
  QI L wt m (occ (xui 1 (xb9-2))):=by
 by_cases hn:xhg 2
 ·have e:max 1 (xb9-2)=xb9-2:=Z5;show xeY (best hL hw lv hn hm)
 ·match L,h1,hn,hL,hw,lv with
  | [p],_,_,_,hw,lv=>
   rcases xZ lv with h|rfl
   ·lia
   ·have e:∀q,occ ([xjv p].take (max 1 (2* [p].length-2))) q=xyi [p]:=xcb (by
     show occ [xjv p] q=_;rw [dR];show xyi [p]+occ [] q=_;rfl)
    have ep: xrF [p]=1:=Z6;refine xac (LE q hq) (LE q hq)
    ·rw [DF.mp hq,e,ep];exact xpP Vo
    ·show xeY (FR hq)
    ·rw [Ep,IY,Hi,List.sum_nil,e,ep];have:2^(m-1)≤2^m:=xv1 (F4 _ 1)
     assumption
  |a::b::r,_,hn,_,_,_=>show xaW Z6 hn
universe PM
namespace SM
theorem M5 {kf:β->κ}(O:xHr)(φ:α->β):∀{mm:List β} {Z:xbF},xfR mm (Z.map φ)->∃Z',mm=Z'.map φ/\xDu (LT (xyr z)) Z' Z
 | [],Z,h=>by
  show xaM e (xEN O h) CM e;show xbO Z [] (Ey.mp e.symm) (xnc [] xgt)
 |x::mm,Z,h=>by
  have hx:=xuP h (xyV x (l:=mm));obtain⟨z0,hz0,ez0⟩:=E6.mp hx;obtain⟨l1,y,l2,rfl,hy,h1⟩:=KO (p:=LT (xoY xcP (φ z))) (ys:=Z) ⟨z0,hz0,by show IO ez0 (Kt O x)⟩;have e:=h xcP;have n1:(l1.map φ).filter (xoY xcP)=[]:=ET.mpr λ u hu=>by
   show xeJ z hz (E6.mp hu);exact h1 z hz
  rw [C8,Ep,Dx (Kt O x),DG,n1,D3,Dx hy] at e;show xws ex (HL e);subst ex;have ht:xfR mm ((l1++l2).map φ):=λ k=>by
   rw [C8,DG];by_cases hk:xr0 k (φ y)
   ·have z:=KL.mp hk;show xfs (xyr y=k) (xHt _ xd3 xgV);rw [n1,D3];exact e2
   ·have e3:=xi1;rw [C8,Ep,xni,DG,xni] at e3;exact e3
  show xa8 Z' rfl hs (M5 O φ ht) (xnc (y::Z') (xcl k));show xaM QS (hs k) DG QS;rw [DG];by_cases hk:NE (xtK (LT (xyr z)) k y)
  ·have z:=KL.mp hk;have ek:xyr y=k:=xHt _ xd3 xgV;subst ek;have n2:l1.filter (xtK (LT (xyr z)) (xyr y))=[]:=ET.mpr λ u hu=>h1 u hu
   rw [n2,D3] at QS ⊢;rw [Dx hk,Dx hk,QS]
  ·rw [xni,xni,QS]
def Pg (ψ:α->γ){kf':α->κ}(hk:∀z,kf' z=kg (ψ z))(h:xDu kf' Z' Z):xDu kg (Z'.map ψ) (Z.map ψ):=λ k=>by
 rw [IJ,IJ];have e:(xtK kg k∘ψ)=xtK kf' k:=by
  funext z;show xtK kg k (ψ z)=xtK kf' k z;show xbk eqv hk
 rw [e,xi1]
universe SM
namespace D6
open PM SM
abbrev wI (b:Bd):Int:=xyv
inductive ML (sg:xaw):xvd xaw
 |zero:xzJ 0 []
 |step {k:Nat} {B B':xaw}:xzJ k B->J3 SG.ltI wI B' (sg++xeM)->Ko B'->xzJ (k+1) B'
def ML.lev (h:xzJ k B):TH sg k B:=by
 induction h with
 |zero=>exact .zero
 |step _ hs Zu ih=>exact .step ih (Ka SG.O1 hs) Zu
def sj {B:xaw}(h:Ko B):B.Pairwise (Le SG.ltI wI):=h.imp λ {a b} hab=>by
 show ρ (xfM xyv (KF xnS));exact EQ Z5
def ML.uniq (h:xzJ k B)(h':xzJ k B'):B=B':=by
 induction h generalizing B' with
 |zero=>cases h';rfl
 |step _ hs Zu ih=>
  cases h' with
  |step h2 NI hso2=>
   have:=ih h2;subst this;exact M4 SG.O1 (sj Zu) (sj hso2) (hs.trans NI.symm)
universe D6
namespace QQ
open PySem PyProof.Rows
def qw {i:Nat}(hq:xn6)
  (he:IsEnum s.heap e it i old) (hit:xH1 l i) (hl:xIm l) (hx:Ζ xFh)
  (hQ:∀h',xtI it h'->xyM xfe):xd7 (pyNext xk7):=by
 have hT:s.TypeIs xk7 "enumerate":=xmo he;show xjB pyNext (Hj (EM hT IS
  (FO IS hT PySem.F.entry_enumerate_next ?_ (PySem.F.args_enumerate_next_1 _))))
 show xzx xk7 2 _;show xc1 (xvR he) (eg hq hit hl hx λ h' x he' Zr=>?_);show xa8 o ho hc Zr (CS (HB (xdx ho hc) Il ?_));exact xzb _ he'
universe QQ
namespace L2
open PySem PySem.Spec PyProof.Rows QQ
def Wz (K:Frag)(a:JB):It:=
 ⟨λ i H=>∃xs x,xeB/\xde=Χ,λ i H v H'=>∃p x,xgU/\v=Φ/\H'=xbE H p [.int xcD,x]/\∀xs,xeB->xde=Χ,λ i H=>∃xs,xeB/\xs.length≤i⟩
def uu {K:Frag}(a e it)(L5:e≠it):
  xC2 w K (xxC k pos) (Wz K a) [e,it] e (λ i h=>(∃old,IsEnum h e it xcD old)/\xE5 it a) where
 mem:=Z6
 obj:=λ i h st b hb=>by
  show xAZ he hit st;show xl8 hb hb hb
  ·subst hb;exact xav he (λ v z=>by
    have z':xIU=xJw:=z;cases z')
  ·obtain rfl:=xB2;obtain⟨o,e',c,d⟩:=hit;exact xdx e' (λ v z=>by show Tl d z z)
 keep:=λ i h h' st k=>by
  show xAZ he hit st;show xaI ⟨old,k e Z6 _ he⟩ (hit.at λ o x=>k it Z6 o x)
 item:=by
  intro X hP hw hK hc i JM s σ H E I hf st hg;subst hP hw hK;show xAZ he hit st;obtain⟨xs,x,hq,hx⟩:=hg;show xg1 rv p hq;obtain⟨u,hu,ru⟩:=rv.get hx;obtain⟨e0,e1,e2,e3,e4,e5⟩:=hf e Z6;obtain⟨f0,f1,f2,f3,f4,f5⟩:=xsK;have elt:xg7 e:=Dt he;have ilt:xg7 it:=by show xoW o e' (id hit) (Dt e')
  have hT:xH4:=xjd;show SC (wpAny_pyNext_enum_item he hit p.isList (by show xu9) L5 λ h1 ho X2 ht hsz kk=>?_) (xbd (wpAny_letOwnedTupleGo_enum ho (Sc h2 Tg NI)));have kept:∀b o,b≠e->b≠it->xeA->h2.get? b=Id:=λ b o n1 n2 x=>xg6 NI b n1 (kk b o n1 n2 x)
  have Sv:Re (h2.get? s.heap.objs.size) (xqv "tuple" (.seq #[xcA s.toks,u])):=xg6 NI _ (Gq elt) ht;have Sl:∀b o,xeA->xtL b:=λ b o x=>DZ (Dt x)
  have nT:∀b o,xal=Id->xtL b:=λ b o x z=>by show xbY hT x x
  have nE:∀b o,xal=Id->b≠e/\b≠it:=λ b o x=>⟨LT (by show xbY e0 x x),LT (by show xbY f0 x x)⟩
  have he3:IsEnum h2 e it (xgM) u:=by
   have:(xgM)=xcD+1:=Nat.ToInt.add_congr rfl rfl;show IO this Tg
  have QD:h2.IsListIter it a (i+1):=X2.at λ o x=>xg6 NI it L5.symm x
  have I2:xtx (xbE H s.heap.objs.size [.int xcD,x]) s h2 xyG:=by
   refine xKI [e,it] xfn (λ b o _ _ hb x _=>xsn b (xvc (by simp [z])) (xvc (by simp [z])) x) (λ b o _ _ hb x _=>xxA (xsn b (xvc (by simp [z])) (xvc (by simp [z])) x)) (λ b o _ x n=>by show Ty (Sl b o x) n) (λ b o hb x=>⟨o,xsn b (xvc (by simp [z])) (xvc (by simp [z])) x⟩) (λ b xs x=>by show Ty (nT b _ x) x) (λ b o u x=>by show Ty (nT b _ x) x) (λ b ps x=>xr5 (by rw [ag (nT b _ x),x];simp)) (LE m hm) (Sc b o x) I.bare
   ·show xl8 hb hb hb
    ·subst hb;show xaC e3 e1 e4 e5
    ·obtain rfl:=xB2;show xaC f3 f1 f4 f5
   ·show xpI Vx ep Qq r hm;exact⟨o,Vx,ep,xsn _ (G6 e1) (G6 f1) Qq,r⟩
   ·by_cases hb:xIP b
    ·show xba hb ac x x;show xaC (by show xeE) [xcA s.toks,u] (.cons xbg (xjn ru)) (xay _ Sv _ rfl)
    ·rw [xjW] at x;refine xuc b o x (λ c v Ls q=>?_) (λ c q=>by show Ty (nT c _ q) q) (λ c xs q=>by show Ty (nT c _ q) q)
     rcases Ls with z|z
     ·subst z;exact kept c v (nE c _ x).1 (nE c _ x).2 q
     ·exact kept c v (nE c _ z).1 (nE c _ z).2 q
  refine⟨xmb,_,I2,rfl,xhY _ x hT rfl (λ ys hy=>by show xF3 hy hq hx),⟨⟨u,he3⟩,QD⟩,xfn⟩;show xl8 hb hb hb
  ·subst hb;show Ty (DZ elt) e0
  ·obtain rfl:=xB2;show Ty (DZ ilt) f0
 done:=by
  intro X hP hw hK hc i JM s σ H E I hf st hg;subst hP hw hK;show xAZ he hit st;obtain⟨xs,hq,hx⟩:=hg;show xg1 rv p hq;obtain⟨f0,f1,f2,f3,f4,f5⟩:=xsK;show xo0 hl;exact qw I.hq he hit p.isList (by simp;exact xKh hx) λ h' eb=>xb2 (xuo (λ b o hb e=>eb b o hb e) f1 f3 f4 f5)
 self:=xBH h (by
  show xAZ he hit st;exact xLR h)
inductive RZ (K:Frag) (R:xpE) (vs:KB) (H1:Hp):Prop
 |mk (l:_) (xs:_) (h0:vs=[xah]) (h1:xwl l xs) (h2:R (Wz K l) H1):RZ K R vs H1
def By (K:Frag)(ta:TA):TI:=λ σ H R=>xgf λ vs H1=>RZ K R vs H1
def lL {X:Cx}(hg:xuG "enumerate")(hm:xmp "enumerate")(ha:xin xeH ta)(hs:Ξ (xgl xeH=[xie a])):
  xvv (xxC k q) (xxw "enumerate" p xeH []) (By X.K ta):=by
 intro JM s σ H R I h;show xf4 (xCv I boot_enumerate (EW (xc5 xl1 us) hs rfl)) vs;obtain⟨l,xs,e,hq,q⟩:=q1;subst e;cases r1 with
 |cons r rr=>
  show xgk rr r;obtain⟨its,rv,p,hz⟩:=I1.list hq;refine call_enumerate_list p.isList λ h' he hit hsz hk=>?_
  have I2:xgm H1 {s1 with heap:=h'}:=xKz hk;refine xLR ⟨xtN 1,[xtN 1,s1.heap.objs.size],_,_,H1,rfl,I2,uu l _ _ (Nat.succ_ne_self _),⟨xbs he,hit⟩,xfn,q⟩;have KI:s1.heap.objs.size≤b:=by
   show xl8 hb hb hb
   ·show IO hb xjG
   ·show xib hb P3
  exact xAe KI KI
def wD {K:Frag}{g:TG}{tt:TT}{te:TE}{R:xty}(Pv:xaQ (xfi KB))(h0:Pv 0 [] xBm)(hl:∀i ys H,xnY->xqn->xeB)
  (hs:∀i x ys σ H p,xde=Χ->xqn->xuM n->xgU->g Φ σ (xbE H p [.int xcD,x]) λ σ3 H3=>xyT H3 λ c H5=>xbS c (xup H5 λ y H4=>xhJ=xen/\xh5/\xBN n/\xeF (ys++xdD) xix) (xBN n/\Pv (i+1) ys H5))
  (hd:∀ys H,xJj H->R H) (mg:∀x σ H (A B:xbM),(∀σ' H',xl3 σ'->xl4 σ')->xlT A->xlT B) (mtt:∀σ H (A B:xu5),(∀v H',xl3 v->xl4 v)->tt σ H A->tt σ H B) (mt:∀σ H (A B:VK),(∀v H',xl3 v->xl4 v)->xhU A->xhU B):
  ∃W:xpZ,(∃m,xto xyA)/\∀i m ys σ' H',xpH->
   (xmO (Wz K a) H'/\R H')\/(xnC (Wz K a) H'/\∀x H2,xm9 (Wz K a) H' x H2->xtt x λ σ3 H3=>xyT H3 λ c H5=>xbS c (xup H5 λ y H4=>
    xhJ=xen/\xh5/\xcH (m'<m/\xiw (i+1) (ys++xdD) xix)) (xcH (m'<m/\xiw (i+1) ys H5))):=by
 refine xac (λ i m ys σ H=>m=xgx i/\xnY/\xuM n/\xqn) ⟨xs.length,Z6,Ω,DI,h0⟩;rintro i m ys σ H ⟨rfl,hi,hn,p⟩;have q:=hl i ys H hi p;by_cases JO:xfb i
 ·refine xcv ⟨xs,xs[i],q,by simp [JO]⟩ (Sc x H' y);obtain⟨p1,x1,Kq,e1,e2,y⟩:=y;subst e1 e2;refine mg _ _ _ _ _ (λ σ3 H3 z=>mtt _ _ _ _ (Sc c H5 z) z) (xp4 x1 ys σ _ p1 (y xs q) p hn Kq);cases c with
  |true=>
   rw [Τ] at z ⊢;exact mt _ _ _ _ (λ y H4 z9=>by show xvF z1 z2 z3 z4;exact⟨z1,z2,xgx (i+1),xnA,rfl,JO,z3,z4⟩) z
  |false=>
   rw [Dc Dp] at z ⊢;exact⟨xgx (i+1),xnA,rfl,JO,xd3,xgV⟩
 ·have e:xoO i:=xsU;show xpD e ⟨⟨xs,q,P3⟩,hd ys H p⟩
universe L2
namespace K31.S
open PySem L2 QQ PM D6
seal PE PA PS PSs PT PW PG PI
inductive Ph (vs:KB) (H:Hp) (Q:VK) (JT:XK):Prop
 |mk (a:JB) (B:Fr) (hi:Nat) (h0:vs=[SZ,vN hi]) (h1:Uf=xf1) (h2:(xax B (b≤hi))) (h3:xfI 1) (h4:xmx 300) (h5:(∃b∈B,0<b)) (h6:xeX true):Ph vs H Q JT
def vQ:Ps xq0 xq0 fq:=M2
def iV (R:Fr):xjc=xJz (λ b=>xd2) V.int:=by rw [EJ];rfl
def Ou {f fA fW:JB}(F:Ε "are_of_things" fq xq0)(AW:xIN cu Jab fA Xz)(W:xtn fW)(T:xbi):xlu xq0 Ph:=by
 show xcY tt ht T.things vQ (λ JN A outer s H vs Q E hr h=>?_)
 intro _;obtain⟨a,B,hi,rfl,hB,hb,h1,h3,⟨b0,OV,SS⟩,k⟩:=h;have L4:xqc:=PP;have hn:=xuO;show xbf (xmZ (aH (xqT (aA (eG AW W T) L4 AW (xdn Os aj KM))) (xcc dl) az) (k8 (oT rh rh aj xk9 (xaF 300 ht tt))
   (lK (eh cB (xlD (uI hn) T.max PyProof.Rows.boot_max xgA) aj xve)))) ⟨_,rfl,_,rfl,a,B,0,_,rfl,hB,λ b z=>by show xaR (xhG z),_,rfl,xgJ⟩;show xgD ⟨_,rfl,a,_,rfl,Ο hB,_,_,rfl,rfl,_,rfl,xwp h (by show xes (Int.toNat_le.mp h1))⟩ ⟨_,_,rfl,rfl,_,rfl,xwp h (by show xes (Jr rfl rfl h3))⟩ ⟨_,rfl,a,B.map (λ b=>xd2),rfl,by show xa5 iV xxM,by rw [CM];assumption,Sc n hn hmax⟩;have:xbx (KF b0):=hmax _ (IP OV);refine xay _ _ rfl ?_
 try dsimp only
 show IO (show xsb 0 n from xm6) k
inductive Uk (vs:KB) (H:Hp) (Q:VK) (JT:XK):Prop
 |mk (a:JB) (B:Fr) (m:Nat) (h0:vs=[SZ,xiH]) (h1:Uf=xf1) (h2:(xax B (b≤1000000))) (h3:xfI 1) (h4:xmx 300) (h5:(∃b∈B,0<b)) (h6:Δ m) (h7:xeC m) (h8:xbz (B.filter (xd9 b (0<b))) (2^m)) (h9:xwr):Uk vs H Q JT
def zw:Ps Jak Jak sI:=M2
def ndC:(["count"]:xaj).Nodup:=Z8
def xV {f fT fA fW:JB}(F:Ε "need_shares" sI Jak)(Th:xMl fq xq0 fT YZ)(AW:xIN cu Jab fA Xz)(W:xtn fW)(T:xbi):xnj Jak Uk:=by
 obtain⟨tc,hc⟩:=T.count;show xcY tm hm T.mlen zw (λ JN A outer s H vs Q E hr h=>?_)
 intro _;obtain⟨a,B,m,rfl,hB,hb,h1,h3,MV,m1,m2,VY,k⟩:=h;have J5:xa0:=PP;show xnf (ab (xpa (xbe (Ou Th AW W T) hr Th Os (xaF 1000000 hc tc)))
  (ab (xpa (aA (eJ W T) J5 W (xdn KM aj xCB)))
  (ae (xgW cB (xlD gp T.len PySem.boot_len (xa7 (iT (N:=["count"]) (g:=xiz) (tt:=oB (xCN (λ i j=>xyB j i) xsg xGN)) (te:=xsg) rfl rfl Z8 Z8 Z8 (bP Os)
   (λ fp s H=>xqD 0 ndC) (λ fp s H=>xok cB Os) (λ fp s H=>Os)))) (ap de aj KM))))) ⟨_,rfl,a,B,1000000,rfl,hB,hb,h1,h3,MV,_,rfl,bd χ⟩;refine xbu
 have e1:NE (xhk xcr xhC&&xhk xhC 12):=by
  rw [xzK (xcr≤xhC) (Int.toNat_le.mp m1),CY (show xeC xhC by lia)];rfl
 refine⟨_,rfl,xhC,1,12,rfl,?_⟩;rw [e1];show xbI (xyt χ);show SC (xeZ a (xhe hB) xf7) (oF (K:=K) (a:=a) (l:=l) (xs:=xe2) (n:=1) (g:=xiz) (tt:=oB (xCN (λ i j=>xyB j i) xsg xGN)) (te:=xsg)
  (λ i ys H'=>ys=Wp (xuw xxr b (0<b))/\xaq=xen/\Β) (xfE ac xfY) (λ i ys H' _ z9=>by show xoz sm z9 (xBF hB)) ?_ ?_ ?_ ?_ ?_)
 ·rintro i x ys σ H' hx ⟨rfl,hl,sm⟩ hσ;show xio b KH hx;have K1:i<B.length:=xco KH;show xga u0 u0 (σ=[u0]) (match σ,hσ with| [u0],_=>xbn u0)
  have hlen:xbz (xuw xxr b (0<b)) 300:=CV (Ir _ _) (by show IO Dd (xpe _ _ h3));refine⟨_,rfl,_,_,rfl,rfl,_,rfl,?_⟩;rw [cv KH,DG]
  try dsimp only
  by_cases h0:0<b
  ·show Tm (Dq (xzK (xcQ<xd2) (IL.mpr h0))) ⟨_,rfl,hl,bw (by show xes (xc9 hlen)),rfl,?_,ac,xs7⟩
   ·rw [Dx (by show xC9),C8];rfl
   ·show xl2 xph
  ·show Tm (Dc (xef z (C5 z) Z5)) ⟨rfl,?_,?_,sm⟩
   ·show xbD (DE (by show xC9))
   ·exact hl
 ·rintro ys H' ⟨rfl,hl,sm⟩;rw [CM,DV] at hl;refine⟨l,_,rfl,Ο hl,_,rfl,_,_,rfl,rfl,xvZ Z5 Z9,_,_,rfl,rfl,_,rfl,xCz (xcF sm)⟩;exfalso;show xeo xbK CM Dz;have e2:xcr*2^m=KF (2^m):=by show xbD Int.one_mul
  show xmj e2;lia
 ·exact λ x σ H A B h z=>xiM
 ·exact λ σ H A B h z9=>by obtain⟨v,e1,i,j,e2,e3,c,e4,z⟩:=z9;exact⟨v,e1,i,j,e2,e3,c,e4,xiM⟩
 ·exact λ σ H A B h z9=>by show xa9 v e1 z z9 ⟨v,e1,xiM⟩
def Bun (H:Hp)(A:xaa)(t:JB)(b:Bd):Prop:=∃l,t∉A/\l∉A/\H t=xcd [vN xf5,xah]/\H l=ω xd4
inductive LQ (vs:KB) (H:Hp) (Q:VK) (JT:XK):Prop
 |mk (t l:JB) (n:Nat) (h0:vs=[xfc]) (h1:H t=xcd [xd0,xah]) (h2:Q xd0 H):LQ vs H Q JT
def vH:Ps xut xut gv:=M2
def kc (F:Ε "weight_of" gv xut):xey xut LQ:=by
 show xbj vH (λ JN A outer s H vs Q E hr h=>?_);obtain⟨t,l,n,rfl,ht,k⟩:=h;refine xee xGS;exact⟨_,rfl,t,_,_,_,rfl,rfl,xoU,xhQ,k⟩
inductive J8 (H:Hp) (A:xaa):xaa->Ψ xaw
 |nil:J8 H A [] []
 |cons {t:JB} {b:Bd} {ts:xaa} {bs:xaw}:Bun H A t b->xoj->J8 H A (t::ts) (b::bs)
def J8.keepA {H H':Hp}{A:xaa}{bs:xaw}(h:xoj)(s:∀c o,c∉A->WF=Id->xaB=Id):J8 H' A ts bs:=by
 induction h with
 |nil=>show xg0
 |cons a _ ih=>
  obtain⟨l,n1,n2,h1,h2⟩:=a;exact xjt ⟨l,n1,n2,xgi n1 h1,xgi n2 h2⟩
def J8.keep {H H':Hp}{A:xaa}{bs:xaw}(h:xoj)(s:Β):J8 H' A ts bs:=h.keepA λ c o _ e=>s c o e
def J8.sub {H:Hp}{A A':xaa}{bs:xaw}(h:xoj)(s:∀a∈A',a∈A):xKc A':=by
 induction h with
 |nil=>show xg0
 |cons a _ ih=>
  obtain⟨l,n1,n2,h1,h2⟩:=a;exact xjt ⟨l,LT (n1 (s _ z)),LT (n2 (s _ z)),h1,h2⟩
def J8.app {H:Hp}{A:xaa}{bs cs:xaw}(h:xoj)(g:J8 H A us cs):J8 H A (ts++us) (bs++cs):=by
 induction h with
 |nil=>exact g
 |cons a _ ih=>exact xjt a
def J8.len {H:Hp}{A:xaa}{bs:xaw}(h:xoj):ts.length=bs.length:=by
 induction h with
 |nil=>rfl
 |cons a _ ih=>rw [Df,Df,ih]
theorem J8.at {H:Hp}{A:xaa}(h:xoj):∀{i:Nat} {b},xad bs b->∃t,xad ts t/\Bun H A t b:=by
 induction h with
 |nil=>intro i b h;show xbm
 |cons a _ ih=>
  intro i b h;cases i with
  |zero=>show xbm;subst h;exact xbd a
  |succ i=>show xbm;simpa using ih h
def vT:∀n {B} {i} {a b},xmx n->xaH B (2*i) a->xaH B (2*i+1) b->xad (xeM) (xnS+xf5,a.2++xd4):=by
 intro n
 induction n with
 |zero=>intro B i a b hB h1 _;show xfs (B=[]) (Ey.mp Z5);simp at h1
 |succ n ih=>
  intro B i a b hB h1 h2
  match B,hB,h1,h2 with
  | [],_,h1,_=>simp at h1
  | [x],_,h1,h2=>simp at h2
  |x::y::r,hB,h1,h2=>
   cases i with
   |zero=>simp at h1 h2;subst h1 h2;rfl
   |succ i=>
    rw [xae (2*(i+1)) (2*i+1+1) (F1 (Nat.succ_add _ 1))] at h1 h2;simp at h1 h2;show xa6 (xGd)=_;exact ih (by simp at hB;exact Ff hB) h1 h2
def gl {ts:xaa}{i:Nat}(h:xad ts t):xa6 (xcK)=ST t:=by rw [DX,h];rfl
def AA (m)(h:xiE m):NE (Builtin.Range.small 1 xhC 2)/\xLt xhC 2=KF (m/2):=by
 have e:xLt xhC 2=KF (m/2):=by
  show xbk Builtin.Range.rangeSize (Dq Z9)
  split<;>lia
 refine⟨?_,e⟩;have f:∀i,0≤i->i<100000->NE (Builtin.Range.rangeFitsLong i):=λ i h0 h1=>by
  unfold Builtin.Range.rangeFitsLong;rw [xm6,xm6];rfl
 show xbk Builtin.Range.small e
 try dsimp only
 rw [f 1 Z9 Z9,f xhC Z5 (xC1 h),f 2 Z9 Z9,f (KF (m/2)) xfl Z5,Dq Z9,f (xhC+(2-1)) Z5 Z5];simp
inductive Rq (vs:KB) (H:Hp) (Q:VK) (JT:XK):Prop
 |mk (p av:JB) (ts:xaa) (B:xaw) (h0:vs=xaO) (h1:xa2=xsE) (h2:(∃o,H av=Id)) (h3:J8 H [av] ts B) (h4:xJR) (h5:(xax B (xbz xd4 8000000))) (h6:∀(l:JB) (us:xaa) (H':Hp),Β->Θ->xaq=Ι xAt->J8 H' [av] us xeM->xak):Rq vs H Q JT
def LM:Ps ["bundles","pairs","place","first","second"] xw8 jK:=M2
def vh {P:JE}{K:Frag}(F:Ε "in_pairs" jK xw8)(T:xbi):xey xw8 Rq:=by
 show xbj LM (λ JN A outer s H vs Q E hr h=>?_);obtain⟨p,av,ts,B,rfl,hp,⟨oav,hav⟩,hB,Q1,hsm,k⟩:=h;refine xaT (xaU 1 LM.nd xdM (xlg (uw Z7 T.range (xdn aj xk9 aj)) 2 LM.nd (xaz 3 LM.nd (xkf (xpR On)) (xdQ 4 LM.nd (xkf On) (aB (xfj D1 D5 bu KM (xjF (xbA xuX xuW) (xcB xuX xuW))))))) KM)
 have S9:=hB.len;show xds (xg9 (xdX l nl));have s0:=xj0 nl;have NI:=AA ts.length Z5;refine xeq ⟨_,rfl,p,_,rfl,Ο (xhz hp),1,_,2,ts.length/2,rfl,Z9,by show xes NI.1,by show xes NI.2,PyProof.noPylong_small Z9,qS (D:=xdf) (lo:=1) (c:=2) (n:=ts.length/2)
  (λ i σ H2=>∃(v2 v3 v4:xc0) (us:xaa),σ=[xeV,xgQ,v2,v3,v4]/\xhL=Ι xAt/\J8 H2 [l,av] us ((xeM).take i)/\xiq) ⟨none,none,none,[],rfl,ac,.nil,s0⟩ ?_ ?_⟩
 ·clear g1;rintro i σ H2 hi ⟨v2,v3,v4,us,rfl,LD,QR,sm⟩;have l0:2*i<B.length:=Z5;have l1:2*i+1<B.length:=Z5;have g0:xaH B (2*i) B[2*i]:=CU l0;have g1:xaH B (2*i+1) B[2*i+1]:=CU l1;have z0:=hsm _ (ER l0);have z1:=hsm _ (ER l1);have hpa:=vT _ P3 g0 g1;obtain⟨t0,ht0,la,_,_,Tj,OL⟩:=(hB.keep sm).at g0;obtain⟨t1,ht1,lb,_,_,KH,OU⟩:=(hB.keep sm).at g1;show xqI B[2*i] ba B[2*i+1] bb;have e1:xcr+xhE*2=xjL (2*i):=Z5;have e2:xjL (2*i)-1=KF (2*i):=Z5;have J9:=xeQ hp;show Tm e1 (xon g2 ⟨_,rfl,_,rfl,_,_,rfl,rfl,?_⟩)
  try dsimp only
  rw [e2];show xfp ⟨p,_,_,_,rfl,rfl,JS.of J9,aE (gl ht0),xcG⟩;show xcg g2 ⟨_,rfl,_,rfl,p,_,_,_,rfl,rfl,JS.of J9,aE (gl ht1),xcG⟩ g2;show xoh hul QR.len Dd hul ⟨_,rfl,xeD LD,_,rfl,t0,_,_,_,rfl,rfl,Kk.of Tj,xhQ,_,rfl,t1,_,_,_,rfl,rfl,Kk.of KH,xhQ,_,_,rfl,rfl,
   _,rfl,t0,_,_,_,rfl,rfl,Kk.of Tj,xhR,_,rfl,t1,_,_,_,rfl,rfl,Kk.of KH,xhR,la,lb,_,_,rfl,rfl,OL,OU,(by rw [CM,CM,Ga];lia),LE q nq⟩
  have e3:V.int (KF xzL+KF xzM)=vN (xzL+xzM):=xEg Z5;have s3:=xas (Wp ba.2++Wp xjZ) nq;have h3q:xbC H2 q (Wp ba.2++Wp xjZ) q=ω (ba.2++xjZ):=by rw [ac,C8]
  have Qi:=xbL LD;show xbb H2 q (Wp ba.2++Wp xjZ) H3;refine xem (by show xeE) t nt
  try dsimp only
  rw [e3];have s4:=xth [vN (xzL+xzM),xo6];have Xy:(xbE H3 t [vN (xzL+xzM),xo6]) t=xcd [vN (xzL+xzM),xo6]:=ac;have S1:=xdg Qi;have h4q:=xdg h3q;show xbB nql (q≠l) (LT (by show xbY LD nq nq)) (xbE H3 t [vN (xzL+xzM),xo6]) H4;have sm4:xsB H4:=xEI;refine⟨l,_,_,rfl,rfl,S1,bw (by show xcS),SB (2*i+1),ST t0,ST t1,us++[t],rfl,?_,?_,xs7⟩
  ·rw [ac,C8];rfl
  ·rw [Ei,hpa];have kk:∀c o,c∉ [l,av]->H4 c=Id->(xej H4 (xAt++[V.ref t])) c=Id:=λ c o n e=>by show xgj (LT (n (by simp [z])))
   have h2av:=xeQ hav;have Zh:t∉ [l,av]:=LT (by
    show xAY Dm Fv z;show xiu z
    ·show Tl Qi nt nt
    ·show Tl (xbL h2av) nt nt)
   have nqa:q∉ [l,av]:=LT (by
    show xAY Dm Fv z;show xiu z
    ·exact nql rfl
    ·show Tl h2av nq nq)
   exact(QR.keepA λ c o n e=>kk _ _ n (sm4 _ _ e)).app (xjn ⟨q,Zh,nqa,kk _ _ Zh Xy,kk _ _ nqa h4q⟩)
  ·show xl2 (sm4 _ _ xph)
 ·rintro σ H2 ⟨v2,v3,v4,us,rfl,LD,QR,sm⟩;show UV (Dv (by show IO (dH _ (B:=B) P3) (Di (congrFun (congrArg HDiv.hDiv S9.symm) 2)))) QR (xyH (xdE us H2 sm nl LD (QR.sub λ a h=>by show xbm;simp [h])))
theorem J8.zip {H:Hp}{A:xaa}{bs:xaw}(h:xoj):∀z∈ts.zip bs,Bun H A xd3 xgV:=by
 induction h with
 |nil=>intro z hz;simp at hz
 |cons a _ ih=>
  intro z hz;rw [List.zip_cons_cons] at hz;show xei hz hz
  ·exact a
  ·exact ih z hz
theorem mF:∀(as:xaa) bs,(bs.map (λ b=>xyv)).zip (as.map V.ref)=(as.zip bs).map (λ z:JB×Bd=>xt4 (xyz z) xd3)
 | [],bs=>by simp
 |a::as,[]=>by simp
 |a::as,b::bs=>by
  have:=mF as bs;simp only [Ep,List.zip_cons_cons,this]
theorem J8.take {H:Hp}{A:xaa}{bs:xaw}(h:xoj):∀n,J8 H A (ts.take n) (bs.take n):=by
 induction h with
 |nil=>intro n;rw [List.take_nil,List.take_nil];show xg0
 |cons a _ ih=>
  intro n;cases n with
  |zero=>show xg0
  |succ n=>exact .cons a (ih n)
theorem lI {H:Hp}{A:xaa}:∀{Z:xkL JB Bd},(∀z∈Z,Bun H A xd3 xgV)->J8 H A (Z.map (·.1)) (Z.map (·.2))
 | [],_=>.nil
 |z::Z,h=>.cons (xkG z) (lI λ y hy=>xhv y hy)
def wX {L:Fr}(lv:TH xdP k B):(xax B (xbz xd4 (2^k)))/\xmx xb9:=by
 have ps:∀n q B,xmx n->(xax B (xbz xd4 q))->xax xeM (xbz xd4 (2*q)):=by
  intro n
  induction n with
  |zero=>intro q B hB _ b hb;show xfs (B=[]) (Ey.mp xK6);show xyy hb
  |succ n ih=>
   intro q B hB h b hb
   match B,hB,h,hb with
   | [],_,_,hb=>show xyy hb
   | [x],_,_,hb=>show xyy hb
   |x::y::r,hB,h,hb=>
    show xiS
    ·have h1:=xkG x;have h2:=xhv y Do;show xbq xkc y.2≤_;show xam CN
    ·exact ih q r (by simp at hB;exact Ff hB) (xa3 (xhv b xCC)) b hb
 induction lv with
 |zero=>show xaI (xa3 (by simp at hb)) Ω
 | @step k B B' _ hp hs ih=>
  have L0:=dH _ (B:=B) P3;have hl:=hp.length_eq;rw [CN,CM,L0] at hl;refine⟨xfn,by show xaR ih.2⟩;have h1:Δ (2^(k+1)):=Nat.one_le_two_pow;show xbR xIC hb hb
  ·show xGH p rfl hb;exact h1
  ·have:=ps _ _ B P3 ih.1 b hb;show xam EI
inductive Ry (vs:KB) (H:Hp) (Q:VK) (JT:XK):Prop
 |mk (p av:JB) (ts:xaa) (L:Fr) (wt:xcs) (m:Nat) (h0:vs=[Φ,xiH]) (h1:xa2=xsE) (h2:(∃o,H av=Id)) (h3:J8 H [av] ts xdP) (h4:Ko xdP) (h5:xhg 1) (h6:xh9 300) (h7:Δ m) (h8:xeC m) (h9:∀(l:JB) (us:xaa) (B:xaw) (H':Hp),Β->Θ->xaq=Ι xAt->J8 H' [av] us (xui 1 (xb9-2))->ML xdP m B->xak):Ry vs H Q JT
def MR:Ps ["singles","most","bundles","step"] xAr lV:=M2
def vM {P:JE}{K:Frag}{f fP fW:JB}{fd fdP NY:JG}(F:Ε "lightest_bundles" lV xAr)(Pa:xbt "in_pairs" jK xw8 fP fdP)(We:xbt "weight_of" gv xut fW NY)(T:xbi):xlu xAr Ry:=by
 show xbj MR (λ JN A outer s H vs Q E hr h=>?_);obtain⟨p,av,ts,L,wt,m,rfl,hp,⟨oav,hav⟩,hB,Zu,n1,n2,m1,m2,k⟩:=h;have J5:xa0:=PP;have Ln:xqb:=PP;have hn:=xuO;refine xaT (xaU 2 MR.nd (xGC EU xgA) (xlg (b9 Z7 T.range (xa7 (xpR KM))) 3 MR.nd (xij 2 MR.nd (kB (sp:=LQ) (kc We) Ln We.b Z7 T.sort (xvE fW Z7 We.m) (xa7 (xcB Os (xbQ (vh Pa T) J5 Pa On)))))) (xwf On bF (xlD (ui hn) T.max PyProof.Rows.boot_max (xbo aj (xpR (xwk xk9))))))
 show xaM S9 hB.len CM S9;show xds ⟨_,rfl,p,_,rfl,Ο hp,xdX l0 S8⟩;have s0:=xas xcK S8;have lv1:ML xdP 1 xdP:=.step .zero (by rw [xdw (pairs ([]:xaw)) [],DM];exact xJd) Zu;have e1:xhC-1=KF (m-1):=xoK m1;refine xeq ⟨_,rfl,_,_,rfl,rfl,?_⟩
 try dsimp only
 show Tm e1 ⟨KF (m-1),rfl,Gi (2^62) _,Z5,?_⟩;show Tm Dz (xs5 xdf 0 (m-1) (λ i σ H2=>∃(lb:JB) (us:xaa) (B:xaw) (v3:xc0),σ=[xeV,xqa,ST lb,v3]/\H2 lb=Ι xAt/\J8 H2 [av] us B/\ML xdP (i+1) B/\xiq) ⟨l0,ts,_,none,rfl,ac,hB.keep s0,lv1,s0⟩ ?_ ?_)
 ·clear g1;rintro i σ H2 hi ⟨lb,us,B,v3,rfl,QU,QR,lv,sm⟩;obtain⟨hsz,Q1⟩:=wX lv.lev;have hsz2:xax B (xbz xd4 8000000):=xa3 (by
   have h1:=hsz b hb;have h2:2^(i+1)≤2^12:=xv1 Z5;have h3:xkx 2^12=4096:=Z9;exact CV h1 (xc9 h2))
  have L0:=dH _ (B:=B) P3;refine⟨_,rfl,_,rfl,lb,av,us,B,rfl,QU,xbs (xeQ hav),QR,Z5,hsz2,λ l ps H3 s3 nl hl SR=>?_⟩;have hpsl:=SR.len;refine⟨p,l,_,_,rfl,rfl,xbL (xeQ hp),hl,(by rw [CM,CM,Ga];lia),LE q nq⟩;have s4:=xas (xcK++xEC) nq;have J7:J8 (xby H3 q (xcK++xEC)) [av] (ts++ps) (xdP++xeM):=((hB.keep xwZ).app SR).keep s4;have h4q:xbC H3 q (xcK++xEC) q=Ι (xrd (ts++ps)):=by rw [ac,C8]
  have sm4:=(xwZ).trans s4;show xbb H3 q (xcK++xEC) H4;have OW:=J7.len;refine⟨q,xrd (ts++ps),xhq (xdP++xeM) b xyv,rfl,JS.of h4q,by rw [CM,CM];exact OW,by rw [CM,CN];lia,λ j v kk hv hk=>?_,λ lo mm Yo Yy Sx=>?_⟩
  ·rw [DX] at hk;cases e:(xdP++xeM)[j]? with
   |none=>show Tl e hk hk
   |some b=>
    rw [e] at hk;obtain⟨t,ht,lt,_,_,h1,h2⟩:=J7.at e;show Tl (gl ht) hv hv;cases hk;exact⟨t,lt,xf5,rfl,h1,rfl,rfl⟩
  ·have hz:(xhq (xdP++xeM) b xyv).zip (xrd (ts++ps))=((ts++ps).zip (xdP++xeM)).map (λ z:JB×Bd=>xt4 (xyz z) xd3):=mF _ _;rw [hz] at Sx;show xot Z' NO (SM.M5 SG.O1 _ Sx);have hZ:=(SM.Ka SG.O1 NO).symm;have hSB:xAL wI (Z'.map (·.2)) (xdP++xeM):=by
    show xgF (SM.Pg (kg:=wI) (λ z:JB×Bd=>xgV) xfH NO) (ID xEQ)
   have hZB:xLJ (xdP++xeM):=by
    show xgF (hZ.symm.map (·.2)) (ID xEQ)
   have Sy:xMg:=by
    rw [EJ,Ie] at Yy;show xpt Ko Ie (Yy.imp (λ {a b} h=>by have h':xyz a≤xyz b:=h;exact I0.mp h'))
   have s5:=xKO Yo;refine⟨lo,Z'.map (·.1),Z'.map (·.2),xdJ (0+xhE),rfl,?_,?_,.step lv hSB Sy,sm4.trans s5⟩
   ·rw [ac,EJ,EJ];rfl
   ·exact(lI λ z hz=>J7.zip z xLK).keep s5
 ·rintro σ H2 ⟨lb,us,B,v3,rfl,QU,QR,lv,sm⟩;rw [show m-1+1=m by lia] at lv;show xbI χ;obtain⟨_,Q1⟩:=wX lv.lev;have hul:=QR.len;refine⟨_,rfl,_,rfl,p,_,rfl,Ο (xeQ hp),_,_,rfl,rfl,xCF,_,_,rfl,rfl,_,_,rfl,?_⟩;have e2:xeW (SL 2*xmt xcK-2>1) (SL 2*xmt xcK-2) 1=KF (max 1 (xb9-2)):=by
   rw [CM,S9];split<;>lia
  try dsimp only
  show Tm e2 ⟨_,rfl,lb,_,rfl,JS.of QU,LE l5 n5⟩
  try dsimp only
  rw [dS,<-E1];have s5:=xas (xrd (us.take (max 1 (xb9-2)))) n5;exact k l5 _ B _ (sm.trans s5) (xBO sm) ac ((QR.take _).keep s5) lv
structure FnL (K:Frag)(mg:W1)(x:Str)(st:JL)(ps:xaj)(f:JB)(fd:JG):Prop where
 F:∃dV,xlI x x st dV f fd
 m:mg x=xdU
 b:xnq
 d:∃t,xxT K [xb1 6]
theorem FnL.kp (F:FnL K mg x st ps f fd):xhT:=F.F.elim λ _ z=>z.kp
def cw (C:Fr)(p:Nat):Nat:=C.getD p 0
def pos (C:Fr):Fr:=xwF C.length (xd9 p (0<xeP p))
def SJ (C:Fr)(m:Nat)(ln:xcs):Prop:=∃(L:Fr) (B:xaw),Ko (xDq xeP)/\xAL wI (xDq xeP) (xuF xmH xeP)/\ML (xDq xeP) m B/\ln=occ (xui 1 (xb9-2))
theorem SJ.uniq (h:SJ C m ln)(h':SJ C m ln'):ln=ln':=by
 obtain⟨L,B,a1,a2,a3,a4⟩:=h;obtain⟨L',B',b1,b2,b3,b4⟩:=h';have e:=SM.M4 SG.O1 (sj a1) (sj b1) (a2.trans b2.symm);have el:=xeI e;rw [CM,CM] at el;rw [<-e] at b3;have:=a3.uniq b3;subst this;rw [a4,b4,el]
def J8.fresh {H:Hp}{A:xaa}(h:xoj)(n:XV av):xKc [av]:=by
 induction h with
 |nil=>show xg0
 |cons a _ ih=>
  obtain⟨l,_,_,h1,h2⟩:=a;exact xjt ⟨l,LT (ad h1 n xFA),LT (ad h2 n xFA),h1,h2⟩
def ixN_nat (h:j<n):Re (ixN n xvy) j:=by
 unfold ixN;rw [Dq xfl,Dq (F7.mpr h)];simp
def set_range {f f':xcs}(h:∀p,f' p=f p+ xrF [q]):(xqw n (λ p=>vN (f p))).set q (vN (f q+1))=xqw n (λ p=>vN (f' p)):=by
 refine EF (xcl i)
 rw [List.getElem?_set,CM,Gh,DX,DX];by_cases hi:i<n
 ·rw [HC hi];by_cases e:q=i
  ·subst e;rw [Τ,Dq hi,Gk,h q];simp
  ·rw [Dc e,Gk,Gk,h i];have: [q].count i=0:=FR (by simp;exact LT (e z.symm));rw [this,FG]
 ·have e2:Ζ (xa6 (List.range n)):=DH (by show xnd Gh hi);rw [e2];by_cases e:q=i
  ·subst e;rw [Τ,Dc hi];rfl
  ·rw [Dc e];rfl
inductive Od (vs:KB) (H:Hp) (Q:VK) (JT:XK):Prop
 |mk (a:JB) (C:Fr) (m:Nat) (h0:vs=[SZ,xiH]) (h1:Uf=Ι xxs) (h2:(xax C (b≤1000000))) (h3:Δ C.length) (h4:C.length≤300) (h5:(∃b∈C,0<b)) (h6:Δ m) (h7:xeC m) (h8:xbz (C.filter (xd9 b (0<b))) (2^m)) (h9:xbz xmH 300) (YX:xGh xmH) (MO:xbz xmH (2^m)) (h12:∀(l:JB) (ln:xcs) (H':Hp),Θ->Β->xaq=Ι (xpA p (ln p))->QI xmH xeP m ln->SJ C m ln->xak):Od vs H Q JT
def K0:Ps ["counts","most","singles","lengths","bundle","place"] Jak jt:=M2
def Bw:(["place","count"]:xaj).Nodup:=Z8
def Bo:TE:=BE (kC (LI 1) (kC (A5 (kC xsg j8)) j8))
def BJ:TT:=oB (xCN (λ i j=>xyB j i) (LI 1) xGN)
def QL {P:JE}{K:Frag}{mg:W1}{base:JI}{f fN fT fA fW' fL fP fW:JB}{fd Qk YZ Xz fdW' fdL fdP NY:JG}(F:FnL K mg "lengths_of" jt Jak f fd)(Ne:xbt "need_shares" sI Jak fN Qk)(Th:xMl fq xq0 fT YZ)(AW:xIN cu Jab fA Xz)(W:xLk fW' fdW')
  (Li:xbt "lightest_bundles" lV xAr fL fdL) (Pa:xbt "in_pairs" jK xw8 fP fdP) (We:xbt "weight_of" gv xut fW NY) (T:xbi):xsF Jak Od:=by
 show xbp dV F0 F.F (F0.ok K0 λ JN A outer s H vs Q E hr h=>?_)
 intro _;obtain⟨a,C,m,rfl,ha,hC,c1,c3,MV,m1,m2,VY,p30,p1,pm,k⟩:=h;have L8:xan 31:=PP;have Ln:xqb:=PP;show xnf (xcz (xbe (xV Ne Th AW W T) hr Ne Os KM) (xaz 2 K0.nd (kB (sp:=LQ) (kc We) Ln We.b Z7 T.sort (xvE fW Z7 We.m) (xa7 (iT (N:=["place","count"]) (g:=V0 K 2 (N3 xiz (N3 (cK 1) V1))) (tt:=BJ) (te:=Bo) rfl rfl Z8 Z8 Z8
   (lL Z7 T.enum xgA) (λ fp s H=>xDa (xmW 0 Bw (xmW 1 Bw gC)))
   (λ fp s H=>xok cB KM) (λ fp s H=>xjF KM (aT xgA))))) (xaU 3 K0.nd (xzh gR xoA xk9) (xm8 (xbe (vM Li Pa We T) L8 Li On KM) 4 K0.nd (ae (xm8 xuW 5 K0.nd (ae (qp (xhy (xro UF xaL)) (pQ UF xaL jU)))))) UF))) ⟨_,rfl,_,rfl,a,C,m,rfl,ha,hC,c1,c3,MV,m1,m2,VY,xdX H1 s1⟩;have Tj:=xln;show SC (xeq ⟨_,rfl,a,_,rfl,JS.of Tj,xf7⟩) (wD (K:=K) (a:=a) (l:=l) (xs:=xxs) (n:=2) (g:=V0 K 2 (N3 xiz (N3 (cK 1) V1))) (tt:=BJ) (te:=Bo)
  (λ i ys H2=>∃ts:xaa,ys=xcK/\xhL=xen/\xvV H2/\J8 H2 [l] ts (xuF (xwF i (xd9 p (0<xeP p))) xeP))
  ⟨[],rfl,ac,xfY,.nil⟩ (λ i ys H2 _ z9=>by obtain⟨_,_,_,sm,_⟩:=z9;exact xBF Tj) ?_ ?_ ?_ ?_ ?_)
 ·clear g1;rintro i x ys σ H2 p hx ⟨ts,rfl,hl,sm,hb⟩ hσ hp;show xio c hc hx;have K1:xCI i:=xco hc;have hcw:xeP i=c:=by rw [cw,Dn,hc];rfl
  obtain⟨u0,u1,rfl⟩:∃u0 u1,σ=[u0,u1]:=match σ,hσ with| [u0,u1],_=>xdt u0 u1
  have sp:=xoy [.int xhE,xgR] hp;have UR:=sp _ _ hl;show xbB Vl ((xiA p [.int xhE,xgR]) p=xcd [xpY,xgR]) ac (xiA p [.int xhE,xgR]) H3;show SC ⟨p,_,rfl,Kk.of Vl,rfl,_,_,rfl,_,_,rfl,rfl,?_⟩ ⟨_,rfl,_,_,rfl,rfl,_,rfl,?_⟩;show xaM S9 hb.len CM S9;have hfl:xbz (xwF i (xd9 p (0<xeP p))) 300:=CV (Ir _ _) (by show IO Gh (xCQ K1 c3))
  try dsimp only
  rw [Ju,DG];by_cases h0:0<c
  ·rw [Dq (xzK (xcQ<KF c) (IL.mpr h0)),Dx (by show IO hcw (CY h0))];refine xeZ _ (by show xcR 1) (λ q nq=>xem (by show xeE) t nt);have sq:=xas [xpY] nq;have Vp:=sq _ _ UR;have hqq:xbC H3 q [xpY] q=Ι [xpY]:=ac;have nql:q∉ [l]:=LT (by show xfB xFA UR nq nq)
   show xbb H3 q [xpY] H4;have st:=xth [xgR,xo6];have JO:=xd6 Vp;have hqt:=xd6 hqq;have OO:(xbE H4 t [xgR,xo6]) t=xcd [xgR,xo6]:=ac;show xbB Zh (t∉ [l]) (LT (by show xfB xFA Vp nt nt)) (xbE H4 t [xgR,xo6]) H5;have s25:xsB H5:=(sp.trans sq).trans st;have kk:∀c' o,c'∉ [l]->H5 c'=Id->(xej H5 (xcK++[V.ref t])) c'=Id:=λ c' o n e=>by show xgj (LT (n (by simp [z])))
   refine⟨JO,bw (by show xcS),rfl,ts++[t],by rw [C8];rfl,ac,xda c' o,?_⟩
   ·show xl2 (s25 _ _ xph)
   ·show Tm C8 ((hb.keepA λ c' o n e=>kk _ _ n (s25 _ _ e)).app (xjn ⟨q,Zh,nql,?_,kk _ _ nql hqt⟩));show Re _ (HO.tup [vN (xeP i),xo6]);show IO hcw (kk _ _ Zh OO)
  ·rw [Dc (xef z (C5 z) Z4),DE (by rw [hcw];show xC9)];refine⟨rfl,ts,rfl,UR,sm.trans sp,?_⟩;rw [List.filter_nil,DM];exact hb.keep sp
 rotate_left
 ·rintro x σ H3 A' B' hAB ⟨a',xs,e,hq,Xl,v,r,e2,v2,r2,e3,e4,h⟩;exact⟨a',xs,e,hq,Xl,v,r,e2,v2,r2,e3,e4,hAB _ _ h⟩
 ·exact λ σ H A B h z9=>by obtain⟨v,e1,i,j,e2,e3,c,e4,z⟩:=z9;exact⟨v,e1,i,j,e2,e3,c,e4,xiM⟩
 ·exact λ σ H A B h z9=>by obtain⟨v,e1,v2,e2,n1,z⟩:=z9;exact⟨v,e1,v2,e2,n1,λ q nq=>⟨(z q nq).1,λ t nt=>xjS ((z q nq).2 t nt)⟩⟩
 rintro ys H2 ⟨ts,rfl,hl,sm,hb⟩;rw [CM] at hb;have KI:J8 H2 [l] ts (xuF xmH xeP):=hb;clear hb;show xoh OW KI.len CM OW ⟨l,xcK,xhq (xuF xmH xeP) b xyv,rfl,xBT,by rw [CM,CM,CM];exact OW,by show xcS,λ j v kk hv hk=>?_,λ lo mm Yo Yy Sx=>χ⟩
 ·rw [DX] at hk;cases e:(xuF xmH xeP)[j]? with
  |none=>show Tl e hk hk
  |some b=>
   rw [e] at hk;obtain⟨t,ht,lt,_,_,h1,h2⟩:=KI.at e;show Tl (gl ht) hv hv;cases hk;exact⟨t,lt,xf5,rfl,h1,rfl,rfl⟩
 clear g1;rw [mF] at Sx;show xot Z' NO (SM.M5 SG.O1 _ Sx);have hZ:=(SM.Ka SG.O1 NO).symm;have hSB:xAL wI (Z'.map (·.2)) (xuF xmH xeP):=by
  show xgF (SM.Pg (kg:=wI) (λ z:JB×Bd=>xgV) xfH NO) (ID (by show xes xEQ))
 have hZB:xLJ (xuF xmH xeP):=by
  show xgF (hZ.symm.map (·.2)) (ID (by show xes xEQ))
 have Sy:xMg:=by
  rw [EJ,Ie] at Yy;show xpt Ko Ie (Yy.imp (λ {a b} h=>by have h':xyz a≤xyz b:=h;omega))
 obtain⟨L,UL,YU,eL,eU⟩:=nN (RX:=Z'.map (·.2)) (UX:=[]) (by show IO DM hZB.symm);have eU':UL=[]:=by simpa using eU.symm
 subst eU';rw [DM] at YU;have s5:=xKO Yo;have Xq:=(lI λ z hz=>KI.zip z xLK).keep s5;have NK:Re ((upd H2 lo (.lst ((Z'.map (λ z:JB×Bd=>(((z.2.1:Nat):Int),V.ref z.1))).map (·.2)))) lo) (.lst ((Z'.map (·.1)).map V.ref)):=by
  rw [ac,EJ,EJ];rfl
 have sm3:=sm.trans s5;generalize upd H2 lo (.lst ((Z'.map (λ z:JB×Bd=>(((z.2.1:Nat):Int),V.ref z.1))).map (·.2)))=H3 at*;rw [eL] at Xq Sy hSB;generalize Z'.map (·.1)=ss at*;clear hZ hZB Sx NO Yy eL eU hl KI sm s5 OW;have hLl:=YU.length_eq;have QO:=s1.trans sm3;have ha3:=QO _ _ ha;refine xeq (xem (by show xcR 1) l4 n4)
 have s4:=xas xiK n4;have Qy:xbC H3 l4 xiK l4=Ι xqk:=ac;show xbb H3 l4 xiK H4;show xbI ⟨_,rfl,a,_,rfl,Ο (xdg ha3),l4,_,_,rfl,rfl,Qy,Z5,by show xes (xC1 c3),(by rw [CM,Dz];exact a9 (by show xiE (1*C.length);lia)),xdX l5 n5⟩;have ez:xCO (xmt xxs) xqk=xpA p xCl:=by
  rw [Dz,CM];show xi6 C.length xqk=xHH (λ _=>xx0)
  rw [Js,Gh];generalize C.length=n
  induction n with
  |zero=>rfl
  |succ n ih=>rw [Ef,Es,ih,Ef];rfl
 try dsimp only
 rw [ez];have s5:=xas (xpA p xCl) n5;have Wq:xbC H4 l5 (xpA p xCl) l5=Ι (xpA p xCl):=ac;have hb5:=((Xq.keep s4).fresh n5).keep s5;have hlo5:=xar (xdg NK);have UN:=(xIX).trans s5;have Zj:XV l5:=xBO xIX;show xbb H4 l5 (xpA p xCl) H5;clear s4 s5 Qy n4 n5 ez;refine xeq ⟨_,rfl,_,rfl,lo,l5,ss,L,xeP,m,rfl,hlo5,xbs Wq,hb5,Sy,Ik p1 hLl,Z5,m1,m2,λ lb ub B H6 s6 nlb QU hub lv=>?_⟩
 have h65:=xcj Wq;have s06:=UN.trans s6;have N2:QI L xeP m (occ (xui 1 (xb9-2))):=by
  refine vG (YU.nodup_iff.mp ?_) xtd lv.lev (Ik p1 hLl) m1 (EZ hLl.symm pm)
  ·exact List.Pairwise.filter _ List.nodup_range
  ·have:=(xLS hp).2;exact C5 this
 have hwR:xax (xui 1 (xb9-2)) (∀q∈xd4,xCI q):=λ b hb q hq=>by
  have:=zD lv.lev b (DN hb) q hq;exact G1.mp (xLS this).1
 show xbB hln (SJ C m (occ (xui 1 (xb9-2)))) ⟨L,B,Sy,hSB,lv,rfl⟩ (xui 1 (xb9-2)) R;have hulR:=hub.len;have hlb5:lb≠l5:=xbP Wq nlb;clear hb5 hlo5 Wq Sy Xq NK;refine xeu lb (xhe QU) (xnw xdf K lb (ub.map V.ref) (λ i σ H7=>∃v4 v5:xc0,σ=[xbv,xqa,ST lo,ST l5,v4,v5]/\H7 l5=Ι (xpA p xzs)/\∀c o,Ν l5->H6 c=Id->H7 c=Id) (xay none none h65 (λ _ _ _ e=>e)) (λ i σ H7 _ z9=>by show xFi kp z9 (JS.of (xap hlb5 QU))) ?_ ?_)
 ·clear g1;rintro i y σ H7 hi ⟨v4,v5,rfl,h7,kp⟩;have K1:i<R.length:=by show xkX (xco hi) CM (De this hulR)
  have hRi:xad R R[i]:=xso;obtain⟨t,ht,lq,nt,nq,h1,h2⟩:=hub.at hRi;have hy:y=xfc:=by show UV (gl ht) hi (xB5 hi)
  subst hy;have JO:=hwR _ (ER K1);show xbB e1 (∀p,xdL (R.take (i+1))=xzs+xrF R[i].2) (λ p=>by
   rw [Ei,hRi];show xdL (xwK++[R[i]])=_;rw [jO,dR];rfl) R[i] bb;have nq':lq≠l5:=LT (nq (by simp [z]))
  have nt':t≠l5:=LT (nt (by simp [z]))
  refine⟨_,rfl,t,_,_,_,rfl,rfl,Kk.of (xap nt' h1),xhR,lq,rfl,xhe (xap nq' h2),xnw xdf K lq (Wp xjZ) (λ j σ H8=>∃v5:xc0,σ=[xbv,xqa,ST lo,ST l5,ST t,v5]/\H8 l5=Ι (xpA p (xzs+xt1 xjZ j p))/\∀c o,Ν l5->H6 c=Id->H8 c=Id) (xeu v5 (by simpa using h7) kp) (λ j σ H8 _ z9=>by show xqR kp z9 (JS.of (xap nq' h2))) ?_ ?_⟩
  ·rintro j y σ H8 hj ⟨v5,rfl,h8,Zo⟩;show xio q hq hj;have Yv:xCI q:=JO q (D9 hq);have hg:(xpA p (xzs+xt1 xjZ j p))[q]?=SB (occ xwK q+xt1 xjZ j q):=by
    rw [DX,HC Yv];rfl
   have e2:KF (occ xwK q+xt1 xjZ j q)+1=xjL (occ xwK q+xt1 xjZ j q):=Iq _;refine⟨_,rfl,_,rfl,l5,_,_,_,rfl,rfl,JS.of h8,aE hg,_,_,rfl,rfl,?_⟩
   try dsimp only
   show Tm e2 ⟨_,rfl,_,rfl,l5,_,_,q,rfl,rfl,h8,ixN_nat (by rw [CM,Gh];exact Yv),SB q,rfl,?_,λ c o n e=>?_⟩
   ·rw [ac,set_range (f:=λ p=>xzs+xt1 xjZ j p) (f':=λ p=>xzs+xt1 xjZ (j+1) p) (xcl p)];rw [cv hq,Gf,D4]
   ·show Ty n (Zo _ _ n e)
  ·rintro σ H8 ⟨v5,rfl,h8,Zo⟩;rw [CM,DV] at h8;refine xay _ _ ?_ Zo;rw [h8];congr 2;refine HD λ p _=>?_
   rw [e1 p]
 ·rintro σ H7 ⟨v4,v5,rfl,h7,kp⟩;rw [CM,hulR,DV] at h7;refine xyH (k l5 _ H7 Zj (λ c o e=>xap (xoX Zj) (s06 _ _ e)) h7 (N2.perm YU.symm) hln)
universe K31.S
namespace K31.Tb
open PySem L2 QQ W13 BP
seal PE PA PS PSs PT PW PG PI
inductive Mu (vs:KB) (H:Hp) (Q:VK) (JT:XK):Prop
 |mk (a:JB) (L:Fr) (h0:vs=xbU) (h1:Uf=xnn) (h2:xlk) (h3:(xax L (b≤6))) (h4:xjN H):Mu vs H Q JT
def oy:Ps Jaf Jaf eC:=M2
def lT (F:Ε "need_table" eC Jaf)(Y:xks):Α 3 Jaf Mu:=by
 obtain⟨T,⟨_,_,W⟩,⟨_,_,AW⟩,_⟩:=Y;obtain⟨tb,hb⟩:=T.bits;show xcY tm hm T.many oy (λ JN A outer s H vs Q E hr h=>?_)
 intro _;obtain⟨a,L,rfl,hL,hl,h6,k⟩:=h;show xlq (ae (xvC (xqT (xnJ (eG AW W T) AW Os aj (xaF 6 hb tb))) (xcZ kU xk9 xCA))) ⟨_,rfl,a,L,0,6,rfl,hL,λ b z=>by show xaR (h6 b z),_,rfl,xgJ⟩ ⟨_,rfl,a,_,rfl,Ο hL,rfl,_,rfl,A1 ?_ k⟩;rw [CM,hl];rfl
inductive RH (vs:KB) (H:Hp) (Q:VK) (JT:XK):Prop
 |mk (a:JB) (L:Fr) (p ah:Nat) (h0:vs=[SZ,vN p,xzr]) (h1:Uf=xnn) (h2:xlk) (h3:p≤272) (h4:xlm (xli ah p) H):RH vs H Q JT
def MS:Ps ["lengths","place","ahead","most","again"] xBJ k6:=M2
def vo (F:Ε "again_from" k6 xBJ)(T:xbi):xlu xBJ RH:=by
 obtain⟨tm,hm⟩:=T.many;show xcY ta Vn T.mostA MS (λ JN A outer st H vs Q E hr h=>?_)
 intro _;obtain⟨a,L,p,ah,rfl,hL,hl,hp,k⟩:=h;have hn:=xuO;show xuE (xfV 3 MS.nd (xlD xGF T.min Hb (xbo (xaF 66 Vn ta) (xf2 xCA KM))) (xaU 4 MS.nd aj (xA6 (xBR (xcZ dt υ UF) (gz (xcZ bK (xkf xCt) On))) (xij 4 MS.nd xGV)) υ)) ⟨_,rfl,_,_,rfl,rfl,_,_,rfl,χ⟩;obtain⟨m,em,Vo⟩:∃m,xeW (xCh-xlO<66) (xCh-xlO) 66=xhC/\m=min 66 (272-p):=xdt (min 66 (272-p)) (by split<;>lia)
 try dsimp only
 rw [em];clear em;show xwq xbu
 show xoh Qg (jE ah xxy) C6 Qg (xac (λ n σ H2=>∃i,n=m-i/\σ=[xbv,xnW,SB ah,xqa,SB i]/\H2=H/\i≤m/\∀j<i,xaH (xxy) j ah) ⟨m,0,rfl,rfl,rfl,Ω,xjE j hj hj (Jt _)⟩);rintro n σ H2 ⟨i,rfl,rfl,rfl,hi,J7⟩;refine⟨_,rfl,_,rfl,_,_,rfl,rfl,_,rfl,xkd⟩
 ·have h2:i<m:=by have:=xii;exact xus
  have e1:xlO+xhE=xiX i:=Z5;have l1:xmk (p+i):=De (Ez (CZ h2 (xig Vo (Et _ _)))) hl.symm;refine⟨_,rfl,_,rfl,_,rfl,_,_,rfl,rfl,?_⟩
  try dsimp only
  rw [e1];have hgd:xad (xxy) L[p+i]:=by rw [FK,CU l1]
  refine⟨a,_,_,_,rfl,rfl,JS.of hL,xla l1,_,rfl,rfl,_,rfl,xec h3 h3⟩
  ·have h4:L[p+i]=ah:=Kn.mp (C5 h3);refine xac (λ σ' H'=>σ'=[xbv,xnW,SB ah,xqa,SB (i+1)]/\H'=H2) (λ σ' H' z=>⟨m-(i+1),xFs h2,i+1,rfl,xd3,xgV, xeg,xte⟩)
   ·by_cases e:j=i
    ·subst e;rw [hgd,h4]
    ·exact J7 j (D8 (Eh hj) e)
   ·exact⟨_,rfl,_,_,rfl,rfl,rfl,rfl⟩
  ·refine xzf;have h4:xa6 (xxy)≠some ah:=by
    rw [hgd];intro z;exact h3 (xBk (DK z))
   rw [uX J7 h4,Fc (xCQ h2 (xig Vo xiF))] at k;exact k
 ·refine bd xzf;have h2:i=m:=by
   have Lx:¬(xsb xcD xfm):=h1;have:¬(xcD<xfm):=LT (Lx xsf)
   exact Dy hi (Ec (LT (this (xKP z))))
  subst h2;have h5:=qJ J7;have e:xli ah p=i:=Dy (xr2 (xIY ⟨xiF,xpe _ _ (hl▸Qg)⟩) Vo.symm) (xIY ⟨xig Vo xiF,h5⟩);show UV e k k
def xn:∀P,xtJ P≤9*P.length:=by
 intro P;have e:xtJ P=xJx Itm.cost:=ij P;rw [e];clear e
 induction P with
 |nil=>simp
 |cons x P ih=>
  have:x.cost≤9:=by cases x<;>simp [Itm.cost]
  simp;lia
inductive M' (C:JB) (vs:KB) (H:Hp) (Q:VK) (JT:XK):Prop
 |mk (p d a:JB) (N0 T0:Nat) (L:Fr) (h0:vs=[Φ,SZ]) (h1:xkJ C N0 T0) (h2:xbH T0) (h3:Uf=xnn) (h4:xlk) (h5:(xax L (b≤6))) (h6:a≠d) (h7:∀(Pp:xjs) (b:Nat) (H':Hp),Walk L 0 0 Pp 272 b->xjR C H' xKw N0 (T0+xwb)->xcT (∀c o,WF=Id->xai->xfq->xaB=Id)):M' C vs H Q JT
def Kh:Ps ["bits","lengths","place","ahead","again"] ["bits","lengths"] gZ:=M2
def P9 (F:Ε "put_table" gZ ["bits","lengths"])(NT:xbt "need_table" eC Jaf fN Qk)(AF:xbt "again_from" k6 xBJ fA Xz)(B:VF K mg C):xnj ["bits","lengths"] (M' C):=by
 have X:=B.R.X;show Η W B.R.whole S B.needsize;show Η O B.ones Pu B.put;show xgo M B.move T B.T;show xmL GP (xCW (P:=P) (w:=w) base Pu.F S W O M T X) tm hm X.many;obtain⟨ta,hag⟩:=X.again;show xcY tl hle X.leastA Kh (λ JN A outer st H vs Q E hr h=>?_)
 intro _;obtain⟨p,d,a,N0,T0,L,rfl,hB,Tr,ha,hl,h6,nad,k⟩:=h;have Ln:xqb:=PP;have Xb:xaP a:=by
  obtain⟨dx,_,_,_,hp,_⟩:=hB;exact xpX ha (by show τ)
 show xnf (xcz (xbQ (lT NT B.R) Ln NT KM) (xaz 2 Kh.nd aj (xdQ 3 Kh.nd aj (xpu dt On xCA (xdQ 4 Kh.nd (xnJ (vo AF X) AF KM On UF) (xhr oM υ (xaF 3 hle tl) (xcz (xym Pu GP Ln (xbo (xaF 7 hag ta) aj)) (xcz (xym Pu GP Ln (xbo (xf2 υ (xaF 3 hle tl)) aj)) (xij 2 Kh.nd (xbA On υ)))) (xdj 3 Kh.nd (xro KM On) (aB (xym Pu GP Ln (xbo UF aj))) (xij 2 Kh.nd (xhy On))))))))) ⟨_,rfl,a,L,rfl,ha,hl,h6,χ⟩;show xvu;show xwq (xac (λ n σ H2=>∃q ah Pp v4,n=272-q/\σ=[xeV,xbv,SB q,SB ah,v4]/\q≤272/\Walk L 0 0 Pp q ah/\xjR C H2 xKw N0 (T0+xwb)/\(∀c o,WF=Id->xai->xfq->xkl=Id)) ⟨272,0,0,[],none,rfl,rfl,Z9,xmi,hB,λ c o e _ _=>e⟩)
 rintro n σ H2 ⟨q,ah,Pp,v4,rfl,rfl,hq,hw,Lw,kp⟩;refine⟨_,rfl,_,_,rfl,rfl,_,rfl,xec hc hc⟩
 ·have LH:q<272:=by have:=C5 hc;exact xus
  have Zx:xn2:=De LH hl.symm;refine xac (λ σ' H'=>∃q' ah Pp v4,q<q'/\σ'=[xeV,xbv,SB q',SB ah,v4]/\q'≤272/\Walk L 0 0 Pp q' ah/\xjR C H' xKw N0 (T0+xwb)/\(∀c o,WF=Id->xai->xfq->xaB=Id)) (λ σ' H' z9=>by obtain⟨q',ah,Pp,v4,JO,z1,z2,z⟩:=z9;exact⟨272-q',EO (CZ JO z2) JO,q',ah,Pp,v4,rfl,z1,z2,z⟩)
  have Ys:=cL hw;have YM:=xn Pp;have OL:=xap ha Xb nad;have hws:=c7 hw Zx;have hsz:=kS (a:=ah) Zx;show xcg g2 ⟨_,rfl,_,rfl,_,rfl,a,L,q,ah,rfl,OL,hl, xeg,xcG⟩ g2;obtain⟨dx,B2,r2,k2,J9,hd2,br2,OR⟩:=id Lw;have no:∀r k,Ζ (xcM xfo "put"):=λ r k=>xhV
  refine⟨_,rfl,_,_,rfl,rfl,_,rfl,xec h3 h3⟩
  ·have h4:3≤xli ah q:=by have:=C5 h3;exact I0.mp this
   have est:xm1 q ah=.rep (xli ah q):=by show xbk stAt (Dq h4)
   rw [est] at hws hsz;show xbB hr66 (xli ah q≤66) (EG 66 _) (xli ah q) r;refine⟨_,rfl,p,dx,_,rfl,J9,xiG _,p,d,_,_,7,3,rfl,Lw,Z5,Z9,Z9,Sc H3 NX Kc⟩;obtain⟨Mp,B3,r3,k3,Kz,hd3,br3,Xm⟩:=id NX;have er:KF r-3=KF (r-3):=Z5;refine⟨_,rfl,p,Mp,_,rfl,Kz,xiG _,_,rfl,_,_,rfl,rfl,?_⟩
   try dsimp only
   show xnF er ⟨p,d,_,_,r-3,6,rfl,NX,Z5,Z9,(by show r-3<2^6;lia),Sc H4 SY MC⟩ ⟨_,rfl,_,rfl,_,_,rfl,rfl,q+r,ah,Pp++[.rep r],SB r,Z5,?_,by have:=hsz.2;show q+r≤272;have e:(xKn).size=r:=rfl;lia,hws,?_,λ c o e n1 n2=>xiO (xaK xsR n1 n2) n1 n2⟩
   ·have e2:KF q+KF r=KF (q+r):=xLL _
    try dsimp only
    rw [e2];rfl
   ·rw [iA,bQ,aP];have e5:T0+(xwb+xtJ [xKn])=T0+xwb+3+6:=by
     have:xtJ [xKn]=9:=rfl;lia
    show IO e5 SY
  ·have h4:¬3≤xli ah q:=LT (h3 xm6)
   have est:xm1 q ah=.one L[q]:=by show xbk stAt (Dc h4);simp [List.getD,Zx]
   rw [est] at hws;have hx6:L[q]≤6:=h6 _ (ER Zx);show xgD ⟨_,rfl,_,rfl,a,_,_,_,rfl,rfl,xBZ,xla Zx,?_⟩ ⟨_,rfl,p,dx,_,rfl,J9,xiG _,_,rfl,p,d,_,_,L[q],3,rfl,Lw,Z4,Z9,(by show L[q]<2^3;lia),Sc H3 NX Kc⟩ ⟨_,rfl,_,_,rfl,rfl,q+1,L[q],Pp++[.one L[q]],_,Ij _,rfl, xeg,hws,?_,λ c o e n1 n2=>xaK xsR n1 n2⟩;rw [iA,bQ,aP];have e5:T0+(xwb+xtJ [Itm.one L[q]])=T0+xwb+3:=by
    have:xtJ [Itm.one L[q]]=3:=rfl;lia
   show IO e5 NX
 ·have LH:q=272:=by
   have h1:¬(xsb (KF q) 272):=hc;have:¬(KF q<272):=LT (h1 xsf)
   lia
  subst LH;exact k Pp ah H2 hw Lw kp
universe K31.Tb
namespace C9
noncomputable def ed (L:Fr):xcs
 |0=>0
 |j+1=>2*xnI+L.count (j+1)
noncomputable def cdAt (L:Fr) (q s:Nat):Nat:=2*xhw (s-1)+xqO q s
noncomputable def itm (L:Fr) (j p q:Nat):xBa:=if xwh/\(xf0≤j\/(xf0=j+1/\q<p)) then some (xhP xf0,xf0) else none
def row (L:Fr)(j p:Nat):List xBa:=xqw L.length (itm L j p)
def codes (L:Fr):List xBa:=xrI 12 0
def bi (L:Fr)(j p:Nat):xat xzm L.length:=by simp [row]
def c5 {L:Fr}{j p q:Nat}(h:xn2):xaH (xzm) q (itm L j p q):=by simp [row,h]
def vw (L:Fr):xrI 0 0=xDs L.length:=by
 apply EF;intro q;by_cases h:xn2
 ·rw [c5 h,Gv,Dq h];congr 1;show xbk itm (Dc Z5)
 ·rw [DH (by show xnd bi h),DH (by show xnd DI h)]
def wk (L:Fr)(j:Nat):xrI j L.length=xrI (j+1) 0:=by
 apply EF;intro q;by_cases h:xn2
 ·rw [c5 h,c5 h];congr 1;unfold itm;by_cases c:xwh/\(xf0≤j\/(xf0=j+1/\xn2))
  ·rw [Dq c,xzE]
  ·rw [Dc c,Dc Z5]
 ·rw [DH (by show xnd bi h),DH (by show xnd bi h)]
def x9 {L:Fr}{j p:Nat}(h:xaH L p (j+1)):xrI j (p+1)=(xzm).set p (some (xcw p (j+1),j+1)):=by
 have hp:xmk p:=xco h;have hg:xe1 p=j+1:=by rw [Dn,h];rfl
 apply EF;intro q;by_cases e:p=q
 ·subst e;rw [c5 hp,Fy (by show IO bi hp)];congr 1;unfold itm;rw [hg,xzE]
 ·rw [Hk e];by_cases hq:xn2
  ·rw [c5 hq,c5 hq];congr 1;unfold itm;by_cases c:xwh/\(xf0≤j\/(xf0=j+1/\q<p))
   ·rw [Dq c,xzE]
   ·rw [Dc c,Dc Z5]
  ·rw [DH (by show xnd bi hq),DH (by show xnd bi hq)]
def vz {L:Fr}{j p:Nat}(h:L[p]?≠some (j+1)):xrI j (p+1)=xzm:=by
 apply EF;intro q;by_cases hq:xn2
 ·rw [c5 hq,c5 hq];congr 1;unfold itm;have L5:q=p->xf0≠j+1:=by
   rintro rfl e;apply h;rw [Dn,CU hq] at e;show IO (CU hq) (xtX e)
  by_cases c:xwh/\(xf0≤j\/(xf0=j+1/\q<p))
  ·rw [Dq c,Dq Z4]
  ·rw [Dc c,Dc (by
    intro z;apply c;refine xcO xd3;rcases xgV with z|⟨z1,z2⟩
    ·show xaN z
    ·refine xcv z1 ?_;have:xaP q:=λ e=>L5 e z1
     lia)]
 ·rw [DH (by show xnd bi hq),DH (by show xnd bi hq)]
def sM (L:Fr)(j p:Nat):xcw p (j+1)=2*xnI+xqO p (j+1):=rfl
def oX {L:Fr}{j p:Nat}(h:xaH L p (j+1)):xcw (p+1) (j+1)=xcw p (j+1)+1:=by
 unfold cdAt;rw [Ei,h,Gf];simp;lia
def um {L:Fr}{j p:Nat}(h:L[p]?≠some (j+1)):xcw (p+1) (j+1)=xcw p (j+1):=by
 unfold cdAt;rw [Ei,Gf];cases e:L[p]? with
 |none=>simp
 |some z=>
  rw [e] at h;have:z≠j+1:=xcb (h (by rw [q]))
  simp [List.count_singleton,this]
def nV (L:Fr)(j:Nat):xcw L.length (j+1)=xhw (j+1):=by
 rw [sM,DV];rfl
theorem sP (L:Fr)(a:Nat):∀d,2^d*xhw a≤xhw (a+d)
 |0=>by simp
 |d+1=>by
  have:=sP L a d;show _≤2*xhw (a+d)+_;rw [EI];have:2^d*2*xhw a=2*(2^d*xhw a):=by rw [Em (2^d) 2,Ew]
  omega
theorem yY (L:Fr):∀j,xnI+L.length≤L.length*2^j
 |0=>by simp [ed]
 |j+1=>by
  have:=yY L j;have:=xMh (j+1) (l:=L);rw [ed,EI,<-Ew];lia
def si {L:Fr}{q s:Nat}(h:xoc)(hs:xqf):xhP s<xhw s:=by
 show xga j j (s=j+1) ⟨s-1,xG7 hs rfl⟩;have h1:=oX (j:=j) h;have h2:xcw (q+1) (j+1)≤xhw (j+1):=by
  rw [<-nV];unfold cdAt;have:List.count (j+1) (List.take (q+1) L)≤List.count (j+1) (List.take L.length L):=by
   show IO DV (xLB (Ge _ _))
  exact Fh.mpr this
 exact CZ (Di h1.symm) h2
def B1 {L:Fr}{q1 q2 s1 s2:Nat}(h1:xaH L q1 s1)(p1:Δ s1)(lt:s1<s2):xcw q2 s2/2^(s2-s1)≠xcw q1 s1:=by
 have a:=si h1 p1;have b:2^(s2-s1)*xhw s1≤xcw q2 s2:=by
  show xc6 (sP L s1 (s2-1-s1)) (show s1+(s2-1-s1)=s2-1 by omega);rw [show s2-s1=(s2-1-s1)+1 by omega,EI];unfold cdAt;have e:2^(s2-1-s1)*2*xhw s1=2*(2^(s2-1-s1)*xhw s1):=by rw [Em (2^(s2-1-s1)) 2,Ew]
  omega
 have c:xhw s1≤xcw q2 s2/2^(s2-s1):=(Nat.le_div_iff_mul_le xjI).mpr (by show IO Em b);omega
def krf (m:Nat)(L:Fr):Nat:=(xhq (xq1 l (0<l)) l (2^(m-l))).sum
def rV (m:Nat)(L M:Fr):krf m (L++M)=krf m L+krf m M:=by
 unfold krf;rw [DG,C8,FZ]
theorem UA {m:Nat}(hm:xeC m):∀L:Fr,(∀l∈L,l≤m)->xhp L=2^(12-m)*krf m L
 | [],_=>rfl
 |a::L,h=>by
  have ih:=UA hm L λ l z=>xhv l z
  have ha:=xkG a;unfold krf at ih ⊢;by_cases c:0<a
  ·simp only [Jk,c,decide_true,if_true,Ep,Hi];rw [ih,Gw,<-FD];congr 2;exact F1 (Nat.sub_add_sub_cancel hm ha)
  ·simp only [Jk,c,decide_false,Fj,Ii];exact ih
structure Good (L:Fr):Prop where
 ne:xhg 1
 le:xh9 300
 most:∀l∈L,xeC l
 some:∃l∈L,0<l
 room:xhp L≤4096
universe C9
namespace C10
open BP C9
def kle (L:Fr)(j:Nat):Nat:=xhp (xq1 l (l≤j))
theorem fz (p:xjC Nat):∀L:Fr,xhp (L.filter p)≤xhp L
 | []=>P3
 |a::L=>by
  have ih:=fz p L;have e:∀M:Fr,xhp (a::M)=xhp xeH+xhp M:=λ M=>rV 12 xeH M
  by_cases h:NE (p a)
  ·rw [Dx h,e (L.filter p),e L];exact Fh.mpr ih
  ·rw [DE h,e L];exact Im ih
def vD (L:Fr)(j:Nat):kle L (j+1)=kle L j+L.count (j+1)*2^(12-(j+1)):=by
 induction L with
 |nil=>simp [kle]
 |cons a L ih=>
  have e:∀M:Fr,xhp (a::M)=xhp xeH+xhp M:=λ M=>rV 12 xeH M
  unfold kle at ih ⊢;rw [HH];by_cases h1:a≤j
  ·rw [Dx (by simp;exact Ek h1),Dx (by show xrN),e (xq1 l (l≤j+1)),e (xq1 l (l≤j)),ih,Dc (by simp;lia)];simp only [FG];exact F1 (D4 _ _ (_*2^(12-_)))
  ·by_cases h2:a=j+1
   ·subst h2;rw [Dx Z6,DE Z6,e (xq1 l (l≤j+1)),ih,Dq Z6];have:xhp [j+1]=2^(12-(j+1)):=by
     unfold krf;simp
    rw [this,Gu,Nat.one_mul];lia
   ·rw [DE (by simp;exact D8 (xKR h1) λ a=>h2 (id (F1 a))),DE (by show xrN),ih,Dc (by simpa using h2)];simp only [FG]
theorem vC (L:Fr):∀j,xeC j->xnI*2^(12-j)=kle L j
 |0,_=>by
  unfold kle krf;have:(xuw (xq1 l (l≤0)) l (0<l))=[]:=by
   rw [List.filter_filter,ET];intro a _;simp;lia
  rw [this];simp [ed]
 |j+1,h=>by
  have ih:=vC L j (Ff h);rw [vD,<-ih];show(2*xnI+L.count (j+1))*2^(12-(j+1))=_;rw [Gu,show 12-j=(12-(j+1))+1 by lia,EI];congr 1;rw [Em 2,Ew,Em 2]
def Ap {L:Fr}(g:xlj){j:Nat}(hj:xeC j):xnI≤2^j:=by
 have h:=vC L j hj;have h1:kle L j≤4096:=CV (fz _ L) g.room;have h2:2^j*2^(12-j)=4096:=by rw [<-FD,xae (j+(12-j)) 12 (D2 hj)]
 rw [<-h,<-h2] at h1;exact Nat.le_of_mul_le_mul_right h1 xjI
def qM {L:Fr}(g:xlj){q s:Nat}(h:xoc):xeC s:=g.most s (D9 h)
def T6 {L:Fr}(g:xlj){q s:Nat}(h:xoc)(hs:xqf):xhP s<2^s:=
 CZ (si h hs) (Ap g (qM g h))
def vR {L:Fr}{q r s:Nat}(h1:xoc)(h2:xyw r)(e:xhP s=xcw r s):q=r:=by
 have key:∀q r:Nat,xoc->q<r->xqO q s<xqO r s:=λ q r h1 h=>by
  have e1:xyC q 1=L.take q++[s]:=by rw [Ei,h1];rfl
  have e2:xqO (q+1) s=xqO q s+1:=by rw [e1,Gf];simp
  have e3:xqO (q+1) s≤xqO r s:=by
   have:xyC q 1=(L.take r).take (q+1):=by rw [Hn,DL Z4]
   show IO this (xLB (Ge _ _))
  omega
 unfold cdAt at e;rcases Ib q r with h|h|h
 ·have:=key q r h1 h;omega
 ·exact h
 ·have:=key r q h2 h;omega
def dW (L:Fr)(u:xaA)(q:Nat):Prop:=xaH L q u.length/\Δ u.length/\xhP u.length=xzN
def VG (L:Fr)(u:xaA):Prop:=∃q s,xoc/\u.length<s/\xhP s/2^(s-u.length)=xzN
def iS {L:Fr}{u:xaA}{q:Nat}(h:xp5 u q)(b:VG L u):False:=by
 obtain⟨h1,h2,h3⟩:=h;obtain⟨q2,s2,b1,b2,b3⟩:=b;exact B1 h1 h2 b2 (b3.trans h3.symm)
def qb {L:Fr}{u:xaA}{q r:Nat}(h:xp5 u q)(h':xp5 u r):q=r:=vR xbW h'.1 ((xsh).trans (xaY h').symm)
inductive Res where
 |thing (q s:Nat)
 |bad
 |none
def Due (L:Fr)(rest:xaA):Ψ Res
 | .thing q s=>xKb s/\xp5 (rest.take s) q/\∀j<s,xEJ L j
 | .bad=>∃s,xKb s/\(∀j<s,xEJ L j)/\¬xEJ L s/\∀q,¬xp5 (rest.take s) q
 | .none=>∀j≤rest.length,xEJ L j
def Due.uniq {L:Fr}{rest:xaA}{a b:Res}(ha:xyj L a)(hb:xyj L b):a=b:=by
 have tt:∀{q s q' s'},xrc L rest q s->xrc L rest q' s'->s≤s':=λ {q s q' s'} h h'=>by
  show xaX s' s c c
  ·show xiR (iS (Μ h') (xsh s' c))
  ·exact c
 have tb:∀{q s},xrc L rest q s->xyj L .bad->False:=λ {q s} h ⟨r,h1,h2,h3,h4⟩=>by
  rcases Ib s r with c|c|c
  ·exact iS xpx (h2 s c)
  ·subst c;exact h4 q xpx
  ·exact h3 (xsh r c)
 have tn:∀{q s},xrc L rest q s->xyj L .none->False:=λ {q s} h h'=>iS xpx (h' s xbW)
 have bn:xyj L .bad->xyj L .none->False:=λ z9 h'=>by show xqz r h1 h2 h3 h4;exact h3 (h' r h1)
 cases a with
 |thing q s=>
  cases b with
  |thing q' s'=>
   have e:s=s':=Dy (tt ha hb) (tt hb ha);subst e;rw [qb (Μ ha) (Μ hb)]
  |bad=>show xiR (tb ha hb)
  |none=>show xiR (tn ha hb)
 |bad=>
  cases b with
  |thing q' s'=>show xiR (tb hb ha)
  |bad=>rfl
  |none=>show xiR (bn ha hb)
 |none=>
  cases b with
  |thing q' s'=>show xiR (tn hb ha)
  |bad=>show xiR (bn hb ha)
  |none=>rfl
theorem RQ:∀{a b:xaA},a.length=b.length->num a=num b->a=b
 | [],[],_,_=>rfl
 |x::a,y::b,h,e=>by
  have hl:a.length=b.length:=by show xvw
  rw [gH,gH,hl] at e;have h1:=Lz a;show xaM h2 (Lz b) hl h1;have exy:x=y:=by
   cases x<;>cases y<;>first|rfl|(exfalso;simp at e;omega)
  subst exy;rw [RQ hl Z4]
def P7 (u:xaA){k:Nat}(h:k≤u.length):num xJA=xzN/2^(xye k):=by
 have e:xzN=num xJA*2^(xye k)+num xJB:=by
  show xeo (df xJA xJB) Dw C6;show xi3
 show xaM JO (Lz xJB) C6 JO;rw [e,Em,II xjI,Iz JO];rfl
def wd (c:xev):xaA:=dig xhA xhK
def Ye {L:Fr}(g:xlj){q s:Nat}(h:xoc)(hs:xqf):num (wd (xhP s,s))=xhP s:=by
 show xpt wd fk (FN (T6 g h hs))
def kE {L:Fr}{q:Nat}(g:xlj):(xrq)[q]?=if xn2 then some (if xwh then some (xhP xf0,xf0) else none) else none:=by
 unfold codes;by_cases h:xn2
 ·rw [c5 h,Dq h];congr 1;unfold itm;have:xeC xf0:=by
   rw [Dn,CU h];exact g.most _ (ER h)
  by_cases c:xwh
  ·rw [Dq ⟨c,.inl this⟩,Dq c]
  ·rw [Dc (LT (c xd3)),Dc c]
 ·rw [Dc h,DH (by show xnd bi h)]
def qN {L:Fr}(g:xlj){q:Nat}{c:xev}(h:xaH (xrq) q xaV):xaH L q xhK/\Δ xhK/\xhA=xhP xhK:=by
 rw [kE g] at h
 split at h
 ·rename_i hq
  injection h with h
  split at h
  ·rename_i h1
   cases h;refine xdt ?_ h1;rw [Dn,CU hq];rfl
  ·cases h
 ·cases h
def LX {L:Fr}(g:xlj){q s:Nat}(h:xoc)(hs:xqf):xaH (xrq) q (some (xhP s,s)):=by
 have hq:=xco h;have e:xf0=s:=by rw [Dn,h];rfl
 rw [kE g,Dq hq,e,Dq hs]
universe C10
namespace L2
open PySem PySem.Spec PyProof.Rows QQ
section
variable {κ:Type}[DecidableEq κ]
def cg (JV:xpF)(k:κ):xc0:=(JV.find? (xd9 kv (xeR=k))).map (·.2)
def putK (JV:xpF)(k:κ)(v:V):xpF:=
 xbS (xBL kv (xeR=k)) (JV.map (λ kv=>xbV xeR k (xeR,v) kv)) (JV++[(k,v)])
def bV {k:κ}(e:xag=k):Re (cg (p::r) k) xgO:=by simp [cg,Hg,e]
def bS {k:κ}(e:¬xag=k):cg (p::r) k=cg r k:=by simp [cg,Hg,e]
theorem gj (k:κ):∀JV:xpF,(xBL kv (xeR=k))=(xsl).isSome
 | []=>rfl
 |p::r=>by
  rw [List.any_cons];by_cases e:xag=k
  ·simp only [xp6,CY e,Bool.true_or,Option.isSome_some]
  ·rw [xp7,EQ e,Bool.false_or];exact gj k r
theorem oN (k j:κ)(y):∀JV:xpF,cg (JV.map λ kv=>xbV xeR k (xeR,y) kv) j=xhq (xwY j) x (xbV j k y x)
 | []=>rfl
 |p::r=>by
  have ih:=oN k j y r;rw [Ep];by_cases h:xag=k
  ·rw [Dq h];by_cases e:xag=j
   ·rw [bV (p:=(xag,y)) e,xp6,Gk,Dq (e.symm.trans h)]
   ·rw [bS (p:=(xag,y)) e,xp7,ih]
  ·rw [Dc h];by_cases e:xag=j
   ·rw [xp6,xp6,Gk,Dc (LT (h (e.trans z)))]
   ·rw [xp7,xp7,ih]
theorem kL (k j:κ)(y):∀JV:xpF,Ζ xsl->cg (JV++[(k,y)]) j=xbV j k (some y) (xwY j)
 | [],_=>by
  by_cases e:k=j
  ·show xlo e.symm xp6
  ·show xjP (LT (e z.symm)) xp7
 |p::r,hn=>by
  rw [Fw];have hk:¬xag=k:=LT (by show Tl (bV z) hn hn)
  rw [bS hk] at hn;have ih:=kL k j y r hn;by_cases e:xag=j
  ·rw [xp6,xp6,Dc (LT (hk (e.trans z)))]
  ·rw [xp7,xp7,ih]
def jd (JV:xpF)(k j:κ)(y):cg (xHk y) j=xbV j k (some y) (xwY j):=by
 unfold putK;by_cases a:NE (xBL kv (xeR=k))
 ·rw [Dq a,oN];rw [gj] at a;by_cases e:j=k
  ·obtain⟨x,hx⟩:=Option.isSome_iff_exists.mp a;rw [Dq e,e,hx,Gk,Τ]
  ·rw [Dc e];cases xwY j with
   |none=>rfl
   |some x=>rw [Gk,Dc e]
 ·show Tm (Dc a) (kL k j y JV ?_);rw [gj] at a;cases q:xsl with
  |none=>rfl
  |some x=>show UV q a (a rfl).elim
def dE (JV:xpF)(k:κ)(v):xbz xzy (xHa 1):=by
 unfold putK
 split
 ·rw [CM];omega
 ·rw [CN,Df,IN];omega
def Lr.isSome_eq (r:Lr o u):o.isSome=u.isSome:=by
 cases o with
 |none=>cases u with
  |none=>rfl
  |some _=>show xiR xFg
 |some _=>cases u with
  |none=>show xiR xFg
  |some _=>rfl
def KV.val (r:xpG)(k:κ):Lr xsl (xHb vs):=by
 unfold KV at r
 induction r with
 |nil=>exact True.intro
 | @cons p q ps qs h t ih=>
  obtain⟨h1,h2⟩:=h;by_cases e:xag=k
  ·have e':xaZ=k:=xDW;have b:Re (xHb (q::qs)) xbh:=by simp [valueAt,Hg,e']
   rw [xp6,b];exact h2
  ·have e':¬xaZ=k:=LT (e xEt)
   have b:xHb (q::qs)=xHb qs:=by simp [valueAt,Hg,e']
   rw [xp7,b];exact ih
theorem KV.any (r:xpG)(k:κ):(xBL kv (xeR=k))=vs.any (xd9 kv (xeR=k)):=by
 unfold KV at r
 induction r with
 |nil=>rfl
 |cons h t ih=>rw [List.any_cons,List.any_cons,ih,xbW]
def KV.repl (r:xpG)(k:κ)(ry:xhO):
  KV (JV.map λ kv=>xbV xeR k (xeR,y) kv) (vs.map λ kv=>xbV xeR k (xeR,u) kv):=by
 unfold KV at r ⊢
 induction r with
 |nil=>show xg0
 | @cons p q ps qs h t ih=>
  rw [Ep,Ep];show xhh (xjt ?_) h1 h2 h;by_cases e:xag=k
  ·rw [Dq e,Dq xDW];show xaI h1 ry
  ·rw [Dc e,Dc (LT (e xEt))];show xaI h1 h2
def KV.put (r:xpG)(k:κ)(ry:xhO):KV (xHk y) (stored vs k u):=by
 unfold putK stored;rw [r.any k];by_cases e:NE (vs.any (xd9 kv (xeR=k)))
 ·rw [Dq e,Dq e];exact r.repl k ry
 ·rw [Dc e,Dc e];exact Paired.snoc r (xb2 ry)
theorem KV.length {vs:xkL κ JC}(r:xpG):JV.length=vs.length:=Paired.length r
universe s
def pK (r:RelV (kV k) u):NE ((b8 P w).is k u):=by
 cases k with
 |inl i=>show xwt t (xuN (∃t,u=xun i));subst e;exact m6 P w i t
 |inr x=>show xwt t (xuN (∃t,u=xBu x));subst e;exact og P w x t
theorem ku:∀{ks} {us},xh4 xJe->ItemsAre (b8 P w) ks us
 | [],_,r=>by show xhH IY r r .nil
 |k::ks,_,r=>by
  rw [Ep] at r;cases r with
  |cons h t=>exact .cons (pK h) (ku t)
abbrev KT (H:Hp):xls xmA->Ψ (xkL xmA (JB×JC)):=Paired λ p q=>xag=xaZ/\H (Μ q)=xCs xag kV/\RelV xgO (xaY q)
def KT.val (r:xp8 JV xs)(k):Lr xsl ((atKey xs k).map (·.2)):=by
 induction r with
 |nil=>exact True.intro
 | @cons p q ps qs h t ih=>
  obtain⟨h1,_,h2⟩:=h;by_cases e:xag=k
  ·have e':xaZ=k:=xDW;have b:Re (xDm (q::qs)) xbh:=by simp [atKey,Hg,e']
   rw [xp6,b];exact h2
  ·have e':¬xaZ=k:=LT (e xEt)
   have b:xDm (q::qs)=xDm qs:=by simp [atKey,Hg,e']
   rw [xp7,b];exact ih
def KT.repl (r:xp8 JV xs)(k)(ry:xhO):
  xp8 (JV.map λ kv=>xbV xeR k (xeR,y) kv) (xs.map (putAt k u)):=by
 induction r with
 |nil=>show xg0
 | @cons p q ps qs h t ih=>
  rw [Ep,Ep];show xeL (xjt ?_) h1 h2 h3 h;unfold putAt;by_cases e:xag=k
  ·rw [Dq e,Dq xDW];exact⟨h1,h2,ry⟩
  ·rw [Dc e,Dc (LT (e xEt))];exact⟨h1,h2,h3⟩
def KT.put (r:xp8 JV xs)(k)(hb:xal=xcd xBh)(ry:xhO):
  xp8 (xHk y) (storedH xs k b u):=by
 have e:(xBL kv (xeR=k))=(xDm xs).isSome:=by
  rw [gj,(r.val k).isSome_eq,Je]
 unfold putK storedH;rw [e];by_cases q:xjo (xDm xs)
 ·rw [Dq q,Dq q];exact r.repl k ry
 ·rw [Dc q,Dc q];exact Paired.snoc r (xfE hb ry)
def KT.keeps (r:xp8 JV xs)(ht:∀b ys,xal=xsD->xdV=xsD):KT H' JV xs:=
 Paired.mapP r (xra ⟨xd3,ht _ _ (Μ z),xaY z⟩)
def y3 (ok:xiN)(e:Rd H a u):xqs u:=e.ok ok
def pM (ok:xiN)(e:Rd H a xoT):xt8/\ρ (xoE a)/\∃vs,xpG/\xKe P w a vs:=
 show xqs xoT from y3 ok e
def BQ (ok:xiN)(e:xfG a xoT):xt8/\ρ (xoE a)/\∃vs,xpG/\xKe P w a vs:=pM ok xGl
def jG (ok:xiN)(e:Uf=xcd xJe):(xAE P w).is h ks a:=by
 obtain⟨_,its,r,o,h1,h2,n,h3⟩:=(show xqs (.tup xJe) from ok a _ e);exact⟨o,its.toArray,n,h1,h2,h3,by simpa using ku r⟩
def px (ok:xiN)(e:Rd H a xAd):xt8/\ρ (xoE a)/\
  ∃xs,xp8 JV xs/\h.DictOfH (xAE P w) a xs:=by
 obtain⟨z,y,xs,r,o,es,ep,h1,h2,h3,h4,h5⟩:=(show xqs xAd from y3 ok e);refine⟨z,y,xs,r,o,es,ep,h1,h2,h3,h4,LE x hx,h5⟩;have all:∀{l} {m},xp8 l m->xcq m ((xAE P w).is h xgb (Μ x)):=by
  intro l m q
  induction q with
  |nil=>intro x hx;exact nomatch hx
  | @cons p q ps qs hq t ih=>
   intro x hx;show xl8 hx e hx
   ·subst e;exact jG ok (by show xa5 hq.1 (Μ hq))
   ·exact ih x hx
 exact all r x hx
def A7 (ok:xiN)(e:xpT a):xt8/\ρ (xoE a)/\
  ∃xs,xp8 JV xs/\h.DictOfH (xAE P w) a xs:=px ok xGl
def MM (H:Hp)(a:JB)(y:V)(r:xc0):Prop:=
 (∃JV k,Rd H a xoT/\y=kV k/\r=xsl)\/∃JV k b,Rd H a xAd/\y=xmJ/\xal=xcd xBh/\r=xsl
def SK (H:Hp)(a:JB)(y v:V)(H':Hp):Prop:=
 (∃JV k,xfG a xoT/\y=kV k/\xJh/\H'=xvg (.dK xzy))\/
 ∃JV k b,xpT a/\y=xmJ/\xal=xcd xBh/\xJh/\H'=xvg (.dT xzy)
def MM.t {k:xmA}(e:xpT a)(eb:xal=xcd xBh):MM H a xmJ xsl:=.inr ⟨JV,k,b,xGl,rfl,eb,rfl⟩
def SK.t {k:xmA}(e:xpT a)(eb:xal=xcd xBh)(hl:xJh):
  SK H a xmJ v (xvg (.dT xzy)):=.inr ⟨JV,k,b,e,rfl,eb,hl,rfl⟩
def Inv.big {σ:St}(I:Pi):xg7 sysModules:=by
 have h:xg7 mainGlobals:=(xHV).lt;exact Hf Z9 h
def ua {σ:St}(hu:xmU 1<cLine)(I:Pi)(g:MM H a y xab)(ry:xhO)(h:∀w' s',xv6->RelV v w'->Q w' s'):
  xlN (getItem SZ u) Q E s:=by
 rcases g with⟨JV,k,e,ey,l⟩|⟨JV,k,b,e,ey,eb,l⟩
 ·subst ey;show xkk hd vs rel dd (xGo e);show xa9 w' hw S6 (Lr.some_of (by show IO l (rel.val k))) (wpAny_getItem_of xGI dd.mapOf hw (h w' _ xeh S6))
 ·subst ey;cases xpM xw0 ry;show xkk hd xs rel dd (xGp e);obtain⟨w',hw,S6⟩:=Lr.some_of (by show IO l (rel.val k));show xa8 p hp J9 (Option.map_eq_some_iff.mp hw) (wpAny_getItem_heap xGJ xG3 dd hp ?_);show IO J9 (h w' _ xeh S6)
def CG {σ:St}(hu:xmU 1<cLine)(I:Pi)(g:MM H a y o)(ry:xhO)(h:∀s',xv6->xF9 o.isSome s'):
  xlN (compareOp .In u SZ) Q E s:=by
 rcases g with⟨JV,k,e,ey,l⟩|⟨JV,k,b,e,ey,eb,l⟩
 ·subst ey;show xkk hd vs rel dd (xGo e);refine wpAny_in_of xGI hd dd.mapOf ?_;rw [<-xDM k,<-l];exact xf6 xeh
 ·subst ey;cases xpM xw0 ry;show xkk hd xs rel dd (xGp e);refine wpAny_in_heap xGJ xG3 hd dd ?_;show xaM q (xDM k) Je q;rw [<-q,<-l];exact xf6 xeh
def yo {σ:St}(hu:xmU 1<cLine)(I:Pi)(g:MM H a y o)(ry:xhO)(h:∀s',xv6->xF9 (! o.isSome) s'):
  xlN (compareOp .NotIn u SZ) Q E s:=by
 rcases g with⟨JV,k,e,ey,l⟩|⟨JV,k,b,e,ey,eb,l⟩
 ·subst ey;show xkk hd vs rel dd (xGo e);refine wpAny_notIn_of xGI hd dd.mapOf ?_;rw [<-xDM k,<-l];exact xf6 xeh
 ·subst ey;cases xpM xw0 ry;show xkk hd xs rel dd (xGp e);refine wpAny_notIn_heap xGJ xG3 hd dd ?_;show xaM q (xDM k) Je q;rw [<-q,<-l];exact xf6 xeh
def rA {σ:St}(I:Pi)(mu:Mut Uf)(hs:xAi a h')(he:∃q,xq7 a q)(new:xxz (xvg ob) h' a ob):
  xkE (xvg ob) s t':=
 I.write mu xbZ (λ b q hb z=>xog b hb z) he new
def zl (z:xt8)(hd:ρ (xoE a))(rel:xpG)(dd:h'.DictOf (b8 P w) a vs):
  xx8 H' h' a xoT:=⟨z,hd,vs,rel,dd⟩
def tP {σ:St}(hu:xmU 1<cLine)(I:Pi)(g:SK H a y v H')(ry:xhO)(rv:RelV v r)(h:∀s',xj5->xnR s'):
  xlN (setItem SZ u r) Q E s:=by
 rcases g with⟨JV,k,e,ey,l,eH⟩|⟨JV,k,b,e,ey,eb,l,eH⟩
 ·subst ey eH;show xkk hd vs rel dd (BQ I.hok e);have hz:xcV vs.length:=by show xa5 rel.length z
  have hl:xcV (xzy).length:=by have:=dE JV k v;omega
  refine wpAny_setItem_pairs xGI dd λ h' dd' hs=>xf6 ?_
  have he:∃q,xq7 a q:=let⟨q,_,_,hq,_⟩:=dd';⟨q,hq⟩;exact rA I (by show xeY True.intro) hs he (zl hl hd (rel.put k rv) dd')
 ·subst ey eH;cases xpM xw0 ry;show xkk hd xs rel dd (A7 I.hok e);have hz:xmm:=by show xa5 (Paired.length rel) z
  have hl:xcV (xzy).length:=by have:=dE JV k v;omega
  refine wpAny_setItem_heap xGJ xG3 dd λ h' dd' hs=>xf6 ?_
  obtain⟨q,es,ep,hq,h2,h3,h4,_,h5⟩:=dd';refine rA I (by show xeY True.intro) hs ⟨q,hq⟩ ⟨hl,hd,_,(rel.put k eb rv).keeps (Sc c ys ec),q,es,ep,hq,h2,h3,h4,h5⟩;show Ty (aF ec e xhu) ec
def BH (i:JJ):Prop:=∀ov iv,xD7 i ov iv=xJp [ov,iv] ov iv
def yF {T id:String}
  (hl:xLY xFt=pure (xmc id)) (hs:BH slice)
  (h:xk4 (xo1 value) (λ o s₁=>xk4 (xo1 slice) (λ i s₂=>s₂.TypeIs o T/\xxh (getItem o i) s₂) E s₁) E s):
  xd7 (xo1 (xt6 value slice)):=by
 show xhh (Subscript_ (xdl h (λ o s₁ h₁=>xdl h₁ (Sc i s₂ h₂) x x) x x)) hT h₂ h₂;show xjB subscriptTail ?_;show xhF (getitemInPython_of_ne hT.not_modules) (wpAny_specialOf hT hl ?_);have fin:xk4 (xD7 slice o i) (λ r s₃=>xxh (letTemporaryGo value o r>>= λ _=>pure r) s₃) E s₂:=by
  show IO (hs o i) (wpAny_operating (xdl h₂ (λ r s₃ h₃=>CS (wpAny_letTemporaryGo (Dl h₃))) x x))
 first
  |exact xyo fin
  |exact CS (xyo fin)
  |exact CS fin
def oC {σ:St}(I:Pi)(g:MM H a y o):s.TypeIs SZ "dict":=by
 rcases g with⟨JV,k,e,_,_⟩|⟨JV,k,b,e,_,_,_⟩
 ·obtain⟨_,_,vs,_,dd⟩:=xGo e;exact dd.typeIs
 ·obtain⟨_,_,xs,_,dd⟩:=xGp e;exact dd.typeIs
def Bn (td ty:TE):TE:=λ σ H Q=>td σ H λ x H1=>ty σ H1 λ y H2=>∃a v,x=SZ/\MM H2 a y xab/\Q v H2
def CA (ty td:TE):TE:=λ σ H Q=>ty σ H λ y H1=>td σ H1 λ x H2=>∃a o,x=SZ/\MM H2 a y o/\xtF o.isSome H2
def xy (ty td:TE):TE:=λ σ H Q=>ty σ H λ y H1=>td σ H1 λ x H2=>∃a o,x=SZ/\MM H2 a y o/\xtF (! o.isSome) H2
def Bm (td ty tv:TE):TS:=λ D σ H=>tv σ H λ v H1=>td σ H1 λ x H2=>ty σ H2 λ y H3=>∃a H4,x=SZ/\SK H3 a y v H4/\xAc H4
def xg (hu:xmy 1<cLine)(ho:Ρ o td)(hi:Ρ i ty)(hs:BH i):Ρ (xt6 o i) (Bn td ty):=by
 intro JM s σ H Q I h;refine yF PySem.F.slot_dict_getitem.lookup hs (thn (xlG s H _ I h) λ u s1 ⟨x,H1,I1,rx,q1⟩=>xgv (xvS s1 σ H1 _ I1 q1) iv s2);obtain⟨y,H2,I2,ry,a,v,ex,g,q2⟩:=z9;subst ex;obtain rfl:u=xcX:=rx;show xaI (oC I2 g) (ua hu I2 g ry λ w' s3 I3 S6=>⟨v,H2,I3,S6,q2⟩)
def zY (hu:xmy 1<cLine)(hi:Ρ i ty)(ho:Ρ o td):PC X .In i o (CA ty td):=by
 intro JM s σ H Q I h;refine thn (xvS s σ H _ I h) λ iv s1 ⟨y,H1,I1,ry,q1⟩=>xgv (xlG s1 H1 _ I1 q1) u s2
 obtain⟨x,H2,I2,rx,a,ov,ex,g,q2⟩:=z9;subst ex;obtain rfl:u=xcX:=rx;exact CG hu I2 g ry λ s3 I3=>xhn ov.isSome H2 I3 q2
def ux (hu:xmy 1<cLine)(hi:Ρ i ty)(ho:Ρ o td):PC X .NotIn i o (xy ty td):=by
 intro JM s σ H Q I h;refine thn (xvS s σ H _ I h) λ iv s1 ⟨y,H1,I1,ry,q1⟩=>xgv (xlG s1 H1 _ I1 q1) u s2
 obtain⟨x,H2,I2,rx,a,ov,ex,g,q2⟩:=z9;subst ex;obtain rfl:u=xcX:=rx;exact yo hu I2 g ry λ s3 I3=>xhn (! ov.isSome) H2 I3 q2
def rJ (hu:xmy 1<cLine)(ho:Ρ o td)(hi:Ρ i ty)(hv:Ρ value tv)(hs:xEe value (some (.Subscript o i pos')) X.env=xBq):
  xF7 [.Subscript o i pos'] value pos (Bm td ty tv):=by
 intro JM s σ H D I h;refine wpAny_Assign_Subscript (thn (hv JM s σ H _ I h) λ r s1 ⟨v,H1,I1,rv,q1⟩=>thn (xlG s1 H1 _ I1 q1) λ u s2 ⟨x,H2,I2,rx,q2⟩=>xgv (xvS s2 σ H2 _ I2 q2) iv s3) hs;obtain⟨y,H3,I3,ry,a,H4,ex,g,q3⟩:=z9;subst ex;obtain rfl:u=xcX:=rx;exact tP hu I3 g ry rv λ s4 I4=>⟨σ,H4,I4,q3⟩
def wc (h:JI)(hb:sysModules<h.objs.size):xx8 H (h.push (xqv "dict" (.dict #[]))) h.objs.size xhi:=
 ⟨Ω,Gz.mpr (G6 (DZ hb)),[],.nil,_,#[],0,xfk,xfE rfl rfl,rfl,rfl,List.nodup_nil⟩
def zQ:TE:=λ _ H Q=>∀p,xgU->Q Φ (xfd p xhi)
def pz:Ρ (.Dict [] [] pos) zQ:=λ JM s σ H Q I h=>
 wpAny_Dict_empty (xc4 xmb _ (I.laid (xEd (xdR q)) P3 (wc s.heap I.big)) (xf6 xjd))
def vV {K:Frag}{g:TG}{tb:TS}{D:Ends}(Pv:xaQ xbM)(h0:xll 0)(hl:∀i σ H,xnY->xiL->xeB)
  (hs:∀i x p σ H,xde=Χ->xgU->xiL->g Φ σ (xbE H p [.int xcD,x]) λ σ2 H2=>xlF D xeF xeF H2) (hd:∀σ H,xll xs.length->xkq):
  ∃W:xhD xbM,(∃m,xsk σ H)/\∀i m σ H,xsj σ H->
   (xmO (Wz K a) H/\xkq)\/(xnC (Wz K a) H/\∃N,(∀σ' H',xwn->xcH (m'<m/\W (i+1) m' σ' H'))/\∀x H',xm9 (Wz K a) H x H'->xrP H' λ σ2 H2=>xlF D N N H2):=by
 refine xac (λ i m σ H=>m=xgx i/\xnY/\xiL) ⟨xs.length,Z6,Ω,h0⟩;rintro i m σ H ⟨rfl,hi,p⟩;have q:=hl i σ H hi p;by_cases JO:xfb i
 ·refine .inr ⟨⟨xs,xs[i],q,by simp [JO]⟩,xeF,λ σ' H' p'=>xay (xgx (i+1)) xnA JO p',Sc x H' y⟩;obtain⟨p1,x1,Kq,e1,e2,y⟩:=y;subst e1 e2;exact xp4 x1 p1 σ _ (y xs q) Kq p
 ·have e:xoO i:=xsU;show xpD e ⟨⟨xs,q,P3⟩,hd σ H p⟩
universe L2
namespace K31.C
open PySem L2 QQ C9 C10
seal PE PA PS PSs PT PW PG PI
def iV (R:Fr):xjc=xJz (λ b=>xd2) V.int:=by rw [EJ];rfl
def IsL (H:Hp)(x:V)(L:Fr):Prop:=∃a,x=SZ/\Uf=xnn/\∀l∈L,xeC l
def OT (H:Hp)(x:V):Ψ xBa
 |none=>x=.non
 |some c=>∃t,x=xfc/\H t=xcd [vN xhA,vN xhK]
def CL (H:Hp)(xs:KB)(cs:List xBa):Prop:=xB8 cs.length/\∀(i:Nat) x c,xde=Χ->xa6 cs=xaV->OT H x c
def OT.keep {H H':Hp}(h:OT H x c)(k:∀t ys,H t=xsD->H' t=xsD):OT H' x c:=by
 cases c with
 |none=>exact h
 |some c=>show xa9 t e z h ⟨t,e,xmX z⟩
theorem CL.keep (h:xpO H cs)(k:∀t ys,H t=xsD->H' t=xsD):xpO H' cs:=⟨xbW,λ i x c h1 h2=>(xez i x c h1 h2).keep k⟩
theorem CL.set {H:Hp}(h:xpO H cs)(hy:OT H y d):CL H (xs.set p y) (cs.set p d):=by
 refine⟨by rw [IK,IK];exact xbW,λ i x c h1 h2=>?_⟩;by_cases e:p=i
 ·subst e;have hp:xfb p:=by
   have:=xco h1
   rwa [IK] at this
  rw [Fy hp] at h1;show Tl (Fy (by show xa5 xbW hp)) h2 h1;cases h2;exact hy
 ·rw [Hk e] at h1 h2;exact xez i x c h1 h2
theorem CL.none (H:Hp)(n:Nat):CL H (List.replicate n .non) xyA:=by
 refine⟨by rw [DI,DI],λ i x c h1 h2=>?_⟩;rw [Gv] at h1 h2
 split at h1
 ·cases h1;show Tl (Dq (by assumption)) h2 h2;rfl
 ·cases h1
def ndL:(["length"]:xaj).Nodup:=Z8
inductive Ug (vs:KB) (H:Hp) (Q:VK) (JT:XK):Prop
 |mk (a:JB) (L:Fr) (h0:vs=xbU) (h1:Uf=xnn) (h2:(∀l∈L,xeC l)) (h3:xh9 300) (h4:xe0 (Β->xrR (xhp L))):Ug vs H Q JT
def zA:Ps Jaf Jaf wm:=M2
abbrev xa:TE:=S5 (xwv Bv (i*2^j.toNat)) (tC xrU) (xCN (xKD (i-j)) (tC (.int 12)) xsg)
abbrev uT:TT:=oB (xCN (λ i j=>xyB j i) xsg xGN)
def x5 (F:Ε "room_taken" wm Jaf)(T:xbi):xlu Jaf Ug:=by
 show xcY tm hm T.mlen zA (λ JN A outer s H vs Q E hr h=>?_)
 intro _;obtain⟨a,L,rfl,hL,hb,hl300,k⟩:=h;have hn:=xuO;show xgD (xee (xlD (ww hn) T.sum PyProof.Rows.boot_sum (xa7 (iT (N:=["length"]) (g:=xiz) (tt:=uT) (te:=xa) rfl rfl Z8 Z8 Z8 (bP Os)
   (λ fp s H=>xqD 0 ndL) (λ fp s H=>xok cB Os) (λ fp s H=>ap de aj (xf2 xCB Os)))))) (xeZ a (xhe hL) xf7) (oF (K:=K) (a:=a) (l:=l) (xs:=xz5) (n:=1) (g:=xiz) (tt:=uT) (te:=xa)
  (λ i ys H'=>ys=Wp (xhq (xuw (L.take i) b (0<b)) b (2^(12-b)))/\xaq=xen/\Β) (xfE ac xfY) (λ i ys H' _ z9=>by show xoz sm z9 (xBF hL)) ?_ ?_ ?_ ?_ ?_)
 ·rintro i x ys σ H' hx ⟨rfl,hl,sm⟩ hσ;show xio b KH hx;have hb12:=xhG xGE;have K1:xmk i:=xco KH;show xga u0 u0 (σ=[u0]) (match σ,hσ with| [u0],_=>xbn u0)
  have hlen:xbz (xuw (L.take i) b (0<b)) 300:=CV (Ir _ _) (by show IO Dd (xpe _ _ hl300));refine⟨_,rfl,_,_,rfl,rfl,_,rfl,?_⟩;rw [cv KH,DG]
  try dsimp only
  by_cases h0:0<b
  ·show Tm (Dq (xzK (xcQ<xd2) (IL.mpr h0))) ⟨_,rfl,_,_,rfl,rfl,_,_,rfl,rfl,xvZ Z5 Z9,hl,bw (by rw [CM,CM];exact xc9 hlen),rfl,?_,ac,xs7⟩
   ·rw [Dx (by show xC9),C8,C8];have e1:xcr*2^xkh (SL 12) xd2=KF (2^(12-b)):=by
     rw [show xkh (SL 12) xd2=12-b by lia,Int.one_mul];simp
    try dsimp only
    rw [e1];rfl
   ·show xl2 xph
  ·show Tm (Dc (xef z (C5 z) Z5)) ⟨rfl,?_,?_,sm⟩
   ·show xbD (DE (by show xC9))
   ·exact hl
 ·rintro ys H' ⟨rfl,hl,sm⟩;rw [CM,DV,iV] at hl;refine xay l _ xBT ?_;have e:(xhq (xhq (xq1 b (0<b)) b (2^(12-b))) b xd2).sum=KF (xhp L):=by
   unfold krf;generalize xhq (xq1 b (0<b)) b (2^(12-b))=Y
   induction Y with
   |nil=>rfl
   |cons y Y ih=>simp only [Ep,Hi];show xbD ih
  show xeY (xcF sm)
 ·exact λ x σ H A B h z=>xiM
 ·exact λ σ H A B h z9=>by obtain⟨v,e1,i,j,e2,e3,c,e4,z⟩:=z9;exact⟨v,e1,i,j,e2,e3,c,e4,xiM⟩
 ·exact λ σ H A B h z9=>by obtain⟨v,e1,i,j,e2,e3,i2,j2,e4,e5,c,z⟩:=z9;exact⟨v,e1,i,j,e2,e3,i2,j2,e4,e5,c,xiM⟩
inductive Ob (vs:KB) (H:Hp) (Q:VK) (JT:XK):Prop
 |mk (x:V) (L:Fr) (h0:vs=xbl) (h1:IsL H x L) (h2:xlj) (h3:xwr):Ob vs H Q JT
def ul:Ps Jaf Jaf eM:=M2
structure Ww (K:Frag)(mg:W1):Prop where
 X:xbi
 whole:xBl ca Jab
 arewhole:TD "are_whole" cu Jab
 things:TD "are_of_things" fq xq0
 room:TD "room_taken" wm Jaf
def rf {P:JE}{w:JF}(F:Ε "need_lengths" eM Jaf)(Y:Ww K mg):xnj Jaf Ob:=by
 obtain⟨T,⟨_,_,W⟩,⟨_,_,AW⟩,⟨_,_,Th⟩,⟨_,_,Ro⟩⟩:=Y;show xcY tm hm T.mlen ul (λ JN A outer s H vs Q E hr h=>?_)
 intro _;obtain⟨x,L,rfl,⟨a,rfl,hB,hb⟩,G,k⟩:=h;show xnf (ab (xpa (xbe (S.Ou Th AW W T) hr Th Os xCB))
  (ae (xgW cB (xdy (x5 Ro T) Ro Os) (ap de aj xCB)))) ⟨_,rfl,a,L,12,rfl,hB,hb,G.ne,G.le,G.some,_,rfl,bd χ⟩;show SC ⟨_,rfl,a,L,rfl,hB,hb,G.le,LE H' s1⟩ ⟨_,_,rfl,rfl,⟨Z9,Z9,Z9⟩,_,_,rfl,rfl,_,rfl,xCz (xcF s1)⟩;exfalso;have:=xbK;have g:=G.room;have e:xcr*2^(SL 12).toNat=4096:=Z9;show xmj e;lia
def RN {α:Type}(x:α)(k):xi6 k xbl=List.replicate k x:=by
 induction k with
 |zero=>rfl
 |succ k ih=>rw [Ef,Es,ih,Ef];rfl
def wP (hl:xh9 300)(hj:xeC j):xnI≤1228800:=by
 have h:=yY L j;have h1:2^j≤2^12:=xv1 hj;have h2:L.length*2^j≤300*4096:=Nat.mul_le_mul hl h1;lia
def xN (L)(j):xcw 0 (j+1)=2*xnI:=by show xbD sM
def ixN_nat (h:i<n):Re (ixN n xhE) i:=by
 show xbk ixN xzE;show xvw
inductive Of (vs:KB) (H:Hp) (Q:VK) (JT:XK):Prop
 |mk (x:V) (L:Fr) (h0:vs=xbl) (h1:IsL H x L) (h2:xlj) (h3:∀l xs H',Θ->Β->xaq=xb8->xpO H' xrq->xak):Of vs H Q JT
def Kj:Ps ["lengths","codes","code","size","place","length"] Jaf gq:=M2
def NA {P:JE}{w:JF}{mg:W1}{base:JI}{f fN:JB}{fd Qk:JG}(F:Ε "codes_of" gq Jaf)(N:xbt "need_lengths" eM Jaf fN Qk)(Y:Ww K mg):xsF Jaf Of:=by
 have T:=Y.X;show xcY tm hm T.mlen Kj (λ JN A outer st H vs Q E hr h=>?_)
 intro _;obtain⟨x,L,rfl,⟨a,rfl,hB,hb⟩,G,k⟩:=h;show xnf (xcz (xdy (rf N Y) N Os) (xaz 1 Kj.nd (xzh gR (xa7 cU) xk9) (xaU 2 Kj.nd aj (xlg (gW Z7 T.range (xbo aj (xhy xCB))) 3 Kj.nd (xdQ 2 Kj.nd (xfu de On) (xz7 Du (lL Z7 T.enum xgA) (xDa (xmW 4 Kj.nd (xmW 5 Kj.nd gC))) (ae (xhr bK xaL UF (ab (qp (xjF On UF) (pQ KM υ jU))
     (xij 2 Kj.nd (xhy On))) az))))) KM))) ⟨_,rfl,_,L,rfl,xeu a hB hb,G,xdX H1 s1⟩;have Lo:=G.le;refine xeq (xem (by show xcR 1) l0 n0)
 have s2:=xas [.non] n0;show xbI ⟨_,rfl,a,_,rfl,Ο (xca (xch hB)),l0,_,_,rfl,rfl,ac,Gi (2^63) _,by show xes (xC1 Lo),(by rw [CM,Dz];exact a9 (by show 1*_≤_;lia)),xdX l nl⟩;have s3:=xas xBs nl;have ez:xCO (xmt xz5) [V.non]=xBs:=by rw [CM,Dz,RN]
 try dsimp only
 rw [ez];have Mn:(xej (xby H1 l0 [.non]) xBs) l=Ι xBs:=ac;have nlH:Θ:=xoM xe4;have QO:=xxI s3;show xbb (xby H1 l0 [.non]) l xBs H3;show xwq (xeq ⟨_,_,rfl,rfl,1,13,rfl,⟨Z5,Z5,Z5,Z5⟩,?_⟩)
 have en:xkh (SL 13) 1=12:=Z9
 try dsimp only
 show Tm en (xs5 xdf 1 12 (λ j σ H2=>∃v3 v4 v5:xc0,∃xs:KB,σ=[xbv,xgQ,SB xnI,v3,v4,v5]/\xhL=xb8/\xpO H2 (xrI j 0)/\xiq) ⟨none,none,none,_,rfl,Mn,by show IO vw (CL.none _ _),QO⟩ ?_ ?_)
 ·clear g1 Mn QO s3 nl;rintro j σ H2 hj ⟨v3,v4,v5,xs,rfl,Kg,hC,sm⟩;have eb:xcr+xvy=xjL j:=Z5
  try dsimp only
  rw [eb];have hes:=wP Lo (show xeC j from Ff hj);show xcg g2 ⟨_,rfl,_,_,rfl,rfl,xvZ Z5 Z5,xcG⟩ g2;have ec:KF xnI*2^xFS=KF (xcw 0 (j+1)):=by
   rw [xN,xdw (xFS) 1];lia
  try dsimp only
  show Tm ec ⟨_,rfl,a,_,rfl,xBF hB,vV (D:=xdf) (K:=K) (a:=a) (xs:=xz5) (λ p σ H'=>∃v4 v5:xc0,∃xs:KB,σ=[xbv,xgQ,SB (xcw p (j+1)),SB (j+1),v4,v5]/\xaq=xb8/\xpO H' xzm/\Β)
   ⟨v4,v5,xs,rfl,Kg,hC,sm⟩ (λ i σ H' _ z9=>by obtain⟨_,_,_,_,_,_,e⟩:=z9;exact JS.of (e _ _ hB)) ?_ ?_⟩
  ·rintro p y t σ H' hp ht ⟨v4,v5,xs,rfl,Kg,hC,sm⟩;show xio b KH hp;have L0:xmk p:=xco KH;have st:=xoy [vN p,xdz] ht;show SC ⟨t,_,rfl,xBB,rfl,_,_,rfl,_,_,rfl,rfl,?_⟩ ⟨_,rfl,_,rfl,rfl,_,rfl,xkd⟩
   ·have e1:b=j+1:=Kn.mp xii;rw [e1] at KH st ⊢;refine xon g3 (xeZ _ (by show xeE) (LE q nq))
    have sq:=xoy [vN (xcw p (j+1)),vN (j+1)] nq;have Vp:=sq _ _ (xd6 Kg);have hCq:xpO _ xzm:=hC.keep λ t ys e=>sq _ _ (xd6 e)
    show xe6 ⟨_,rfl,_,rfl,l,xs,_,p,rfl,rfl,Vp,ixN_nat (by rw [hC.1,bi];exact L0),g3 _ _ ?_⟩ g3;refine⟨_,rfl,_,_,rfl,rfl,?_⟩;have ec2:KF (xcw p (j+1))+1=KF (xcw (p+1) (j+1)):=by show xam (oX KH)
    try dsimp only
    show Tm ec2 ⟨xnW,SB (j+1),xs.set p xva,rfl,ac,?_,xs7⟩
    ·show Tm (x9 KH) ((hCq.set (y:=xva) (d:=some (xcw p (j+1),j+1)) (xnc q ac)).keep (xda t2 ys))
     show xgj (xkn Vp (by show τ))
    ·show xf9 nlH (sq _ _ (xd6 xph))
   ·have e1:L[p]?≠some (j+1):=by
     rw [KH];show τ;exact h1 xmE
    refine⟨xnW,xkp,xs,?_,xd6 Kg,?_,sm.trans st⟩
    ·rw [um e1];rfl
    ·show IO (vz e1) (hC.keep λ t ys e=>xd6 e)
  ·rintro σ H' ⟨v4,v5,xs,rfl,Kg,hC,sm⟩;rw [CM] at hC ⊢;rw [nV];show UV wk hC ⟨_,_,_,xs,rfl,Kg,hC,sm⟩
 ·rintro σ H2 ⟨v3,v4,v5,xs,rfl,Kg,hC,sm⟩;exact xyH (xdE xs H2 nlH sm Kg hC)
def u1 (r:xqj A):xmU 1<cLine:=by show xaR r.un
abbrev kk (a b:Nat):xmA:=[.inl (KF a),.inl xd2]
def MZ:kk a b=kk c d<->a=c/\b=d:=by
 constructor
 ·intro h;injection h with h1 h2
  injection h2 with h2 _
  injection h1 with h1
  injection h2 with h2
  lia
 ·rintro⟨rfl,rfl⟩;rfl
def AY:¬(xEM="beginnings"):=Z8
noncomputable def fC (d e:JB):xex:=[("things",xm2),("beginnings",xk7)]
def gF (d e):xi5 "beginnings" e (xxo d [])=xqi:=by
 show(xc7 (xEM="beginnings") xEM d [xt4 "beginnings" e])=_;rw [Dc AY];rfl
def AB (d e):xcM xqi "things"=xlJ:=by
 rw [<-gF,ao,Dc AY,ao,Τ]
def B5 (d e):xcM xqi "beginnings"=ST e:=by
 rw [<-gF,ao,Τ]
def fC_no (d e){m:Str}(h1:xdA (m="beginnings"))(h2:xdA (m="things")):xkW xqi m:=by
 rw [<-gF,ao,xng,ao,xlt];rfl
def mZ (L:Fr)(n:Nat)(JV:xls xmA):Prop:=xbx JV.length/\∀a b,(∀q,q<n->xaH L q b->xdd->xhP b=a->xpg a b=SB q)/\((∀q,q<n->xaH L q b->xdd->xhP b≠a)->Ζ (xpg a b))
def m7 (L:Fr)(n:Nat)(JV:xls xmA):Prop:=JV.length≤12*n/\∀a b,xjo (xpg a b)<->∃q s,q<n/\xoc/\b<s/\xhP s/2^(s-b)=a
structure K4 (C:JB)(H:Hp)(p d e:JB)(L:Fr):Prop where
 ob:∃dx,xa2=xmR d e
 th:∃JV,xpT d/\mZ L L.length JV
 bg:∃JV,xpT e/\m7 L L.length JV
structure CRc (K:Frag)(mg:W1)(C:JB):Prop where
 cl:xgc
 nT:xcE "things"
 nB:xcE "beginnings"
inductive Uo (C:JB) (vs:KB) (H:Hp) (Q:VK) (JT:XK):Prop
 |mk (p d e dx:JB) (c s:Nat) (JV:xls xmA) (h0:vs=[Φ,xgR,xci]) (h1:xa2=xmR d e) (h2:xpT e) (h3:JV.length≤5000) (h4:xeC s) (h5:∀H' MJ,Re (H' e) (.dT MJ)->MJ.length≤xHa s->(∀a b:Nat,xjo (cg MJ (kk a b))<->xjo (xpg a b)\/(b<s/\c/2^(s-b)=a))->xcT (∀x o,xgZ=Id->x≠e->H' x=Id)):Uo C vs H Q JT
def Ux:Ps ["self","code","length","size"] (xmC "code" "length") vg:=M2
def xA (F:Υ "keep_beginnings" "CodeReader.keep_beginnings" vg)(T:CRc K mg C)(X:xbi):xey (xmC "code" "length") (Uo C):=by
 show xau Ux (λ JN A outer st H vs Q E hr h=>?_);obtain⟨p,d,e,dx,c,s,JV,rfl,hp,he,hl,hs,q⟩:=h;have Yl:p≠e:=aF hp he (by show τ);show xbf (ae (xlg (xxE Z7 xx7) 3 Ux.nd (ae (rJ xCd XL (xjF (ap gU KM (xf2 On UF)) UF) dl rfl)))) ⟨_,rfl,KF s,rfl,Z4,Z4,?_⟩
 try dsimp only
 show Tm Dz (xs5 xdf 0 s (λ i σ H2=>∃v MJ,σ=[xeV,SB c,xhN,v]/\Re (H2 e) (.dT MJ)/\MJ.length≤xHa i/\
   (∀a b,xjo (cg MJ (kk a b))<->xjo (xpg a b)\/(b<i/\c/2^(s-b)=a))/\∀x o,xgZ=Id->x≠e->H2 x=Id) ⟨none,JV,rfl,he,Z4,λ a b=>⟨.inl,LT (z.elim id (xef z xd3 Z4))⟩,λ x o e _=>e⟩ ?_ ?_)
 ·rintro i σ H2 hi ⟨v,MJ,rfl,Tg,Kg,hv,OI⟩;have ei:xcQ+xhE=xhE:=Z4
  try dsimp only
  rw [ei];have J9:=OI _ _ hp Yl;show SC ⟨_,rfl,p,C,dx,_,_,rfl,J9,T.cl,T.nB,B5 _ _,?_⟩ ⟨_,rfl,_,rfl,_,rfl,_,_,rfl,rfl,_,_,rfl,rfl,(by show xcQ≤KF s-xhE;lia),_,rfl,(by show xeE),LE t nt⟩;have e1:KF c/2^xkh (KF s) xhE=KF (c/2^(s-i)):=by
   show xbD (show xkh (KF s) xhE=s-i by lia)
  try dsimp only
  rw [e1];have net:e≠t:=ad Tg nt;show SC (xay e _ (SK.t (b:=t) (k:=kk (c/2^(s-i)) i) (by show Ty net Tg) ac (xpm (show _≤6000 from Z4))) ?_) ⟨_,_,rfl,ac,CV (dE _ _ _) Z4,LE a b,λ x o ex hx=>?_⟩
  ·rw [jd];by_cases c1:kk a b=kk (c/2^(s-i)) i
   ·rw [Dq c1];show xn1 (MZ.mp c1) ⟨λ _=>.inr (xbn Z4),xfH⟩
   ·rw [Dc c1,hv];constructor
    ·rintro(z|⟨z1,z2⟩)
     ·show xaN z
     ·exact xcv Z4 z2
    ·rintro(z|⟨z1,z2⟩)
     ·show xaN z
     ·refine xcv ?_ z2;show xaX b i h h
      ·exact h
      ·show xfs (b=i) Z4;show xaW (MZ.mpr (xbn z2.symm)) c1
  ·have h1:=OI x o ex hx;rw [ag hx,xkM h1 nt];exact h1
 ·rintro σ H2 ⟨v,MJ,rfl,Tg,Kg,hv,OI⟩;exact q _ _ Tg Kg hv OI
def yb (L):mZ L 0 []:=xpP (λ a b=>⟨xjE q hq hq Z4,xfH⟩)
def yj (L):m7 L 0 []:=by
 refine⟨Ω,λ a b=>⟨xcl h,λ z9=>by obtain⟨q,s,hq,_⟩:=z9;show xaW hq Z4⟩⟩;cases h
def yE (h:mZ L n JV)(h0:∀s,xyw n->¬xqf):mZ L (n+1) JV:=by
 refine⟨CV xbW xjG,λ a b=>⟨λ q hq hb h1 hc=>?_,λ hn=>(xez a b).2 λ q hq=>hn q Z4⟩⟩;show xaX q n z z
 ·exact(xez a b).1 q z hb h1 hc
 ·show xfs (q=n) Z4;show xaW h1 (h0 b hb)
def yL (h:m7 L n JV)(h0:∀s,xyw n->¬xqf):m7 L (n+1) JV:=by
 refine⟨CV xbW Z4,λ a b=>xg6 h a b ⟨λ z9=>by show xvF q s hq r;show xaC q s Z4 r,xcl z9⟩⟩;obtain⟨q,s,hq,h1,h2,h3⟩:=z9;show xaX q n z z
 ·exact⟨q,s,z,h1,h2,h3⟩
 ·show xfs (q=n) Z4;show xaW Z4 (h0 s h1)
def AH (h:mZ L n JV)(hs:xyw n)(h1:xqf):mZ L (n+1) (putK JV (kk (xcw n s) s) xd0):=by
 refine⟨CV (dE _ _ _) (by show xaR xbW),λ a b=>⟨λ q hq hb KH hc=>?_,xcl hn⟩⟩
 ·rw [jd];by_cases c:kk a b=kk (xcw n s) s
  ·show xcI rfl (MZ.mp c);rw [Τ,vR hb hs hc]
  ·rw [Dc c];show xaX q n z z
   ·exact(xez a b).1 q z hb KH hc
   ·have:q=n:=Z4;show xba this hs hb hb;show xaW (MZ.mpr (xbn hc.symm)) c
 ·rw [jd,Dc]
  ·exact(xez a b).2 λ q hq=>hn q Z4
  ·intro c;show xn1 (MZ.mp c) (hn n Z4 hs h1 rfl)
def AU (h:m7 L n JV)(hs:xyw n)(hs12:xeC s)(hl:MJ.length≤xHa s)
  (hv:∀a b:Nat,xjo (cg MJ (kk a b))<->xjo (xpg a b)\/(b<s/\xcw n s/2^(s-b)=a)):m7 L (n+1) MJ:=by
 refine⟨by show xaR xbW,λ a b=>(hv a b).trans ?_⟩;rw [xez a b];constructor
 ·rintro(⟨q,r,hq,z⟩|⟨z1,z2⟩)
  ·show xaC q r Z4 z
  ·exact⟨n,s,Z4,hs,z1,z2⟩
 ·rintro⟨q,r,hq,z1,z2,z3⟩;show xaX q n z z
  ·show xaN ⟨q,r,z,z1,z2,z3⟩
  ·have:q=n:=Z4;show xba this hs z1 z1;exact xcv z2 z3
inductive spCInit (C:JB) (vs:KB) (H:Hp) (Q:VK) (JT:XK):Prop
 |mk (p dx a:JB) (L:Fr) (h0:vs=[Φ,SZ]) (h1:xa2=xwc) (h2:Uf=xnn) (h3:xlj) (h4:∀(d e:JB) (H':Hp),XV d->XV e->xnT H' p d e L->xcT (∀b o,xal=Id->xgd->xdV=Id)):xFk vs H Q JT
def scCInit:Ps ["self","lengths","place","pair"] xID sCInit:=M2
structure Mks (K:Frag)(mg:W1)(C:JB):Prop where
 X:xbi
 Y:Ww K mg
 need:TD "need_lengths" eM Jaf
 cof:TD "codes_of" gq Jaf
def bt (R:Fr):xaA:=BP.dig xrj Γ
def Kp (R):xat xed Γ:=BP.JZ _ _
theorem rT (n):∀m i,i<m->xad (BP.dig n m) (xcp (n/2^(m-1-i)%2) 1)
 |m+1,0,_=>by
  show Re (some _) _;rfl
 |m+1,i+1,h=>by
  show xa6 (BP.dig n m)=_;rw [rT n m i Z4,show m+1-1-(i+1)=m-1-i by lia]
def zg (h:t+s<Γ):∃b,xF8 (s+1)=xsY++xft/\xrj/2^(Γ-(t+s+1))%2^1=b.toNat:=by
 refine xac (xcp (xrj/2^(Γ-1-(t+s))%2) 1) ?_
 ·rw [Ei,FK];show xbk bt (rT _ _ _ h);rfl
 ·rw [show Γ-(t+s+1)=Γ-1-(t+s) by lia,Nat.pow_one];have h2:=FV (xrj/2^(Γ-1-(t+s))) (show 0<2 from Z9);by_cases c:xrj/2^(Γ-1-(t+s))%2=1
  ·rw [CY c,c];rfl
  ·rw [EQ c];show _=0;lia
def CD:¬(xEM="held"):=Z8
def K4.keep (h:xnT H p d e L)(s:∀c o,WF=Id->(c=p\/c=d\/c=e)->xaB=Id):xnT H' p d e L:=by
 obtain⟨⟨dx,h1⟩,⟨k1,h2,NN⟩,⟨k2,h3,U0⟩⟩:=h;exact⟨xdr (xgi h1 xbZ),⟨k1,xhm _ _ h2 xbZ,NN⟩,⟨k2,xhm _ _ h3 xFe,U0⟩⟩
def K4.same (h:xnT H p d e L)(s:Β):xnT H' p d e L:=h.keep λ c o e _=>xs6
def yr (h:m7 L L.length JV)(u):xjo (xpg xJC u.length)<->VG L u:=by
 rw [xez];constructor
 ·rintro⟨q,s,_,h1,h2,h3⟩;exact⟨q,s,h1,h2,h3⟩
 ·rintro⟨q,s,h1,h2,h3⟩;exact⟨q,s,xco h1,h1,h2,h3⟩
def x4 (h:mZ L L.length JV)(u):(∀q,xp5 u q->xpg xJC u.length=SB q)/\((∀q,¬xp5 u q)->Ζ (xpg xJC u.length)):=by
 refine⟨λ q ⟨h1,h2,h3⟩=>(xez _ _).1 q (xco h1) h1 h2 h3,λ hn=>(xez _ _).2 λ q _ h1 h2 h3=>hn q ⟨h1,h2,h3⟩⟩
def Lh:Ps ["self","reader","begin","code","size"] xIM qx:=M2
universe K31.C
namespace K31
open PySem L2 QQ W17 W16 BP
def th:xoS Pc
 | .sg s=>s
 | .cp _ z=>253+z
noncomputable def cP (L:Fr):Pc->xaJ
 | .sg s=>[(xtO s xvG,xvG)]
 | .cp b z=>[(xtO (253+z) (xe1 (253+z)),xe1 (253+z)),(b,8)]
def hP (L:Fr)(P:xek):xaJ:=P.flatMap (cP L)
def cn (Q:Fr):Fr:=xuH (xcb xxF)
def uM (L)(P Q:xek):xo7 (P++Q)=xo7 P++xo7 Q:=by simp [hP]
def rP (L)(x)(P):xo7 (x::P)=cP L x++xo7 P:=by simp [hP]
def Au (L)(x:Pc):xo7 xbl=cP L x:=by simp [hP]
def c8 (Q:Fr):xat xgy 272:=by simp [cn]
theorem GR.all:∀{P} {B},GR B P->xcq P (∃B',fE B' x)
 |y::P,B,h,x,hx=>by
  show xei hx hx
  ·show xaI B xbW
  ·exact GR.all xez x hx
def xb (h:fE B x):th x<272:=by
 cases x with
 |sg s=>have:xbN s:=h;show s<272;exact xpm (Dr this)
 |cp b z=>
  obtain⟨_,_,_,_,h5⟩:xdd/\xnK b/\xfI b/\3≤z/\z≤18:=h;show 253+z<272;lia
structure XD (L:Fr)(Pp:xek):Prop where
 good:xuC
 len:xlk
 six:xax L (b≤6)
 has:xcq Pp (Δ (xlb x))
def XD.at (h:XD L Pp)(hx:x∈Pp)(g:fE B x):xaH L (th x) (xlb x)/\Δ (xlb x)/\xlb x≤6:=by
 have hl:xmk (th x):=by show IO h.len (xb g)
 have e:xaH L (th x) (xlb x):=by rw [Dn,CU hl];rfl
 exact⟨e,h.has x hx,h.six _ (D9 e)⟩
def yl (h:XD L Pp)(g:GR W Pp):Good xr1:=λ q hq=>by
 obtain⟨x,hx,hq⟩:=Jl.mp hq;obtain⟨B',gx⟩:=g.all x hx;obtain⟨e1,e2,e3⟩:=h.at hx gx;have cl:=C10.T6 h.good e1 e2;cases x with
 |sg s=>
  show xib (show q∈ [(xtO s xvG,xvG)] from hq) cl
 |cp b z=>
  show xei (show q∈ [(xtO (253+z) (xe1 (253+z)),xe1 (253+z)),(b,8)] from hq) hq
  ·exact cl
  ·rw [DF.mp hq];obtain⟨_,h2,_,_,_⟩:xdd/\xnK b/\b≤B'.length/\3≤z/\z≤18:=gx;show b<2^8;exact Fg h2
def xG (six:xax L (b≤6))(x):xCe L x≤14:=by
 have six:∀n,xe1 n≤6:=λ n=>by
  rw [Dn];cases e:L[n]? with
  |none=>exact Ω
  |some y=>exact six y (D9 e)
 cases x with
 |sg s=>have:=six s;show xvG+0≤14;exact xc9 this
 |cp b z=>have:=six (253+z);show xe1 (253+z)+(8+0)≤14;exact Nat.add_le_of_le_sub Z9 this
theorem lf (six:xax L (b≤6)):∀P:xek,xxQ P≤14*P.length
 | []=>P3
 |x::P=>by
  rw [rP,aP,Df];have:=lf six P;show xaR (xG six x)
theorem iQ:∀{It:xqW} (a:Nat),(xF4 It x)->xo8≤3*xE4 a
 | [],_,_=>P3
 |x::It,a,h=>by
  have hx:=h x Z6;have e:W13.puts (x::It)=x.puts++xi8:=by simp [W13.puts]
  rw [e,aP];cases x with
  |one y=>
   have ih:=iQ (It:=It) y λ z hz=>h z (by simp [hz])
   show(3+0)+xo8≤3*(xE4 y+1);lia
  |rep r=>
   have ih:=iQ (It:=It) a λ z hz=>h z (by simp [hz])
   have hr:3≤r/\r≤66:=hx;show(3+(6+0))+xo8≤3*xbq (xox r) (xoB a);rw [CN,DI];lia
def sW (hl:xlk){It:xqW}(h:xxm 0 0 It 272 b):xoB 0=L:=by
 have:=W13.M3 h;rw [F9,D3,<-hl,DV] at this;exact this.symm
theorem sE:∀{P P':xqW} {p a b b':Nat},xxm p a P L.length b->xxm p a P' L.length b'->P=P'
 | [],[],_,_,_,_,_,_=>rfl
 | [],x::P',p,a,b,b',h,h'=>by have:=xbW;show xaR h'.1
 |x::P,[],p,a,b,b',h,h'=>by have:=h'.1;show xaR xbW
 |x::P,x'::P',p,a,b,b',h,h'=>by
  obtain⟨_,e,h⟩:=h;obtain⟨_,e',h'⟩:=h';subst e;subst e';rw [sE h h']
theorem kZ (a)(Q):∀n,(xqw n (xcb (xyi (a::Q)))).sum=(xqw n (xcb xxF)).sum+if a<n then 1 else 0
 |0=>rfl
 |n+1=>by
  rw [Ju,C8,FZ,C8,FZ,kZ a Q n];simp only [Ep,IY,Hi,List.sum_nil,HH];by_cases e:a=n
  ·subst e;rw [Dc xmT,Dq xrV];simp;lia
  ·have:ρ (a==n):=by simp [e]
   rw [this];by_cases l:a<n
   ·have l2:a<n+1:=Ic l;rw [Dq l,Dq l2];simp;lia
   ·have l2:¬a<n+1:=LT (e (Dy (Eh z) (Jd.mp l)))
    rw [Dc l,Dc l2];simp
def zS (Q){q:Nat}(h:q<272):xxF∈xgy:=by
 unfold cn;exact E6.mpr (xdt q (G1.mpr h))
def uN (h:b∈xgy):∃q,b=xxF:=by
 unfold cn at h;show xGH q e h;show xaI q e.symm
theorem xc:∀Q:Fr,(xgy).sum≤Q.length
 | []=>by
  have:∀n,(xqw n (xcb (xyi ([]:Fr)))).sum=0:=λ n=>by
   induction n with
   |zero=>rfl
   |succ n ih=>rw [Ju,C8,FZ,ih];rfl
  show(xuH (xcb (xyi ([]:Fr)))).sum≤0;show IO this P3
 |a::Q=>by
  have ih:=xc Q;have e:=kZ a Q 272;have ih':(xuH (xcb xxF)).sum≤Q.length:=ih;show(xuH (xcb (xyi (a::Q)))).sum≤Q.length+1;rw [e]
  split<;>omega
theorem pq:∀C:Fr,xbz (C.filter (xd9 b (0<b))) C.sum
 | []=>P3
 |a::C=>by
  have ih:=pq C;rw [Jk,Hi];by_cases h:0<a
  ·rw [Dq (CY h),Df];lia
  ·show xjP (by show xvw) (Im ih)
def wA (C):C.filter (xd9 b (0<b))=(S.pos C).map (S.cw C):=by
 have e:C=xHH (S.cw C):=by
  apply EF;intro i;rw [DX];by_cases h:xCI i
  ·rw [HC h,CU h];simp [S.cw,Dn,h]
  ·rw [DH (Ec h),DH (by simp;exact Ec h)];rfl
 conv=>lhs;rw [e]
 rw [IJ];rfl
def vi (Q){q:Nat}(h:q<272):xGP q=xxF:=by
 simp [S.cw,cn,Dn,h]
seal cn
def Bc {Q:Fr}(hq:∀q∈Q,q<272)(h1:Δ Q.length)(Kx:xfr Q.length):(xax xgy (b≤1000000))/\xGh xgy/\xbz xgy 300/\(∃b∈xgy,0<b)/\Δ 6/\xeC 6/\xbz (xuw xgy b (0<b)) (2^6)/\xbz xoL 300/\xGh xoL/\xbz xoL (2^6):=by
 have hf:=pq xgy;have hs:=xc Q;have hp:xat xoL (xuw xgy b (0<b)).length:=by rw [wA,CM]
 have h0:∃b∈xgy,0<b:=by
  show xa4 a ha (IC h1) (xav (zS Q (hq a ha)) (HI.mpr ha))
 refine⟨xfn,by rw [c8];decide,by rw [c8];decide,h0,Z9,Z9,Z4,Z4,?_,Z4⟩
 ·show xcI q (uN hb);have:=xMh q (l:=Q);omega
 ·rw [hp];show xa9 b hb OV h0 (List.length_pos_iff.mpr (List.ne_nil_of_mem (Fk.mpr ⟨hb,CY OV⟩)))
def Sr (Q:Fr)(L:Fr):Prop:=∃ln:xcs,S.SJ xgy 6 ln/\L=xCG/\PM.QI xoL xGP 6 ln
theorem Sr.uniq {Q L L':Fr}(h:Sr Q L)(h':Sr Q L'):L=L':=by
 obtain⟨ln,h1,rfl,_⟩:=h;obtain⟨ln',h2,rfl,_⟩:=h';rw [h1.uniq h2]
def RS:q∈xoL<->q<272/\q∈Q:=by
 unfold S.pos;rw [Fk,G1,c8];constructor
 ·rintro⟨h1,h2⟩;show UV (vi Q h1) h2 ⟨h1,HI.mp (C5 h2)⟩
 ·rintro⟨h1,h2⟩;show xfW ⟨h1,CY ?_⟩ (vi Q h1) (HI.mpr h2)
def Sr.ok (hq:∀q∈Q,q<272)(h1:Δ Q.length)(h:Sr Q L):xuC/\xlk/\(xax L (b≤6))/\∀q∈Q,xwh:=by
 obtain⟨ln,_,rfl,b1,b2,b3⟩:=h;have get:∀q,q<272->(xCG).getD q 0=ln q:=λ q hq=>by simp [Dn,hq]
 have le6:∀q,ln q≤6:=xcb (by
  by_cases m:q∈xoL
  ·exact(b1 q m).2
  ·rw [b2 q m];decide)
 have six:xax xCG (b≤6):=xa3 (by
  show xGH q rfl hb;exact le6 q)
 have MV:∀q∈Q,Δ (ln q):=λ q m=>(b1 q (RS.mpr ⟨hq q m,m⟩)).1
 have ek:C9.krf 6 xCG=(xhq xoL p (2^(6-ln p))).sum:=by
  unfold C9.krf S.pos;rw [IJ,EJ,c8];have:xwF 272 ((xd9 l (0<l))∘ln)=xwF 272 (xd9 p (0<xGP p)):=by
   refine List.filter_congr (LE q Sf)
   have LH:=G1.mp Sf;show xfM 0 (ln q)=xfM 0 (xGP q);rw [vi Q LH];by_cases m:q∈Q
   ·rw [xzK (0<ln q) (MV q m),CY (HI.mpr m)]
   ·have z:=b2 q (LT (m (RS.mp z).2));rw [z,List.count_eq_zero.mpr m]
  rw [this];rfl
 refine⟨⟨Z6,Z6,λ l hl=>xc9 (six l hl),?_,?_⟩,Z6,six,λ q m=>by show IO (get q (hq q m)) (MV q m)⟩
 ·show xa4 a ha (IC h1) ⟨ln a,E6.mpr (xdt a (G1.mpr (hq a ha))),MV a ha⟩
 ·rw [C9.UA (m:=6) Z9 _ six,ek];have:2^(12-6)*(xhq xoL p (2^(6-ln p))).sum≤2^(12-6)*2^6:=EV _ b3;show xi3
def Sr.tok (g:GR W Pp)(h1:xEG)(h:Sr xA8 L):XD L Pp:=by
 have hq:∀q∈xA8,q<272:=λ q hq=>by
  show xeJ x hx (E6.mp hq);obtain⟨_,gx⟩:=g.all x hx;exact xb gx
 obtain⟨a,b,c,d⟩:=h.ok hq (by show xes h1);show xaC a b c (λ x hx=>d _ (E6.mpr (xdt x hx)))
universe K31
namespace K31
open PySem L2 QQ W17 W16 BP
seal PE PA PS PSs PT PW PG PI
def vW {pos:Pos}(h:∃t,xr7=xcf c)(hg:xiC)(hd:xff (x==xgn)):xr3 xrp xrX:=by
 show xa4 t h h (aC hg h (xbn t) hd)
structure Shs (K:Frag)(mg:W1):Prop where
 X:xbi
 whole:xBl ca Jab
 arewhole:TD "are_whole" cu Jab
 things:TD "are_of_things" fq xq0
 need:TD "need_shares" sI Jak
 weight:TD "weight_of" gv xut
 pairs:TD "in_pairs" jK xw8
 light:TD "lightest_bundles" lV xAr
 lengths:∃f fd,S.FnL K mg "lengths_of" jt Jak f fd
inductive Mf (vs:KB) (H:Hp) (Q:VK) (JT:XK):Prop
 |mk (t:JB) (x:Pc) (h0:vs=[xfc]) (h1:H t=xHd x) (h2:xlm (th x) H):Mf vs H Q JT
def tG:Ps xuD xuD jC:=M2
def qa (F:Ε "thing_of" jC xuD)(T:xbi):xey xuD Mf:=by
 show xbj tG (λ JN A outer s H vs Q E hr h=>?_);show xcN t x ht k h;refine xaT (xmZ (xhr bK xGS jA (xcc xGS) az) (xf2 (xbA (vW T.first Z7) xGS) (vW T.least Z7)))
 cases x with
 |sg s=>
  refine⟨_,rfl,t,_,_,_,rfl,rfl,xoU,xhQ,rfl,_,rfl,xwp h rfl⟩;exact⟨_,rfl,t,_,_,_,rfl,rfl,xoU,xhR,k⟩
 |cp b z=>
  show SC ⟨_,rfl,t,_,_,_,rfl,rfl,xoU,xhQ,rfl,_,rfl,aU (xef h xbK ve) xcm⟩ ⟨_,rfl,t,_,_,_,rfl,rfl,xoU,xwy 2,_,_,rfl,rfl,_,_,rfl,rfl,?_⟩;have e:SL 256+KF z-3=KF (253+z):=Z5
  try dsimp only
  show xeY k
inductive Pm (vs:KB) (H:Hp) (Q:VK) (JT:XK):Prop
 |mk (a:JB) (Qs:Fr) (h0:vs=xbU) (h1:Uf=Ι (Qs.map vN)) (h2:(∀q∈Qs,q<272)) (h3:Δ Qs.length) (h4:xfr Qs.length) (h5:∀(l:JB) (L:Fr) (H':Hp),Θ->Β->xaq=xnn->Sr Qs L->xak):Pm vs H Q JT
def LC:Ps ["things","counts","thing"] xFp hJ:=M2
def zL {Qs:Fr}(h:xad Qs q)(hq:q<272):(Wp (xAS i)).set q (vN (xqL i q+1))=Wp (xAS (i+1)):=by
 have e1:∀A,Wp (cn A)=xuH (λ p=>vN (A.count p)):=λ A=>by show xbk cn EJ;rfl
 rw [e1,e1];refine S.set_range (f:=λ p=>xqL i p) (f':=λ p=>xqL (i+1) p) (xcl p)
 show xqL (i+1) p=xqL i p+ xrF [q];rw [nr h,Gf]
def An:xi6 272 xqk=Wp (cn []):=by
 have e1:Wp (cn [])=xuH (λ _=>xx0):=by show xbk cn EJ;rfl
 rw [e1,Js,Gh];generalize 272=n
 induction n with
 |zero=>rfl
 |succ n ih=>rw [Ef,Es,ih,Ef];rfl
def oA (F:Ε "shares_of" hJ xFp)(Y:Shs K mg):Α 34 xFp Pm:=by
 obtain⟨T,⟨_,_,Wh⟩,⟨_,_,AW⟩,⟨_,_,Th⟩,⟨_,_,Ne⟩,⟨_,_,We⟩,⟨_,_,Pa⟩,⟨_,_,Li⟩,⟨_,_,Le⟩⟩:=Y;show xcY t6 B6 Le.d LC (λ JN A outer st H vs Q E hr h=>?_)
 intro _;obtain⟨a,Qs,rfl,ha,hq,h1,Kx,k⟩:=h;show xbf (xaU 1 LC.nd (xzh gR xoA (vW T.many Z7)) (xm8 Os 2 LC.nd (ae (qp (xhy (xro KM On)) (pQ KM On jU)))) (xtr (S.QL Le Ne Th AW Wh Li Pa We T) Le.m Le.kp B6 (.cons (a:=V.int 6) xbg .nil) a7 xCi)) (xeq (xem (by show xcR 1) l4 n4))
 have s4:=xas xiK n4;have Qy:xbC H l4 xiK l4=Ι xqk:=ac;show xbb H l4 xiK H4;show xbI ⟨l4,_,_,rfl,rfl,Qy,Z9,Z9,(by show xcR (1*272)),xdX l5 n5⟩;have s5:=xas (xi6 272 xqk) n5;have Wq:xbC H4 l5 (xCO xCh xqk) l5=ω (xAS 0):=by
  show IO ac (congrArg (LT (some (HO.lst z))) An)
 have Zj:XV l5:=xBO s4;have UN:xcn (xby H4 l5 (xCO xCh xqk)):=s4.trans s5;show xbb H4 l5 (xCO xCh xqk) H5;clear s5 s4 Qy;have OW:a≠l5:=ad ha Zj;refine xeq (xeZ a (xhe (UN _ _ ha)) (xnw xdf K a (Qs.map vN) (λ i σ H7=>∃v,σ=[xbv,ST l5,v]/\H7 l5=ω (xAS i)/\∀c o,Ν l5->H5 c=Id->H7 c=Id) (xeu none Wq (λ _ _ _ e=>e)) (λ i σ H7 _ z9=>by show xqR kp z9 (JS.of (xap OW (UN _ _ ha)))) ?_ ?_))
 ·clear g1;rintro i y σ H7 hi ⟨v,rfl,h7,kp⟩;show xio q hqi hi;have Yv:=hq q (D9 hqi);have hg:(Wp (xAS i))[q]?=SB (xqL i q):=by
   unfold cn;rw [DX,DX,HC Yv];rfl
  have e2:KF (xqL i q)+1=xjL (xqL i q):=Iq _;refine⟨_,rfl,_,rfl,l5,_,_,_,rfl,rfl,JS.of h7,aE hg,_,_,rfl,rfl,?_⟩
  try dsimp only
  show Tm e2 ⟨_,rfl,_,rfl,l5,_,_,q,rfl,rfl,h7,S.ixN_nat (by rw [CM,c8];exact Yv),SB q,rfl,?_,λ c o n e=>?_⟩
  ·rw [ac,zL hqi Yv]
  ·show Ty n (xap n e)
 ·rintro σ H7 ⟨v,rfl,h7,kp⟩;rw [CM,DV] at h7;show xbI χ;have s07:xcn H7:=λ c o e=>xap (xoX Zj) (UN _ _ e)
  obtain⟨q1,q2,q3,q4,q5,q6,q7,q8,q9,q10⟩:=Bc hq h1 Kx;show SC ⟨_,rfl,l5,cn Qs,6,rfl,h7,q1,q2,q3,q4,q5,q6,q7,q8,q9,q10,λ l ln H8 nl s8 hl hb hln=>?_⟩ (xdE xCG H8 (xoM s07) (s07.trans s8) ?_ (xdm ln hln hb));rw [hl,c8,EJ];rfl
structure Cds (K:Frag)(mg:W1)(D C:JB):Prop where
 M:xA9 mg C
def tN:Ps Jan Jan jb:=M2
def uL:Ps xCX xCX jV:=M2
structure U3 (K:Frag)(mg:W1)(B D C:JB):Prop where
 Y:XB K mg
 Zb:VF K mg B
 Sh:Shs K mg
 Cd:Cds K mg D C
 thingof:TD "thing_of" jC xuD
 sharesof:TD "shares_of" hJ xFp
 needtab:TD "need_table" eC Jaf
 again:TD "again_from" k6 xBJ
 puttab:TD "put_table" gZ ["bits","lengths"]
inductive Pq (B:JB) (vs:KB) (H:Hp) (Q:VK) (JT:XK):Prop
 |mk (o p d a:JB) (x:V) (T W:Fr) (Pp:xek) (N T0:Nat) (h0:vs=[xfU,Φ,SZ,x]) (h1:xkJ B N T0) (h2:xbH T0) (h3:Uf=xbJ) (h4:xa1 T) (h5:xgw 1) (h6:xsI) (h7:xhW) (h8:xa1 W) (h9:xm4) (YX:xs9 (W++T) Pp W T) (MO:∀(L:Fr) (It:xqW) (b:Nat) (H':Hp),Sr xA8 L->xxm 0 0 It 272 b->xjR B H' (xi8++xr1) N (T0+tots (xi8++xr1))->xcT (∀c o,WF=Id->xai->xfq->xaB=Id)):Pq B vs H Q JT
def KY:Ps ["self","bits","text","before","pieces","lengths","codes","piece","pair"] Jac lG:=M2
def Cz:(xuD:xaj).Nodup:=Z8
def A9:TE:=rL Mf [] E0 (kC xsg j8)
def lR (h:xil S Pp q)(Td:p<q):xEG:=by
 cases Pp with
 |nil=>have:p=q:=h;lia
 |cons x Pp=>simp
def uB (F:Υ "tell" "ShareWay.tell" lG)(A0:U3 K mg B D C):Α 35 Jac (Pq B):=by
 obtain⟨⟨Vi,⟨_,_,Po⟩,⟨_,_,Na⟩,⟨_,_,Ns⟩⟩,Z,Sh,Cd,⟨_,_,To⟩,⟨_,_,So⟩,⟨_,_,Nt⟩,⟨_,_,Ag⟩,⟨_,_,Pt⟩⟩:=A0;show Η Nr Vi.needrow Nw Vi.needwin;have X:=Vi.R.X;have GTh:=qa (P:=P) (w:=w) (base:=base) To X;show Η Nl Cd.M.need Co Cd.M.cof;have GC:=K31.C.NA (P:=P) (w:=w) (base:=base) Co Nl Cd.M.Y;show Η Wh Z.R.whole Sz Z.needsize;show Η O Z.ones Pu Z.put;show xgo M Z.move TB Z.T;have GP:=xCW (P:=P) (w:=w) base Pu.F Sz Wh O M TB X;show xau KY (λ JN A outer st H vs Q E hr h=>?_);obtain⟨o,p,d,a,x,T,W,Pp,N,T0,rfl,hB,Tr,ha,MU,h1,Kx,hx,Tp,Wk,Yt,k⟩:=h;have J5:xa0:=PP;have Ln:xqb:=PP;have Se:xan 7:=PP;have VP:xan 32:=PP;have QB:xan 33:=PP;show xnf (xcz (xbe (cZ Ns Na Nw Nr Vi.R) Se Ns On UF) (xaz 4 KY.nd (cx (ip Po Vi) VP Z7 Po.m Po.kp Po.b .nil a7 (xbo On UF)) (xaz 5 KY.nd (xdy (oA So Sh) So (xS (N:=xuD) (g:=xiz) (te:=A9) rfl rfl Z8 Z8 Z8 (bP υ) (λ fp s H=>xqD 0 Cz) (λ fp s H=>xbQ GTh J5 To Os))) (xdj 6 KY.nd (xbQ GC QB Co xaL) (aB (xbe (Tb.P9 Pt Nt Ag Z) VP Pt KM xaL)) (ae (xm8 υ 7 KY.nd (xdj 8 KY.nd (xro xeN (xbQ GTh J5 To xmV)) (aB (xK8 GP Ln (xbo (xoI xjH) (xoI xjH)))) (ae (xgs bK (xoI xmV) jA (aB (xpw GP Ln (xoI xmV))) az))))))))) ⟨_,rfl,_,rfl,a,x,T,W,rfl,ha,MU,h1,Kx,hx,Tp,Wk,λ l0 H0 s0 n0 Q2=>χ⟩;show xds ⟨_,rfl,_,rfl,a,x,W,T,rfl,xhz ha,xKl,Tp,MU,xc9 Wk,xc9 Kx,λ l P' H1 Yi S8 ⟨ts,hl,OK⟩ VN=>χ⟩;have eP:P'=Pp:=dO VN Yt;subst eP;have s1:=xJD;have nl:Θ:=xgu S8;obtain⟨gr,TV,Ts⟩:=c6 Tp MU Yt;have Wm:Δ P'.length:=lR Yt (by show IO CN (EN h1));clear s0 Yi Q2 S8 VN;show SC (xeq (xeZ l (xhe hl) (LE l2 nl2))) (yO (g:=xiz) (te:=A9) (K:=K) (a:=l) (l:=l2) (xs:=xcK) (n:=1) (λ i ys H2=>ys=Wp ((xgr).map th)/\H2 l2=xen/\xvV H2)
  (xfE ac (ak nl2)) (λ i ys H2 _ z9=>by show xoz sm z9 (xBF hl)) ?_ ?_ ?_ ?_)
 ·clear g1;rintro i y ys σ H2 hi ⟨rfl,Oz,sm⟩ hσ;show xeJ t ht (iE hi);show xga u0 u0 (σ=[u0]) (match σ,hσ with| [u0],_=>xbn u0)
  have K1:i<P'.length:=by show xa5 xsy (xco ht)
  have UW:xad P' P'[i]:=xso;refine⟨_,rfl,t,P'[i],rfl,xeQ (OK.2 i t _ ht UW),Oz,bw (by rw [CM,CM,Dd];exact xpe _ _ (CV Ts (xc9 Kx))),rfl,?_,ac,xs7⟩
  ·rw [nr UW,C8,C8];rfl
  ·show xf9 nl2 xph
 rotate_left
 ·exact λ x σ H A B h z=>xiM
 ·rintro σ H A B h ⟨v,e1,t,x,e2,e3,z⟩;exact⟨v,e1,t,x,e2,e3,xiM⟩
 rintro ys H2 ⟨rfl,Oz,Lv⟩;rw [CM,xsy,DV] at Oz;have hq:∀q∈P'.map th,q<272:=λ q hq=>by
  show xeJ x hx (E6.mp hq);obtain⟨_,gx⟩:=gr.all x hx;exact xb gx
 show xbI ⟨l2,P'.map th,rfl,Oz,hq,by show xes Wm,by show xes xDn,λ l3 L H3 nl3 s23 h33 hsh=>χ⟩;have tok:=hsh.tok gr Wm;have OH:=Lv.trans s23;have nl31:xfO l3:=none_of Lv nl3;show xds ⟨_,rfl,_,L,rfl,xeu l3 h33 (xa3 (xc9 (tok.six b hb))),tok.good,λ l4 xs H4 nl4 Y9 Qy YM=>χ⟩;have Qc:=OH.trans Y9;have SY:=hB.keep λ c o e _=>Qc _ _ xb5
 have h43:=Y9 _ _ h33;obtain⟨dxp,rp,kp',Vl⟩:=SY.ob;obtain⟨dxd,Bd,rd,kd,_,ZL,_⟩:=id SY;have nl3p:xaP l3:=aF h43 Vl (by show τ);have nl3d:l3≠d:=(cI ((xxZ).imp (λ _ e=>xb5)) nl31).symm;have nl4p:xaP l4:=aF Qy Vl (by show τ);have nl4d:l4≠d:=(cI ((xxZ).imp (λ _ e=>OH _ _ xb5)) nl4).symm;have K9:xqg:=xtl xGq;have MT:xlY:=xtl xxZ;show xds ⟨_,rfl,_,rfl,p,d,l3,N,T0,L,rfl,SY,Tr,h43,tok.len,tok.six,nl3d,λ It b H5 hit hB5 NS=>χ⟩;have QD:=sW tok.len hit;have Vf:=iQ 0 (W13.MQ tok.six hit);rw [QD,tok.len] at Vf;have h5l:=xky (Qc _ _ hl) K9 MT;have h54:=xky Qy nl4p nl4d;have Sv:∀t ys,H4 t=xsD->H5 t=xsD:=λ t ys e=>xky e (xkn Vl (by show τ)) (xkn ZL (by show τ))
 have hcl5:=YM.keep Sv;have hts5:=(OK.keep λ a xs e=>Qc _ _ e).keep Sv;obtain⟨dxp5,rp5,kp5',hpp5⟩:=hB5.ob;obtain⟨dxd5,Bd5,rd5,kd5,_,hdd5,_⟩:=id hB5;refine xeZ l (xhe h5l) (xnw xdf K l xcK (λ i σ H6=>∃v7 v8,σ=[ST o,xeV,xbv,Χ,xgQ,ST l3,ST l4,v7,v8]/\xjR B H6 (xo7 xgr) (cz xi8 N) (T0+xo8+xxQ xgr)/\∀c o,H5 c=Id->xai->xfq->H6 c=Id) (xay none none hB5 (λ c o e _ _=>e)) (λ i σ H6 _ z9=>by show xFi kp z9 (JS.of (xap h5l K9 MT))) ?_ ?_)
 ·rintro i y σ H6 hi ⟨v7,v8,rfl,hB6,kp⟩;show xeJ t ht (iE hi);have K1:i<P'.length:=by show xa5 xsy (xco ht)
  have UW:xad P' P'[i]:=xso;have OO:=hts5.2 i t _ ht UW;have ZI:=gr.at UW;have hmem:P'[i]∈P':=ER K1;have U8:xaP t:=xzO hpp5 (by show τ);have U9:t≠d:=xzO hdd5 (by show τ);have htt6:=xap OO U8 U9;have h64':=xap h54 nl4p nl4d;obtain⟨e1,e2,e3⟩:=tok.at hmem ZI;have L6:=C10.LX tok.good e1 e2;have hlx:xfb (th P'[i]):=by show IO hcl5.1 (xco L6)
  have hxi:xaH xs (th P'[i]) xs[th P'[i]]:=CU hlx;obtain⟨tc,etc,htc⟩:K31.C.OT H5 xs[th P'[i]] (some (xtO (th P'[i]) (xlb P'[i]),xlb P'[i])):=hcl5.2 _ _ _ hxi L6;rw [etc] at hxi;have ntcp:xaP tc:=aF htc hpp5 (by show τ);have ntcd:tc≠d:=aF htc hdd5 (by show τ);have htc6:=xap htc ntcp ntcd;show xaM hto2 (lf tok.six xgr) Dd hto2;have hcl2:=C10.T6 tok.good e1 e2;obtain⟨dx,r,kk,Xf⟩:=hB6.ob;rw [nr UW,uM,bQ,aP,Au];show xcg g2 ⟨_,rfl,_,rfl,t,P'[i],rfl,htt6,l4,_,_,_,rfl,rfl,JS.of h64',aE hxi,xcG⟩ g2;show xcg g2 ⟨_,rfl,p,dx,_,rfl,Xf,xhV,_,rfl,tc,_,_,_,rfl,rfl,Kk.of htc6,xhQ,_,rfl,tc,_,_,_,rfl,rfl,Kk.of htc6,xhR,p,d,_,_,_,_,rfl,hB6,Z5,Z5,hcl2,λ H7 hB7 V9=>xcG⟩ g2;have XT:=V9 _ _ htt6 U8 U9;obtain⟨dx7,r7,kk7,hp7⟩:=hB7.ob;generalize P'[i]=xx at*;cases xx with
  |sg s=>
   show SC ⟨_,rfl,t,_,_,_,rfl,rfl,Kk.of XT,xhQ,rfl,_,rfl,aU (xef h xbK (LT (ve z.symm))) xcm⟩ (xay _ _ ?_ (λ c o e n1 n2=>V9 _ _ xsR n1 n2));have e5:T0+xo8+(xxQ xgr+xCe L xjx)=T0+xo8+xxQ xgr+xlb xjx:=by
    have:xCe L xjx=xlb xjx:=rfl;lia
   show IO e5 hB7
  |cp bk z=>
   obtain⟨g1,g2,g3,g4,g5⟩:Δ bk/\xnK bk/\bk≤_/\3≤z/\z≤18:=ZI;show xgD ⟨_,rfl,t,_,_,_,rfl,rfl,Kk.of XT,xhQ,rfl,_,rfl,xwp h rfl⟩ ⟨_,rfl,p,dx7,_,rfl,hp7,xhV,_,rfl,t,_,_,_,rfl,rfl,Kk.of XT,xhR,p,d,_,_,bk,8,rfl,hB7,Z5,Z9,(by show bk<2^8;exact Fg g2),Sc H8 hB8 Zo⟩ (xay _ _ ?_ (λ c o e n1 n2=>Zo _ _ (V9 _ _ xsR n1 n2) n1 n2));have e5:T0+xo8+(xxQ xgr+xCe L (.cp bk z))=T0+xo8+xxQ xgr+xlb (.cp bk z)+8:=by
    have:xCe L (.cp bk z)=xlb (.cp bk z)+8:=rfl;lia
   show IO e5 hB8
 ·rintro σ H6 ⟨v7,v8,rfl,hB6,kp⟩;rw [CM,xsy,DV] at hB6;refine k L It b H6 hsh hit ?_ λ c o e n1 n2=>xap (xky (Qc _ _ xb5) n1 n2) n1 n2
  rw [bQ,aP,<-D4];exact hB6
def yz:Sp:=λ vs H Q _=>∃o,vs=[xfU]/\xkI 3
def xK:xc3 il:=M2
def vJ (F:xGQ "ShareWay.number" il):xgS yz:=by
 show xau xK (λ JN A outer st H vs Q E hr h=>?_);show xa9 o rfl k h (xav xGW k)
def KD:Ps ["self","reader","count","before","signs","begin","end","codes","thing","back"] Jad k7:=M2
def o7 (T)(s):xDB (T++[s])=xnH++[(s,8)]:=by simp [pf]
inductive Pw (vs:KB) (H:Hp) (Q:VK) (JT:XK):Prop
 |mk (a:JB) (T:Fr) (h0:vs=xbU) (h1:Uf=xbJ) (h2:xsI) (h3:∀l ts H',Β->Θ->xaq=xsE->NZ H' ts xjy->xak):Pw vs H Q JT
def Lb:Ps ["signs","runs","begin","place"] xxG gG:=M2
def tp (F:Ε "runs_of" gG xxG)(T:xbi):xey xxG Pw:=by
 show xbj Lb (λ JN A outer st H vs Q E hr h=>?_);obtain⟨a,S,rfl,ha,Kx,k⟩:=h;show xuE (xfV 1 Lb.nd xdM (xaU 2 Lb.nd aj (xlg (gW Z7 T.range (xbo aj (xhy xk9))) 3 Lb.nd (ae (aH (PW.pt (iz (xcZ bK UF xk9) (eK (xcZ kU (xkf UF) (xkf On)))))
    (xcz (xfj D1 D5 bu KM (xjF (xkf On) (xf2 UF On))) (xij 2 Lb.nd UF)) az))) KM)) (xg9 (xdX l nl));have s0:=xj0 nl;show xwq xbu
 have en:xrQ (xkh (xfD xkO+1) 1):=by show xcS
 show xs3 ⟨_,rfl,a,_,rfl,Ο (xhz ha),_,_,rfl,rfl,1,_,rfl,⟨Z5,Z5,by show xcS,by show xcS⟩,?_⟩ en (xs5 xdf 1 S.length (λ i σ H2=>∃b rs ts v3,σ=[xbv,xgQ,xkp,v3]/\xiq/\xhL=xsE/\NZ H2 ts rs/\rs++rl (S.drop b)=rl S/\b≤i/\rs.length≤i/\(xrQ i->xrQ b)/\∀j,b≤j->j≤i->xdN j->S[j]?=S[b]?) ⟨0,[],[],none,rfl,s0,ac,.nil,rfl,P3,P3,LT z,λ j h1 h2 _=>by rw [Nat.le_zero.mp h2]⟩ ?_ ?_)
 ·clear g1;rintro i σ H2 hi ⟨b,rs,ts,v3,rfl,sm,Kg,OC,Qg,ZO,hri,NP,OW⟩;have hbS:xdN b:=DS ZO hi;have OL:=xeQ ha;have ep:xcr+xhE=xgM:=Z5;have S9:=OC.len;have Sb:xaH S b S[b]:=CU hbS;have J:(S[i+1]?≠some S[b])->∀t,Ζ (H2 t)->∃b' rs ts' v3,[xAT a,xAT l,SB (i+1),SB (i+1)]=[xAT a,xAT l,SB b',v3]/\xcn (xej (xiA t [vN S[b],vN (i+1-b)]) (xrd (ts++[t])))/\(xej (xiA t [vN S[b],vN (i+1-b)]) (xrd (ts++[t]))) l=Ι (ts'.map V.ref)/\NZ (xej (xiA t [vN S[b],vN (i+1-b)]) (xrd (ts++[t]))) ts' rs/\rs++rl (S.drop b')=rl S/\b'≤i+1/\rs.length≤i+1/\(xrQ (i+1)->xrQ b')/\∀j,b'≤j->j≤i+1->xdN j->S[j]?=S[b']?:=by
   intro L5 t nt;have st:=xth [vN S[b],vN (i+1-b)];have Zi:t≠l:=xbP Kg nt;refine⟨i+1,rs++[(S[b],i+1-b)],ts++[t],SB (i+1),rfl,xs7,ac,?_,?_,P3,by rw [CN];show rs.length+1≤i+1;exact Eo hri 1,LT z,λ j h1 h2 _=>by rw [xae j (i+1) (F1 (Dy h1 h2))]⟩
   ·show xl2 (xd6 xph)
   ·refine((OC.mono st).keep (xda c xs)).app (xjn ?_)
    ·show xgj (LT (by show xbY (xd6 Kg) e e))
    ·rw [ag Zi,ac]
   ·rw [CQ,<-Qg,xo (b:=b) (e:=i+1) (a:=S[b]) (Fg ZO) xeg (λ j h1 h2=>by rw [OW j h1 (Eh h2) (CZ h2 hi),Sb]) L5];rfl
  show Tm ep ⟨_,rfl,_,rfl,a,_,rfl,Ο OL,rfl,_,rfl,xec h h⟩
  ·have he:xrQ (i+1):=by
    have:=xbK;injection this with this
    show UV CM this (Ji.mp this)
   refine d8 ⟨_,rfl,xeD Kg,_,rfl,_,rfl,a,_,_,_,rfl,rfl,xBZ,xla hbS,_,rfl,_,rfl,_,_,rfl,rfl,(by show xeE),LE t nt⟩;have e2:xgM-xd2=KF (i+1-b):=xoK (Ek ZO)
   try dsimp only at nt
   try dsimp only
   show Tm e2 ⟨l,_,_,rfl,rfl,ak nt _ _ Kg,bw (by show xcS),_,rfl,?_⟩;have z:=J (by rw [he,DH P3];exact xhu) t nt;show UV C8 z z
  ·have he:xdN (i+1):=by
    have h':¬(NE (xG4 xgM (xfD xkO))):=h;show xaX (i+1) S.length q q
    ·exact q
    ·exact xtA (by rw [CM,xae (i+1) S.length (Dy hi q)]) h'
   refine⟨_,rfl,_,rfl,a,_,_,_,rfl,rfl,xBZ,xla he,_,rfl,_,rfl,a,_,_,_,rfl,rfl,xBZ,xla hbS,rfl,_,rfl,?_⟩;by_cases L5:S[i+1]=S[b]
   ·rw [L5,xmE];refine bd ⟨b,rs,ts,_,rfl,sm,Kg,OC,Qg,Ek ZO,Z5,LT Z5,λ j h1 h2 h3=>?_⟩;show xaX i j q q
    ·rw [show j=i+1 by lia,CU he,Sb,L5]
    ·exact OW j h1 q h3
   ·show Tm (EQ (LT (L5 (Kn.mp z)))) (d8 ⟨_,rfl,xeD Kg,_,rfl,_,rfl,a,_,_,_,rfl,rfl,xBZ,xla hbS,_,rfl,_,rfl,_,_,rfl,rfl,(by show xeE),LE t nt⟩);have e2:xgM-xd2=KF (i+1-b):=xoK (Ek ZO)
    try dsimp only at nt
    try dsimp only
    show Tm e2 ⟨l,_,_,rfl,rfl,ak nt _ _ Kg,bw (by show xcS),_,rfl,?_⟩;have z:=J (by show IO (CU he) (LT (L5 (DK z)))) t nt;show UV C8 z z
 ·rintro σ H2 ⟨b,rs,ts,v3,rfl,sm,Kg,OC,Qg,_,_,NP,_⟩;rw [NP rfl,IB,zt,DM] at Qg;show UV Qg OC (xyH (xdE ts H2 sm nl Kg OC))
def Cc (u:Bool):Int:=if u then 1 else 0
def pB (u:Bool):Sp:=λ vs H Q _=>∃o:JB,vs=[xfU]/\xkI (Cc u)
def oU:xc3 fD:=M2
def ow:xc3 fU:=M2
def mP (F:xGQ "RawWay.number" fD):xgS (pB false):=by
 show xau oU (λ JN A outer st H vs Q E hr h=>?_);show xa9 o rfl k h (xav xGW k)
def mQ (F:xGQ "RunWay.number" fU):xgS (pB true):=by
 show xau ow (λ JN A outer st H vs Q E hr h=>?_);show xa9 o rfl k h (xav xGW k)
inductive QK (u:Bool) (B:JB) (vs:KB) (H:Hp) (Q:VK) (JT:XK):Prop
 |mk (o p d a:JB) (x:V) (T W:Fr) (N T0:Nat) (h0:vs=[xfU,Φ,SZ,x]) (h1:xkJ B N T0) (h2:xbH T0) (h3:Uf=xbJ) (h4:xa1 T) (h5:xgw 1) (h6:xsI) (h7:xhW) (h8:xa1 W) (h9:xm4) (YX:xe0 (xjR B H' (pf u T) N (T0+tots (pf u T))->xcT (∀c o,WF=Id->xai->xfq->xaB=Id))):QK u B vs H Q JT
def Om:Ps ["self","bits","text","before","sign"] Jac i9:=M2
def qT (F:Υ "tell" "RawWay.tell" i9)(Y:XB K mg)(Z:VF K mg B):Α 8 Jac (QK false B):=by
 have R:=Y.V.R;show Η Nr Y.V.needrow Nw Y.V.needwin;show Η Na Y.needahead Ns Y.needsigns;have X:=R.X;show Η W Z.R.whole S Z.needsize;show Η O Z.ones Pu Z.put;show xgo M Z.move TB Z.T;have GP:=xCW (P:=P) (w:=w) base Pu.F S W O M TB X;show xau Om (λ JN A outer st H vs Q E hr h=>?_);obtain⟨o,p,d,a,x,T,W,N,T0,rfl,hB,Tr,ha,MU,h1,Kx,hx,Tp,Wk,k⟩:=h;have Ln:xqb:=PP;show xbf (ae (xm8 (xbe (cZ Ns Na Nw Nr R) hr Ns On UF) 4 Om.nd (xlc (xpw GP Ln υ)))) ⟨_,rfl,_,rfl,a,x,T,W,rfl,ha,MU,h1,Kx,hx,Tp,Wk,λ l H1 s1 nl hl=>?_⟩;have Vw:=hB.keep λ c o e _=>xb5
 have K9:xqg:=xtl xGq;have MT:xlY:=xtl xxZ;refine xeu l (xhe hl) (xnw xdf K l xg5 (λ i σ H2=>∃v4,σ=[ST o,xeV,xbv,Χ,v4]/\xjR B H2 (xDB xJE) N (T0+tots (xDB xJE))/\∀c o,H1 c=Id->xai->xfq->xkl=Id) (xeu none Vw (λ c o e _ _=>e)) (λ i σ H2 _ z9=>by show xqR kp z9 (JS.of (xap hl K9 MT))) ?_ ?_)
 ·rintro i y σ H2 hi ⟨v4,rfl,Lw,kp⟩;show xio b hb hi;have K1:i<T.length:=xco hb;obtain⟨dx,r,kk,J9⟩:=Lw.ob;show xaM OO (du xJE) Dd OO;show SC ⟨_,rfl,p,dx,_,rfl,J9,xhV,_,rfl,p,d,_,_,b,8,rfl,Lw,Z5,Z9,MU b (D9 hb),Sc H3 NX Kc⟩ (xdK rfl ?_ (λ c o e n1 n2=>xaK xsR n1 n2));rw [cv hb,o7,bQ,aP,<-D4];exact NX
 ·rintro σ H2 ⟨v4,rfl,Lw,kp⟩;rw [CM,DV] at Lw;exact k H2 Lw λ c o e n1 n2=>xap xb5 n1 n2
def Mj:Ps ["self","bits","text","before","sign","size"] Jac jh:=M2
def pW {fR:JB}(F:Υ "tell" "RunWay.tell" jh)(Ro:xbt "runs_of" gG xxG fR fdR)(Y:XB K mg)(Z:VF K mg B):Α 8 Jac (QK true B):=by
 have R:=Y.V.R;show Η Nr Y.V.needrow Nw Y.V.needwin;show Η Na Y.needahead Ns Y.needsigns;have X:=R.X;show Η W Z.R.whole S Z.needsize;show Η O Z.ones Pu Z.put;show xgo M Z.move TB Z.T;have GP:=xCW (P:=P) (w:=w) base Pu.F S W O M TB X;show xau Mj (λ JN A outer st H vs Q E hr h=>?_);obtain⟨o,p,d,a,x,T,W,N,T0,rfl,hB,Tr,ha,MU,h1,Kx,hx,Tp,Wk,k⟩:=h;have Ln:xqb:=PP;have J5:xa0:=PP;show xlq (ae (xz7 Du (bP (xbQ (tp Ro X) J5 Ro (xbe (cZ Ns Na Nw Nr R) hr Ns On UF))) (xDa (xmW 4 Mj.nd (xmW 5 Mj.nd gC))) (xcz (xpw GP Ln (xpR xaL)) (xlc (xpw GP Ln υ))))) ⟨_,rfl,_,rfl,a,x,T,W,rfl,ha,MU,h1,Kx,hx,Tp,Wk,λ l0 H0 s0 n0 Q2=>?_⟩ ⟨l0,T,rfl,Q2,Kx,λ l ts H1 Yi S8 hl OC=>?_⟩;have s1:=xJD;have nl:Θ:=xgu S8;have Vw:=hB.keep λ c o e _=>xb5
 have K9:xqg:=xtl xGq;have MT:xlY:=xtl xxZ;have S9:=OC.len;have hok:=vF Kx MU;have hlen:xbz xjy 64:=by
  show xkX (fF (rs:=xjy) λ q hq=>(qE hq).1) lB (CV this Kx)
 obtain⟨dxp,rp,kp',Vl⟩:=Vw.ob;obtain⟨dxd,Bd,rd,kd,_,ZL,_⟩:=id Vw;refine xeu l (xhe hl) (xnw xdf K l xcK (λ i σ H2=>∃v4 v5:xc0,σ=[ST o,xeV,xbv,Χ,v4,v5]/\xjR B H2 (pR xCU) N (T0+xk2 xCU)/\∀c o,H1 c=Id->xai->xfq->xkl=Id) (xay none none Vw (λ c o e _ _=>e)) (λ i σ H2 _ z9=>by show xFi kp z9 (JS.of (xap hl K9 MT))) ?_ ?_)
 ·rintro i y σ H2 hi ⟨v4,v5,rfl,Lw,kp⟩;show xeJ t ht (iE hi);obtain⟨q,hq,OO⟩:=OC.at ht;have K1:i<(xjy).length:=xco hq;obtain⟨q1,q2,q3⟩:=hok q (D9 hq);have U8:xaP t:=xzO Vl (by show τ);have U9:t≠d:=xzO ZL (by show τ);have Sw:=xap OO U8 U9;obtain⟨dx,r,kk,J9⟩:=Lw.ob;show xoh Vf (iL xCU) Dd Vf ⟨t,_,rfl,Kk.of Sw,rfl,_,_,rfl,_,_,rfl,rfl,?_⟩;have e1:KF xbh-1=KF (xbh-1):=xoK q1;refine xon g2 ⟨_,rfl,p,dx,_,rfl,J9,xhV,_,rfl,_,_,rfl,rfl,?_⟩
  try dsimp only
  rw [e1];show xfp ⟨p,d,_,_,xbh-1,6,rfl,Lw,Z5,Z9,(by show xbh-1<2^6;lia),λ H3 NX Kc=>xcG⟩;obtain⟨Mp,r3,kk3,Kz⟩:=NX.ob;show SC ⟨_,rfl,p,Mp,_,rfl,Kz,xhV,_,rfl,p,d,_,_,xaZ,8,rfl,NX,Z5,Z9,(by show xaZ<2^8;assumption),Sc H4 SY MC⟩ (xay _ _ ?_ (λ c o e n1 n2=>xiO (xaK xsR n1 n2) n1 n2));rw [nr hq,uv,bQ,aP];have e5:T0+(xk2 xCU+xk2 [q])=T0+xk2 xCU+6+8:=by
   have:xk2 [q]=14:=by rw [iL];rfl
   lia
  show IO e5 SY
 ·rintro σ H2 ⟨v4,v5,rfl,Lw,kp⟩;rw [CM,S9,DV] at Lw;exact k H2 Lw λ c o e n1 n2=>xap xb5 n1 n2
def xP:Sp:=λ vs H Q _=>∃o,vs=[xfU]/\xkI 2
def xT:xc3 eV:=M2
def wL (F:xGQ "CopyWay.number" eV):xgS xP:=by
 show xau xT (λ JN A outer st H vs Q E hr h=>?_);show xa9 o rfl k h (xav xGW k)
inductive P1 (B:JB) (vs:KB) (H:Hp) (Q:VK) (JT:XK):Prop
 |mk (o p d a:JB) (x:V) (T W:Fr) (Pp:xek) (N T0:Nat) (h0:vs=[xfU,Φ,SZ,x]) (h1:xkJ B N T0) (h2:xbH T0) (h3:Uf=xbJ) (h4:xa1 T) (h5:xgw 1) (h6:xsI) (h7:xhW) (h8:xa1 W) (h9:xm4) (YX:xs9 (W++T) Pp W T) (MO:xe0 (xjR B H' (pP Pp) N (T0+xwd)->xcT (∀c o,WF=Id->xai->xfq->xaB=Id))):P1 B vs H Q JT
def P6:Ps ["self","bits","text","before","piece"] Jac g9:=M2
def tW (F:Υ "tell" "CopyWay.tell" g9)(Y:XB K mg)(Z:VF K mg B):xsF Jac (P1 B):=by
 obtain⟨Vi,⟨_,_,Po⟩,⟨_,_,Na⟩,⟨_,_,Ns⟩⟩:=Y;show Η Nr Vi.needrow Nw Vi.needwin;have X:=Vi.R.X;show Η W Z.R.whole S Z.needsize;show Η O Z.ones Pu Z.put;show xgo M Z.move TB Z.T;have GP:=xCW (P:=P) (w:=w) base Pu.F S W O M TB X;show xbp tl hle X.least (F.ok P6 λ JN A outer st H vs Q E hr h=>?_)
 intro _;obtain⟨o,p,d,a,x,T,W,Pp,N,T0,rfl,hB,Tr,ha,MU,h1,Kx,hx,Tp,Wk,Yt,k⟩:=h;have Ln:xqb:=PP;have Se:xan 7:=PP;show xnf (xcz (xbe (cZ Ns Na Nw Nr Vi.R) Se Ns On UF) (ae (xm8 (xtr (ip Po Vi) Po.m Po.kp Po.b .nil a7 (xbo On UF)) 4 P6.nd (ae (xhr bK xuW jA (xcz (xpw GP Ln aj) (xlc (xpw GP Ln xuW))) (xcz (xpw GP Ln aj) (xcz (xpw GP Ln xuW) (xlc (xpw GP Ln (xf2 xuW (xaF 3 hle tl))))))))))) ⟨_,rfl,_,rfl,a,x,T,W,rfl,ha,MU,h1,Kx,hx,Tp,Wk,λ l0 H0 s0 n0 Q2=>χ⟩;show xeL ⟨_,rfl,_,rfl,a,x,W,T,rfl,xhz ha,xKl,Tp,MU,Z5,Z5,λ l P' H1 Yi S8 z9 VN=>?_⟩ ts hl OK z9;have eP:P'=Pp:=dO VN Yt;subst eP;have s1:=xJD;have nl:Θ:=xgu S8;have Vw:=hB.keep λ c o e _=>xb5
 have K9:xqg:=xtl xGq;have MT:xlY:=xtl xxZ;obtain⟨gr,TV,Ts⟩:=c6 Tp MU Yt;obtain⟨dxp,rp,kp',Vl⟩:=Vw.ob;obtain⟨dxd,Bd,rd,kd,_,ZL,_⟩:=id Vw;refine xeu l (xhe hl) (xnw xdf K l xcK (λ i σ H2=>∃v4,σ=[ST o,xeV,xbv,Χ,v4]/\xjR B H2 (pP xgr) N (T0+xtP xgr)/\∀c o,H1 c=Id->xai->xfq->xkl=Id) (xeu none Vw (λ c o e _ _=>e)) (λ i σ H2 _ z9=>by show xqR kp z9 (JS.of (xap hl K9 MT))) ?_ ?_)
 ·rintro i y σ H2 hi ⟨v4,rfl,Lw,kp⟩;show xeJ t ht (iE hi);have K1:i<P'.length:=by show xa5 xsy (xco ht)
  have UW:xad P' P'[i]:=xso;have OO:=OK.2 i t _ ht UW;have ZI:=gr.at UW;have U8:xaP t:=xzO Vl (by show τ);have U9:t≠d:=xzO ZL (by show τ);have Sw:=xap OO U8 U9;obtain⟨dx,r,kk,J9⟩:=Lw.ob;show xaM Vf (lO xgr) Dd Vf;rw [nr UW,tD,bQ,aP,AG];generalize P'[i]=xx at*;cases xx with
  |sg s=>
   have hs:xbN s:=ZI;refine⟨_,rfl,t,_,_,_,rfl,rfl,Kk.of Sw,xhQ,rfl,_,rfl,xwp h rfl⟩;show xcg g2 ⟨_,rfl,p,dx,_,rfl,J9,xhV,p,d,_,_,0,1,rfl,Lw,xc9 (G2 Tr (CV Vf (EV _ (xpe _ _ xDn)))),Z9,Z9,λ H3 NX Kc=>xcG⟩ g2;have VO:=xaK Sw U8 U9;obtain⟨Mp,r3,kk3,Kz⟩:=NX.ob;show SC ⟨_,rfl,p,Mp,_,rfl,Kz,xhV,_,rfl,t,_,_,_,rfl,rfl,Kk.of VO,xhR,p,d,_,_,s,8,rfl,NX,xc9 (FQ (G2 Tr (CV Vf (EV _ (xpe _ _ xDn))))),Z9,hs,Sc H4 SY MC⟩ (xdK rfl ?_ (λ c o e n1 n2=>xiO (xaK xsR n1 n2) n1 n2));have e5:T0+(xtP xgr+xms xjx)=T0+xtP xgr+1+8:=by
    have:xms xjx=9:=rfl;lia
   show IO e5 SY
  |cp b z=>
   obtain⟨g1,g2,g3,g4,g5⟩:xdd/\xnK b/\b≤_/\3≤z/\z≤18:=ZI;refine⟨_,rfl,t,_,_,_,rfl,rfl,Kk.of Sw,xhQ,rfl,_,rfl,aU (xef h xbK ve) xcm⟩;show xcg q2 ⟨_,rfl,p,dx,_,rfl,J9,xhV,p,d,_,_,1,1,rfl,Lw,xc9 (G2 Tr (CV Vf (EV _ (xpe _ _ xDn)))),Z9,Z9,λ H3 NX Kc=>q2 _ _ ?_⟩ q2;have VO:=xaK Sw U8 U9;obtain⟨Mp,r3,kk3,Kz⟩:=NX.ob;show xcg q2 ⟨_,rfl,p,Mp,_,rfl,Kz,xhV,_,rfl,t,_,_,_,rfl,rfl,Kk.of VO,xhR,p,d,_,_,b,8,rfl,NX,xc9 (FQ (G2 Tr (CV Vf (EV _ (xpe _ _ xDn))))),Z9,(by show b<2^8;exact Fg g2),λ H4 SY MC=>q2 _ _ ?_⟩ q2;have htt4:=xiO VO U8 U9;obtain⟨dx4,r4,kk4,QT⟩:=SY.ob;have e1:KF z-3=KF (z-3):=xoK g4;refine⟨_,rfl,p,dx4,_,rfl,QT,xhV,_,rfl,t,_,_,_,rfl,rfl,Kk.of htt4,xwy 2,_,_,rfl,rfl,?_⟩
   try dsimp only
   show xnF e1 ⟨p,d,_,_,z-3,4,rfl,SY,Z5,Z9,(by show z-3<2^4;lia),Sc H5 hB5 NS⟩ (xdK rfl ?_ (λ c o e n1 n2=>xky (xiO (xaK xsR n1 n2) n1 n2) n1 n2));have e5:T0+(xtP xgr+xms (xvW z))=T0+xtP xgr+1+8+4:=by
    have:xms (xvW z)=13:=rfl;lia
   show IO e5 hB5
 ·rintro σ H2 ⟨v4,rfl,Lw,kp⟩;rw [CM,xsy,DV] at Lw;exact k H2 Lw λ c o e n1 n2=>xap xb5 n1 n2
universe K31
namespace L2
open PySem PySem.Spec PySem.Calls PyProof.Rows QQ PySem.W
def Inv.grown {σ:St}{P c':JB}(I:Pi)(hP:xfG P xxN)(k:xtI P h')(hc:xAm c')
  (MN:xq7 c' oc) (hP':xq7 P (tabObj (ps++more))):xkE (upd (xfd P (.tbl (ps++more))) c' (.frz oc xFw)) s t':=by
 have hn:XV c':=I.hok.fresh hc;have nPc:P≠c':=ad hP hn;have at_:∀{b} {u},xal=xao->b≠P->(upd (xfd P (.tbl (ps++more))) c' (.frz oc xFw)) b=xao:=λ {b u} e n=>by
  rw [xhZ hn,xnM];exact e
 refine xKI [] (λ _ z=>xDw) (λ b o _ _ _ e n=>xgY o (xbP hP n) e) (λ b o _ _ _ e n=>xxA (xgY o (xbP hP n) e)) (λ b o _ e n=>?_) (λ b o _ e=>?_) (λ b xs e=>at_ e (xkn hP (by show τ))) (λ b o u e=>at_ e (xkn hP (by show τ))) (xda b qs) (LE m hm) (xda b u) I.bare
 ·rw [ag (xuJ xb4 hc),ag (xbP hP n)];exact n
 ·by_cases z:b=P
  ·subst z;exact xbs hP'
  ·show xaI o (xgY o z e)
 ·by_cases z:b=P
  ·show xba z hP e e;show xaI more (by rw [ag nPc,ac])
  ·exact xr5 (by show xbD (at_ e z))
 ·show xpI es ep ho r hm;exact⟨o,es,ep,xcF o (xbP hP I.free) ho,r⟩
 ·by_cases z:b=c'
  ·show xba z ac e e;exact⟨MN,oc,MN⟩
  ·rw [ag z] at e;by_cases y:b=P
   ·show xba y ac e e;exact hP'
   ·rw [ag y] at e;refine xuc b u e (λ c v ZN q=>k c v ?_ q) (λ c q=>at_ q (aF q hP (by show τ))) (λ c xs q=>at_ q (aF q hP (by show τ)))
    rcases ZN with ZN|ZN
    ·show IO ZN y
    ·exact aF ZN hP (by show τ)
def kn (P:JB)(H H':Hp):Prop:=∀c o,Ν P->WF=Id->xaB=Id
def MK (P:JB)(pos:Pos)(qual:Str)(H:Hp):Prop:=∃ps,xfG P xxN/\(ps=#[]\/∃c' oc vs t,ps=#[rawInt pos.line,rawInt pos.col,xrf]/\H c'=xhb oc xFw/\oc.data=xrb/\xaH vs 1 (.str qual t))
def MK.same (h:xzP P qual H)(s:Β):xzP P qual H':=by
 show xa8 ps e h h (xac ps xs6);rcases h with h|⟨c',oc,vs,t,a,b,r⟩
 ·show xaN h
 ·show xbX ⟨c',oc,vs,t,a,xgi b,r⟩
def j7 (pos)(v):codeAmong pos [rawInt pos.line,rawInt pos.col,v]=xab:=by
 have:=codeAmong_snoc (c:=v) (pos:=pos) [] trivial rfl;show xmv
def wW {JM:π}{σ:St}(I:Pi)(T:xzP P xkV H)
  (Q8:X.env.code=xuV) (C:CodeHd X.base c P) (Xr:∃bm o,xL5=ST bm/\xKJ bm/\xJ7 bm/\X.base.get? bm=Id/\o.cls=xIK/\xJ9 o.dict/\xiQ .plain)
  (X3:xMy X.env=([],[])) (YM:xIq X.env=pure clos)
  (h:∀(f c':JB) (pm S2:JC) (H':Hp) (s':JD),xj5->xwi f->xov f (xHj xkV body scope clos pm c' S2)->s'.heap.CodeRec xrf xkV->
   (∃oc vs t,H' c'=xhb oc xFw/\oc.data=xrb/\xaH vs 1 (.str xkV t))->xzP P xkV H'->kn P H H'->Q xb0 s'):
  xi9 (xg4 (.Lambda params body scope pos)) Q E s:=by
 show xeL (kla_eval X3 ?_) ps hP T T;have hPo:xfK P (tabObj ps):=xgC P hP;have M:=I.ok.mod;have hg:s.heap.Ns mainGlobals X.mg:=M.glob.keeps I.bk;have hgP:mainGlobals≠P:=LT (by
  obtain⟨o,es,ep,e,hd,_⟩:=hg;show xbY hPo e e;cases hd)
 have hb:s.heap.BuiltinsAt X.mg P:=by
  obtain⟨bm,o,b1,b2,b3,b4,b5,b6,b7⟩:=Xr;refine⟨bm,o,b1,b2,b3,xcl z,I.bk _ _ b4,b5,b6,b7⟩;have:=I.bk _ _ b4;show xbY hPo this this;cases b5
 rcases T with rfl|⟨c',oc,vs,t,rfl,Ls,d1,d2⟩
 ·refine kla_makeFunction YM I.ok.glob hg Q8 (C.keeps I.bk) hPo trivial rfl hgP hb λ c' S2 h' tk hx K2 JO XX htb=>?_
  obtain⟨c2,oc,vs,t,e2,MN,d1,d2⟩:=XX;cases e2;have I1:=I.grown (t':=tk) hP hx K2 MN htb;have hn:XV c':=I.hok.fresh K2;have nPc:P≠c':=ad hP hn;have I2:=xDK tk (h':=h'.push (xHj xkV body scope clos ((xIc).getD .none) c' S2)) (λ b u e=>xep)
  have hoc2:xjq (h'.push (xHj xkV body scope clos ((xIc).getD .none) c' S2)) c' oc:=xdR MN;refine h h'.objs.size c' _ S2 _ _ I2 (xAe P3 P3) xfk ⟨c',oc,vs,t,rfl,hoc2,d1,d2⟩ ⟨oc,vs,t,ac,d1,d2⟩
   (xav (by rw [ag nPc,ac]) (.inr ⟨c',oc,vs,t,Z6,ac,d1,d2⟩)) λ b o n e=>?_
  rw [xhZ hn,xnM];exact e
 ·have MN:xfK c' oc:=(xgC _ Ls).1;refine kla_makeFunctionHit YM I.ok.glob hg Q8 (C.keeps I.bk) hPo (by simp [TriplesOk,rawInt]) (j7 pos _) hb λ S2 h' tk hk hsz=>?_
  have I2:=I.kept (t':=tk) (h':=h'.push (xqv "function" (.func (xIl xkV params body scope clos ((xIc).getD .none) xrf S2)))) λ b u e=>xdR (hk b u e)
  refine h h'.objs.size c' _ S2 _ _ I2 (xDO hsz hsz) xfk ⟨c',oc,vs,t,rfl,xdR (hk _ _ MN),d1,d2⟩ ⟨oc,vs,t,Ls,d1,d2⟩
   (xav hP (.inr ⟨c',oc,vs,t,rfl,Ls,d1,d2⟩)) λ b o n e=>e
noncomputable def pG (X:Cx) (N:xaj) (qual:Str) (scope:Scope) (cl:xwa) (f:JB) (cd:JC) (A:JH) (s:JD) (H:Hp):Cx where
 prog:=X.prog
 w:=X.w
 K:=X.K
 mg:=X.mg
 base:=X.base
 A:=A.deeper (xDN qual scope f cd cl)
 N:=N
 s₀:=s
 H₀:=H
 env:=xDN qual scope f cd cl
 outer:=X.stack
 stack:=xDN qual scope f cd cl::X.stack
 ex:=[]
 calm:=true
 fn:=λ _=>false
 pn:=[]
 xe:=xoo
structure T7 (X:Cx)(y:Str)(Nc:xaj)(scope:Scope)(cl:xwa)(js:Fr):Prop where
 kind:xA2
 co:ρ scope.isCoroutine
 gen:ρ scope.isGenerator
 nocell:xkH xDl
 par:xg8 y xdI
 clos:xIq X.env=pure cl
 sub:∀x c,xw7=xaV->xdG=xaV
 has:∀x,(xg8 x xfC\/xg8 x xI2)->∃c,xw7=xaV
 len:js.length=Nc.length
 slot:∀(i:Nat) (x:Str) (j:Nat),xa6 Nc=Χ->xad js j->X.N[j]?=Χ/\xqE=xfC/\xg8 x xI2/\∀c,xdG=xaV->xw7=xaV
noncomputable def ye (js:Fr) (σ:St) (v:V):St:=xab::js.map λ j=>xxD (σ[j]?)
def xY {σ:St}(I:Pi)(C:T7 X y Nc scope cl js)(r:xdc)
  (hn:xLF (LT (([(y,u)]:xtD JC).reverse.lookup z))) (hk:∀b o,xeA->xcu=Id):
  xsm (pG X (y::Nc) qual scope cl f cd X.A.in1 s H) (ye js σ v) H (xEK h' t'):=by
 have e0:=I.env0.in1;have Vb:∀b,b∉(pG X (y::Nc) qual scope cl f cd X.A.in1 s H).ex:=λ b z=>xop (b∈([]:xaa)) z Z6
 have sub:∀{x} {c},(pG X (y::Nc) qual scope cl f cd X.A.in1 s H).env.cells.lookup x=xaV->xdG=xaV:=λ {x c} e=>C.sub x c e
 refine⟨⟨I.ok.mod,C.kind,rfl,rfl,P3,λ x z c e1 e2=>I.ok.inj x z c (sub e1) (sub e2),λ x hx=>C.has x hx,λ x c e _=>(by cases e),e0.qt,xK4,xxV,
  xjE b z z xzg,I.bs,e0.bsz,λ b _ _=>xzg,xjE b z z xzg,e0.funs,e0.frf⟩,
  rfl,I.bare,xKi,xav hn (λ i x v' h1 h2 h3=>?_),xda x c,xjd,λ x c e=>xxB c xCb,λ p hp=>xop (p∈([]:π)) hp Z6,I.hok.kept hk,?_⟩
 ·cases i with
  |zero=>
   have Lx:some y=Χ:=h1;cases Lx;have NN:Re (some xab) xKv:=h2;cases NN;refine⟨u,r,.inl (xcO C.par)⟩;show([(y,u)]:xtD JC).reverse.lookup y=xao;simp [List.lookup]
  |succ i=>
   have Lx:xa6 Nc=Χ:=h1;have NN:xad (js.map λ j=>xxD (σ[j]?)) xKv:=h2;rw [DX] at NN;cases ej:xa6 js with
   |none=>show Tl ej NN NN
   |some j=>
    rw [ej] at NN;have U0:Re (xxD (σ[j]?)) v':=DK NN;obtain⟨YI,US,OR,hc⟩:=C.slot i x j Lx ej;have ND:xaH σ j xKv:=by
     cases e:σ[j]? with
     |none=>show Tl e U0 U0
     |some w'=>show UV e U0 (xtX U0)
    obtain⟨mo,hno,hl⟩:=I.loc;show xa8 u' r' l (hl j x v' YI ND (.inr (.inl US))) (xac u' r');rcases l with⟨q,_⟩|⟨_,c,ec,o,ho,hd⟩
    ·have q':xqE=xdI:=q;show Tl US q' q'
    ·show xbX ⟨.inr OR,c,hc c ec,o,hk c o ho,hd⟩
 ·obtain⟨v',o,ho,hd⟩:=xrB x xCb;show xaC v' o (hk c o ho) hd
 ·show xat (xab::js.map λ j=>xxD (σ[j]?)) (y::Nc).length;rw [Df,CM,C.len,Df]
def wT {X:Cx}{JM:π}{σ:St}{H:Hp}{s:JD}{y:Str}{Nc:xaj}{qual:Str}{params:Arguments}{body:JJ}{scope:Scope}{cl:xwa}{js:Fr}{f c':JB}{pm S2:JC}{te:TE}{k:Nat}{v:V}{u:JC}{Q:VK}{E:Κ}
  (I:Pi) (C:T7 X y Nc scope cl js) (hr:xuh (k+2)) (hf:xfK f (xHj qual body scope cl pm c' S2)) (NL:s.heap.CodeRec xrf qual)
  (O9:∀u,bindArgs (xIl qual params body scope cl pm xrf S2) (xid xi0)=pure [(y,u)]) (r:xdc)
  (he:PE (pG X (y::Nc) qual scope cl f xrf X.A.in1 s H) body te) (hq:te (ye js σ v) H Q):
  xKu xC4 xn9 E s:=by
 have hd:xJ4 X.A.in1.depth:=(show D' (k+1) X.A.in1 from hr.in1).depth;show xBW (kla_callFunE hd hf rfl C.co C.gen rfl NL ?_);show Tm O9 (Dl (wpAny_newFunctionEnv C.nocell (LE z hz) (λ h₁ YE hsb=>xcO ((I.ok.mod.nolimit.keeps I.bk).fresh _ hsb)) C.kind))
 ·show xib hz C.par
 show codeAny _ _ (.expr body (xDN qual scope f xrf cl)) _ _;have hk₁:∀b o,xeA->h₁.get? b=Id:=λ b o e=>hsb.extBut b o xyh xep
 refine kla_codeExpr (xdl (he [] _ (ye js σ v) H Q (xY I C r YE hk₁) hq) (Sc w' s' hs) z xAJ);obtain⟨v',H',J,r',q⟩:=hs;exact I.after ⟨v',H',J.os,J.bare,J.base,J.hok,r',q⟩
def Km.at (f:xoa b)(n:xmS):xwi b:=⟨n,f.2⟩
def uP {X:Cx}{JM:π}{σ:St}{H:Hp}{l f I S:JB}{xs:KB}{of:JK}{Q:VK}{E:Κ}(kf:xaQ Int)(hh:xtS)(hq:xhs l xs)(hf:∀v,of.data≠ xuZ)
  (step:∀(Ks:π) (s':JD) (H':Hp) (i:Nat) (v:V) (u:JC),xwm H' s'->xov f of->Β->xde=xab->xdc->
   xKu xC4 (EP X Ks σ λ r U4=>r=xwE i/\C' H' U4) xoo s')
  (fin:∀(i:Nat) (v:V) (H':Hp),xde=xab->(∀j,xfb j->xnN≤kf j/\(j<i->xnN<kf j))->Β->xbr v) (Xt:S≠I):
  ∀(r j i:Nat) (s':JD) (H':Hp) (vb:V) (ub:JC) (tb:Tok) (c:Nat),xgx (j+1)=r->xqH (j+1)->xj5->Β->xwi I->xwi S->xwi f->f≠I->f≠S->
   xov f of->xov S (xl7 #[ub,xwE i tb] c)->s'.heap.IsListIter I l (j+1)->xad xs vb->RelV vb ub->i≤j->(∀j',j'≤j->xnN≤kf j'/\(j'<i->xnN<kf j'))->
   xKB X.A (.builtin "min.loop" (xid [.ref I,xb0,.ref S])) (λ r L3=>match r with| .ok (.ret v)=>xn9 v L3| .ok _=>False| .error e=>E e L3) s':=by
 have O8:(toString "min"++toString ".loop":String)="min.loop":=Z9;intro r
 induction r with
 |zero=>
  intro j i s' H' vb ub tb c hr hj J sm fI fS ff Xa W9 Wj ZQ hit hvb rb Xn N2;have hin:xoO (j+1):=Dy hj (xwA hr);obtain⟨its,rv,pl,hz⟩:=J.list (sm.seq hq);show xo0 K1;have ZC:xeG I:=LT (by
   show xpI e hc n hd pl.isList;obtain⟨o2,e2,ec,ed⟩:=hit;rw [z,e2] at e;have e':=DK e;rw [<-e',ed] at hd;cases hd)
  have W:=xIu X.prog (w:=X.w) (A:=X.A.in1) hh I l ZC its.toArray;have hsz:xH5:=Dg ..;refine HU HZ ?_;rw [IF E8 _];show xu7 (xjp (xxu (.ref S) _) _) (Gb ZQ rfl ?_) (xjp (xxH (xJl I)>>= _) _) (Hv (W.done _ _ _ ⟨by rw [hsz,<-K1,<-hin];exact hit,pl.isList⟩ (Sc h' Y6 UT)));have J1:xkE H' s' Y6:=J.turned (it:=I) (λ b o n e=>UT b o (by simpa using n) e) fI.1 (Μ fI) (xoC fI) (xtj fI) (xrO fI.2);have Xu:=UT S _ (by simpa using Xt) ZQ;show xiy (xjp (updateSeq S (λ _=>#[])>>= _) _) ?_;refine xIo Xu (CS (Ig xdO));exact⟨vb,H',J1.turn fS,rb,fin i vb H' hvb (λ j' hj'=>N2 j' Z5) sm⟩
 |succ r ih=>
  intro j i s' H' vb ub tb c hr hj J sm fI fS ff Xa W9 Wj ZQ hit hvb rb Xn N2;have JO:xfb (j+1):=Iu hr;obtain⟨its,rv,pl,hz⟩:=J.list (sm.seq hq);show xo0 K1;have ZC:xeG I:=LT (by
   show xpI e hc n hd pl.isList;obtain⟨o2,e2,ec,ed⟩:=hit;rw [z,e2] at e;have e':=DK e;rw [<-e',ed] at hd;cases hd)
  have W:=xIu X.prog (w:=X.w) (A:=X.A.in1) hh I l ZC its.toArray;have hsz:xH5:=Dg ..;refine HU HZ ?_;rw [IF E8 _];show xu7 (xjp (xxu (.ref S) _) _) (Gb ZQ rfl ?_) (xjp (xxH (xJl I)>>= _) _) (Hv (W.item (j+1) _ _ _ (by show IO hsz (De JO K1)) ⟨hit,pl.isList⟩ λ u h' Y6 hP NO UT=>?_));have hu:its[j+1]?=xao:=by simpa using hP
  show xmN oI' TZ MN YC NO.1;obtain⟨v,hv,Za⟩:∃v,xfX (j+1)=xab/\xdc:=by
   obtain⟨u',e3,r3⟩:=xBG (j+1) (x:=xs[j+1]) (CU JO);show xhH hu e3 e3 (xav (CU JO) r3)
  have J1:xkE H' s' Y6:=J.turned (it:=I) (λ b o n e=>UT b o (by simpa using n) e) fI.1 (Μ fI) (xoC fI) (xtj fI) (xrO fI.2);have Xu:=UT S _ (by simpa using Xt) ZQ;have Xp:=UT f _ (by simpa using Xa) Wj;have Jp:=J1.pinned (fp:=[I,S,f]) (xa3 (by
   show xiS
   ·exact fI
   ·show xiS
    ·exact fS
    ·show xib hb ff)) (xa3 (by
   show xiS
   ·exact xav TZ (λ v z=>by show Tl YC z z)
   ·show xiS
    ·exact xav Xu d9
    ·show xib hb (xav Xp hf)))
  show xiy (xjp (xxH (holding xi0 xC4)>>= _) _) (Hv (EK (xdl (step _ _ H' (j+1) v u Jp Xp sm hv Za) (Sc x L3 he) hF hF.elim)));obtain⟨rv',H2,J2p,rr,re,Y8⟩:=he;subst re;show xga t2 t (x=xb1 (kf (j+1))) rr;have pin:∀{b:JB} {o:JK},b∈ [I,S,f]->xcu=Id->L3.heap.get? b=Id/\Ζ (H2 b):=λ {b o} hb e=>by
   have:=J2p.pin (b,o) xtm;show xaI xCw (Μ this)
  obtain⟨gI,nI⟩:=xyY TZ;obtain⟨gS,nS⟩:=xyY Xu;show xpq gf nf (xyY Xp) J2 J2p.unpinned;have sm02:=sm.trans Y8;have QD:L3.heap.IsListIter I l (j+1+1):=⟨oI',gI,MN,YC⟩;show xjp (xxH (holding [u,xpS (j+1)] (richCompare .Lt (xpS (j+1)) (xwE i tb)>>= _))>>= _) _;show xc1 (Hv (EK (CS (CmpOf.ints_lt (prog:=X.prog) (w:=X.w) (A:=X.A.in1) (P:=λ i v=>∃t,v=xb1 xnN) kf (λ i v h=>h) (j+1) i _ _ _ _ _ (xbn t2) (xbn tb) ?_)))) (EK (FW ?_));show xaG (Ig xdO);by_cases KI:kf (j+1)<xnN
  ·show xtQ c2 YN c2 (Re (xtE S (xHE #[u,xpS (j+1)]) S) (xl7 #[u,xpS (j+1)] c2)) (xbs (HN gS λ _=>#[u,xpS (j+1)]));simp only [KI,decide_true,if_true];show xaG ?_;refine xIo gS (CS xGG);rw [O8];have fS2:=fS.at nS;refine Dl ⟨xD0 _,ih (j+1) (j+1) _ H2 v u t2 c2 (xMz hr) JO (J2.turn fS2) sm02 xJF fS2 xJG Xa W9 ?_ YN ⟨oI',?_,MN,YC⟩ hv Za P3 (LE j' hj')⟩
   ·show xtE S _ f=_;show IO (Fd _ _ _ _ W9) gf
   ·show xtE S _ I=_;show IO (Fd _ _ _ _ Xt.symm) gI
   ·by_cases e:j'=j+1
    ·subst e;show xaI (Int.le_refl _) (xef h h xmT)
    ·have:=N2 j' Z5;show xaI (Int.le_trans (Jw KI) xCw) (λ _=>Int.lt_of_lt_of_le KI xCw)
  ·simp only [KI,decide_false,Fj,Ii];show xaG xGG;show Tm O8 (Dl ⟨xD0 _,ih (j+1) i _ H2 vb ub tb c (xMz hr) JO J2 sm02 xJF (fS.at nS) xJG Xa W9 gf gS QD hvb rb (Ek Xn) (LE j' hj')⟩);by_cases e:j'=j+1
   ·subst e;show xaI (Int.not_lt.mp KI) (λ _=>Z5)
   ·exact N2 j' Z4
def xM {X:Cx}{JM:π}{σ:St}{H:Hp}{s:JD}{l f:JB}{xs:KB}{of:JK}{Q:VK}{E:Κ}(I:Pi)(kf:xaQ Int)(hh:xtS)(hq:xhs l xs)(L5:xfb 0)(hf:∀v,of.data≠ xuZ)(ff:xoa f)(Wj:xfK f of)
  (step:∀(Ks:π) (s':JD) (H':Hp) (i:Nat) (v:V) (u:JC),xwm H' s'->xov f of->Β->xde=xab->xdc->
   xKu xC4 (EP X Ks σ λ r U4=>r=xwE i/\C' H' U4) xoo s')
  (fin:∀(i:Nat) (v:V) (H':Hp),xde=xab->(∀j,xfb j->xnN≤kf j/\(j<i->xnN<kf j))->Β->xbr v):
  xi9 (xqN "min" [xah] [(xmf,xb0)]) xn9 E s:=by
 have O8:(toString "min"++toString ".loop":String)="min.loop":=Z9;show xg1 rv pl hq;show xo0 K1;have SU:xg7 l:=by show xoW o e pl.isList xb4
 refine kmk_tree PySem.F.kind_min PySem.F.plain_min PySem.F.entry_min (kmk_min_key _ _) ?_;show xjp (xK2 ["key","default"] 0 ⟨[],[(xmf,xb0)]⟩>>= _) s;show xc1 (wpAny_of_eq (xdw (xK2 ["key","default"] 0 ⟨[],[(xmf,xb0)]⟩) (pure [xdU,none])) ?_) xdO;show xc1 (wpAny_pyIter_list pl.isList ?_) (xDP Ω);rw [O8];have hS:xw2 #[xah,xiI]=xdq:=size_push' ..;have ZC:xtL l:=DZ SU;have Xt:xtL (xw2 #[xah,xiI]):=by show IO hS (Gq xrV)
 refine Dl (xcO (xD0 _));have ME:∀b o,xeA->xyL (xzu #[xah,xiI] 0)=Id:=λ b o e=>xdR xep
 have gI:xjq (xzu #[xah,xiI] 0) s.heap.objs.size (xwJ "list_iterator" #[xah,xiI]):=
  xdR xfk
 have gS:xjq (xzu #[xah,xiI] 0) (xw2 #[xah,xiI]) (xl7 #[] 0):=xfk;have fI:xoa s.heap.objs.size:=I.fpOk P3 xjd;have fS:xoa (xw2 #[xah,xiI]):=xDO (by show IO hS xy6) (by show IO hS xy6);have Xa:xtL f:=DZ (Dt Wj);have W9:f≠xw2 #[xah,xiI]:=by show IO hS (DZ (Ic (Dt Wj)))
 have J0:xC0 (xzu #[xah,xiI] 0):=xFU ME;have Xk:(xzu #[xah,xiI] 0).IsList l its.toArray:=by
  show xa9 o e r pl.isList (xdx (ME _ _ e) r)
 have hf0:=ME _ _ Wj;show xqI (xw2 #[xah,xiI]) S (xzu #[xah,xiI] 0) h0;generalize s.heap.objs.size=Ia at*;have W:=xIu X.prog (w:=X.w) (A:=X.A.in1) hh Ia l ZC its.toArray;have hsz:xH5:=Dg ..;refine HU HZ ?_;rw [IF E8 _];show xu7 (xjp (xxu (.ref _) _) _) (Gb gS rfl ?_) (xjp (xxH (xJl Ia)>>= _) _) (Hv (W.item 0 _ _ _ (by show IO hsz (De L5 K1)) ⟨xlv _ gI,Xk⟩ λ u h' Y6 hP NO UT=>?_));have hu:its[0]?=xao:=by simpa using hP
 show xmN oI' TZ MN YC NO.1;obtain⟨v,hv,Za⟩:∃v,xfX 0=xab/\xdc:=by
  obtain⟨u',e3,r3⟩:=xBG 0 (x:=xs[0]) (CU L5);show xhH hu e3 e3 (xav (CU L5) r3)
 have J1:xkE H s Y6:=Inv.turned (s:=xi7 h0) (it:=Ia) J0 (λ b o n e=>UT b o (by simpa using n) e) fI.1 (Μ fI) (xoC fI) (xtj fI) (xrO fI.2);have Xu:=UT S _ (by simpa using Xt) gS;have Xp:=UT f _ (by simpa using Xa) hf0;have Jp:=J1.pinned (fp:=[Ia,S,f]) (xa3 (by
  show xiS
  ·exact fI
  ·show xiS
   ·exact fS
   ·show xib hb ff)) (xa3 (by
  show xiS
  ·exact xav TZ (λ v z=>by show Tl YC z z)
  ·show xiS
   ·exact xav Xu d9
   ·show xib hb (xav Xp hf)))
 show xiy (xjp (xxH (holding xi0 xC4)>>= _) _) (Hv (EK (xdl (step _ _ H 0 v u Jp Xp (C'.refl H) hv Za) (Sc x L3 he) hF hF.elim)));obtain⟨rv',H2,J2p,rr,re,Y8⟩:=he;subst re;show xga t2 t (x=xb1 (kf 0)) rr;have pin:∀{b:JB} {o:JK},b∈ [Ia,S,f]->xcu=Id->L3.heap.get? b=Id/\Ζ (H2 b):=λ {b o} hb e=>by
  have:=J2p.pin (b,o) xtm;show xaI xCw (Μ this)
 obtain⟨gI2,nI⟩:=xyY TZ;obtain⟨gS2,nS⟩:=xyY Xu;show xpq gf2 nf (xyY Xp) J2 J2p.unpinned;show xtQ c2 YN c2 (Re (xtE S (xHE #[u,xpS 0]) S) (xl7 #[u,xpS 0] c2)) (xbs (HN gS2 λ _=>#[u,xpS 0]));show xiy (xjp (updateSeq S (λ _=>#[u,xpS 0])>>= _) _) ?_;refine xIo gS2 ?_;rw [O8];have fS2:=fS.at nS;refine Dl ⟨xD0 _,uP kf hh hq hf step fin Xt _ 0 0 _ H2 v u t2 c2 rfl L5 (J2.turn fS2) Y8 xJF fS2 xJG Xa W9 ?_ YN ⟨oI',?_,MN,YC⟩ hv Za P3 (LE j' hj')⟩
 ·show xtE S _ f=_;show IO (Fd _ _ _ _ W9) gf2
 ·show xtE S _ Ia=_;show IO (Fd _ _ _ _ Xt.symm) gI2
 ·have e:j'=0:=Z5;subst e;show xaI (Int.le_refl _) (xef h h xmT)
inductive Rf (K:Frag) (P:JB) (pos:Pos) (qual:Str) (js:Fr) (te:TE) (σ:St) (Q:VK) (zs:KB) (H1:Hp):Prop
 |mk (p:JB) (xs:KB) (kf:xaQ Int) (h0:zs=xaO) (h1:xwl p xs) (h2:xfb 0) (h3:xzP P qual H1) (h4:(∀c xs,xwl c xs->Ν P)) (h5:∀H2,kn P H1 H2->xzP P qual H2->(∀(i:Nat) (v:V) (H':Hp),xde=xab->xsB H'->te (ye js σ v) H' λ r U4=>r=xwE i/\C' H' U4)/\∀(i:Nat) (v:V) (H':Hp),xde=xab->(∀j,xfb j->xnN≤kf j/\(j<i->xnN<kf j))->xsB H'->xbr v):Rf K P pos qual js te σ Q zs H1
def BC (K:Frag)(P:JB)(pos:Pos)(qual:Str)(js:Fr)(te:TE)(t:TA):TE:=λ σ H Q=>xd5 λ zs H1=>Rf K P pos qual js te σ Q zs H1
def ym {X:Cx}{k:Nat}{e:JJ}{body:JJ}{te:TE}{p:Pos}{kp:Pos}{pos:Pos}{TU:Pos}{y:Str}{Nc:xaj}{scope:Scope}{params:Arguments}{cl:xwa}{js:Fr}{P:JB}{c:JB}{t:TA}(hn:xtS)(hr:xuh (k+2))(hg:xuG "min")(hm:xmp "min")(C:T7 X y Nc scope cl js)(Q8:X.env.code=xuV)(hC:CodeHd X.base c P)
  (Xr:∃bm o,xL5=ST bm/\xKJ bm/\xJ7 bm/\X.base.get? bm=Id/\o.cls=xIK/\xJ9 o.dict/\xiQ .plain)
  (X3:xMy X.env=([],[])) (O9:∀(pm cd ct u:JC),bindArgs (xIl xkV params body scope cl pm cd ct) (xid xi0)=pure [(y,u)])
  (he:∀f c' s H,PE (pG X (y::Nc) xkV scope cl f xrf X.A.in1 s H) body te) (ha:xin [e] t)
  (hee:Ξ (xry (e:: [])=xhS::xCR)) (M0:xKQ)
  (J7:Ξ ((backToKw pos (keywordEach [⟨some "key",.Lambda params body scope TU,kp⟩] X.env)).all (·.1.isSome)=true))
  (hkw:Ξ ((backToKw pos (keywordEach [⟨some "key",.Lambda params body scope TU,kp⟩] X.env)).any (·.1.isNone)=false))
  (hfm:Ξ ((backToKw pos (keywordEach [⟨some "key",.Lambda params body scope TU,kp⟩] X.env)).filterMap (·.1)=[("key":Str)])):
  xnr "min" p [e] [⟨some "key",.Lambda params body scope TU,kp⟩] (BC X.K P TU xkV js te t):=by
 intro JM s σ H Q I h;show SC (E7 (xyJ I (xae (bootBuiltins "min") (xmc "min") Z8) ?_)) (xLw e (rest:=[]) (xc5 xl1 us) hee M0 J7 hkw);show xmK vs;obtain⟨l,xs,kf,rfl,hq,L5,hT,hnP,q⟩:=q1;show xot u ru (gs r1);obtain rfl:u=Value.ref l:=ru;refine kws_cons (wW I1 hT Q8 hC Xr X3 C.clos λ f c' pm S2 H2 s2 I2 ff Wj NL XX Sl sT=>kws_nil ?_);rw [hfm];obtain⟨qs,qf⟩:=q H2 sT Sl;show xel (xqN "min" [xah] [(xmf,xb0)]) s2;have LH:JS X.K H2 l xs:=by
  rcases hq with hq|hq
  ·rcases hq with z|⟨o,z⟩
   ·show xCP (xoe (hnP l xs (.inl (.inl z))) z)
   ·show xaN (xcv o (xoe (hnP l xs (.inl (xcv o z))) z))
  ·show xbX hq
 refine xM I2 kf hn LH L5 (λ v z=>by cases z) ff Wj (λ Ks s' H' i v u J hfo' sm hv ru=>?_) qf;obtain⟨oc,vs',t,hc,d1,d2⟩:=XX;have MN:xov c' oc:=(J.hok _ _ (xeQ hc)).1;exact wT J C hr hfo' ⟨c',oc,vs',t,rfl,MN,d1,d2⟩ (λ u=>O9 _ _ _ u) ru (he f c' s' H') (qs i v H' hv sm)
def y'.weak {K:Frag}(F:xg3 P w K CX k f fd ps sp)(h:∀vs H Q E,sp' vs H Q E->xgg):xg3 P w K CX k f fd ps sp':=
 ⟨λ vs H Q E z=>F.len vs H Q E (xjS _ _ z),λ A outer s H args us vs Q E hr e0 hb r z=>F.run A outer s H args us vs Q E hr e0 hb r (xjS _ _ z)⟩
inductive Pe (P:JE) (w:JF) (K:Frag) (mg:W1) (base:JI) (k:Nat) (m:Str) (t:TA) (σ:St) (Q:VK) (x:V) (H1:Hp):Prop
 |mk (a C dx:JB) (fs:xex) (f:JB) (fd:JG) (ps:xaj) (sp:Sp) (h0:x=SZ) (h1:H1 a=xj2) (h2:xI3 m) (h3:xgc) (h4:xpp K m f) (h5:Α k ps sp) (h6:xnq) (h7:t σ H1 λ vs H2=>sp (x::(vs++[])) H2 Q E0):Pe P w K mg base k m t σ Q x H1
def vx (P:JE)(w:JF)(K:Frag)(mg:W1)(base:JI)(k:Nat)(m:Str)(ta:TE)(t:TA):TE:=λ σ H Q=>xgf λ x H1=>Pe P w K mg base k m t σ Q x H1
def oS {X:Cx}{o:JJ}{e:JJ}{es:xif}{m:Str}{apos:Pos}{pos:Pos}{k:Nat}{ta:TE}{t:TA}{P:JE}{w:JF}{K:Frag}{mg:W1}{base:JI}{pl:xxX}(hP:X.prog=P)(hw:X.w=w)(hK:X.K=K)(hmg:X.mg=mg)(OV:X.base=base)(he:xmz o)(hr:xn7)(ha:xqm)
    (MD:Ξ (xns=xhS::xno)) (L0:xqx)
    (ht:Ξ (xg4 (xkF o m xdC)=(do
      let ov<-xpL
      xwG
      let xyQ f<-xwP [ov] ov m pl
      xyk f (xry xdC) (xvf pos [])))):
    Ρ (xkF o m xdC) (vx P w K mg base k m ta t):=by
  subst hP hw hK hmg OV
  intro JM s σ H Q I h
  refine He (pl:=pl) (xs8 _ I h u) ht
  obtain⟨x,H1,I1,rx,a,C,dx,fs,f,fd,ps,sp,ex,ea,l,c,hm,F,hb,q⟩:=z9
  subst ex
  obtain rfl:u=xcX:=rx
  show SC (dU I1 ea c hm l ?_) (HQ (first:=xbU) (h₀:=X.base) I.ok.mod.kin hm.kp (thn (xIi s1 H1 _ I1 q) λ us s2 ⟨vs,H2,I2,r,q2⟩=>xcO I2.kIn) MD L0)
  exact xDj (SZ::us) (vs:=SZ::vs) F hr hb .nil a7 I2 (.cons rfl r) q2
abbrev Ly (mg:W1)(h:JI):Prop:=∃bm o,mg "__builtins__"=ST bm/\xKJ bm/\xJ7 bm/\h.get? bm=Id/\o.cls=xIK/\xJ9 o.dict/\xiQ .plain
def tH {K:Frag}
  (KX:K.In s₁.heap) (YE:s₁.heap.Ns mainGlobals mg) (hb:s₁.heap.Ns builtinsNs mb) (hbb:∀x:Str,xzj->mb x=xwX) (hlim:s₁.heap.NoLimit) (hg:s₁.gens=#[])
  (ha:xIv a xCn) (hi:xuB vs) (hl:xcV ns.length) (hr:xqj callerA)
  (hT:xIv Tb (tabObj #[])) (hC:CodeHd s₁.heap c Tb) (hKT:xlz) (Xr:Ly mg s₁.heap)
  (F:∀base:JI,K.In base->xAg mg->xlV->xj3->xg3 P w K JU k fa fd xbl sp) (O9:∀(s:JD) (u:JC),xvA s xi0 [(x,u)])
  (Ow:∀H:Hp,xfh a xdk->xfG Tb xxj->xdB a->sp xbU H (λ v _=>v=xxx) xDV):
  xqS (model P w) callerA xKr xGT (λ r s'=>r=.ok xKx/\xKF/\s'.os=s₁.os/\xAp) s₁:=by
 have rv:=tF hi;have lenV:=hi.length;have naT:xdB a:=LT (by show xbY hT ha ha)
 have core:∀H,(∀b,xdB b->xdb\/∃ob xs,xal=xhb ob xrm)->xfG Tb xxj->xfh a xdk->xuS H s₁.heap->(∀b,xal≠none->b=a\/b=Tb)->(Uf≠none->xor a none)->
   xqS (model P w) callerA xKr xGT (λ r s'=>r=.ok xKx/\xKF/\s'.os=s₁.os/\xAp) s₁:=by
  intro H hO hHT hS hok hA hK;have base_of:∀{b} {o},xD1=Id->xdb->xyL xvh=Id:=λ e n=>vU e n
  have Yn:∀{b} {o},xD1=Id->(b=a->False)->(b=Tb->False)->xdb:=λ {b o} e n1 n2=>by
   cases q:xal with
   |none=>rfl
   |some u=>
    rcases hA b (by show xbD q) with z|z
    ·show xiR (n1 z)
    ·show xiR (n2 z)
  have Vb:∀{b} {o} {es:Array DictEntry} {ep:Nat},xD1=Id->xiQ (.dict es ep)->xdb:=λ {b o es ep} e d=>Yn e (LT (by
   show xba z ha e e;have d':xH3 _=Data.dict es ep:=d;cases d')) (LT (by
   show xba z hT e e;have d':Data.fields #[]=Data.dict es ep:=d;cases d'))
  have nsK:∀{b} {m},s₁.heap.Ns b m->(xvh).Ns b m:=λ {b m} ⟨o,es,ep,e,d,r⟩=>⟨o,es,ep,base_of e (Vb e d),d,r⟩
  have hKb:K.In xvh:=λ b o e=>base_of (KX b o e) (by
   cases q:xal with
   |none=>rfl
   |some u=>
    rcases hA b (by show xbD q) with z|z
    ·show xba z (hK (by show xbD q)) e e
    ·show xba z hKT e e)
  have hM:Mod K mg xvh:=⟨hKb,nsK YE,⟨mb,nsK hb,hbb⟩,let⟨mc,h1,h2⟩:=hlim;⟨mc,nsK h1,h2⟩⟩;have hCb:CodeHd xvh c Tb:=by
   obtain⟨o,vs',file,tf,flags,tg,inF,text,tt,e1,r1,r2,r3,r4,r5,r6,r7,r8,L5⟩:=hC;exact⟨o,vs',file,tf,flags,tg,inF,text,tt,base_of e1 (Yn e1 (LT (by
    show xba z ha e1 e1;have r2':xH3 _=Data.fields vs':=r2;cases r2')) L5),r1,r2,r3,r4,r5,r6,r7,r8,L5⟩
  have hBb:Ly mg xvh:=by
   obtain⟨bm,o,b1,b2,b3,b4,b5,b6,b7⟩:=Xr;exact⟨bm,o,b1,b2,b3,base_of b4 (Yn b4 (LT (by
    show xba z ha b4 b4;have b7':xH3 _=Data.plain:=b7;cases b7')) (LT (by
    show xba z hT b4 b4;have b7':Data.fields #[]=Data.plain:=b7;cases b7'))),b5,b6,b7⟩
  have e0:NR P w K mg xvh callerA [] s₁ H:=⟨rfl,hM,λ b o e=>yP e,Di (tu _ _),trivial,xa3 (xop (b∈([]:xaa)) hb Z6),hok,.of_eq hg,xbZ⟩;refine xAH ((F _ hKb (nsK YE) hCb hBb).run callerA [] s₁ H xGT xbU xbU _ _ hr e0 (O9 s₁ SZ) (xjn rfl) (Ow H hS hHT naT)) r s' h
  cases r with
  |error e=>show xeK h
  |ok fl=>
   cases fl with
   |next=>show xeK h
   |brk=>show xeK h
   |cont=>show xeK h
   |ret u=>
    obtain⟨v,H',os,bare,un,hok',r',q⟩:=h;have q':v=xxx:=q;subst q';obtain rfl:u=Value.bool true:=r';have keep:∀b o,xdB b->xD1=Id->s'.heap.get? b=Id:=λ b o n e=>by
     cases q:xal with
     |none=>exact un.keep b o e q (by intro z;exact xop (b∈([]:xaa)) z Z6) Z6
     |some u=>
      rcases hO b n with z|⟨ob,xs,z⟩
      ·show Tl q z z
      ·have z2:=un.frzs b ob _ z;obtain⟨e1,_⟩:=hok b _ z;obtain⟨e2,_⟩:=hok' b _ z2;show xhH e e1 e1 e2
    obtain⟨more,hm⟩:=un.tbls Tb #[] hHT;have hTo:xov Tb (tabObj (#[]++more)):=hok' Tb _ hm;refine⟨rfl,⟨xda b o,xda b o⟩,os,bare⟩
    ·by_cases z:b=Tb
     ·show xba z hT e e;show xbX (.inl ⟨(hC.tab hT).isCodeTable,rfl,#[],more,rfl,hTo⟩)
     ·show xaN (keep b o z e)
    ·by_cases z:b=Tb
     ·subst z;exact xbs hTo
     ·show xaI o (keep b o z e)
 cases hk:K.lookup a with
 |some o=>
  have e:=KX a o hk;show xnZ ha;refine core (λ b=>xbV b Tb (some xxj) none) (λ b n=>.inl (Dc n)) Τ (.inr ⟨_,vs.toArray,_,hk,rfl,rfl,rfl,by rw [Dg,lenV];exact hl,by simpa using rv⟩) (Sc b u z) (LE b z) (xef z (Dc naT) z)
  ·by_cases hb:b=Tb
   ·have z':=xAO (Dq hb);cases z';subst hb;exact hT
   ·have z':=xAO xCf;cases z'
  ·by_cases hb:b=Tb
   ·show xbX hb
   ·show xaW xCf z
 |none=>
  refine core (λ b=>xbV b Tb (some xxj) (xbV b a (xhb xCn (.lst xdk)) none)) (LE b n) Τ (.inl (xcv xCn (by show(xgL (a=Tb))=_;rw [Dc naT,Τ]))) (Sc b u z) (LE b z) λ _=>hk
  ·by_cases hb:b=a
   ·show xbX (xav _ (xBi n (Dq hb)))
   ·show xaN (xBi n xCf)
  ·by_cases Xs:b=Tb
   ·have z':=xAO (Dq Xs);cases z';subst Xs;exact hT
   ·by_cases hb:b=a
    ·have z':=xAO (xBi Xs (Dq hb));cases z';subst hb;exact⟨ha,by show xes hl,vs,_,rv,ha⟩
    ·have z':=xAO (xBi Xs xCf);cases z'
  ·by_cases Xs:b=Tb
   ·show xbX Xs
   ·by_cases hb:b=a
    ·show xaN hb
    ·show xaW (xBi Xs xCf) z
def UE {l:PySem.W.OpenLaw}{K:Params->Frag}{sp:JF->Sp}
  (hn:xHh n) (Ox:xcV n) (ZK:xIF []) (hr:xqj callerA)
  (hY:∀(w:JF) (h:JI),YP w h->xy2 h/\xhc Tb (tabObj #[])) (hC:∀w:JF,NE (codeHdIn xmg c Tb)) (hKT:∀w:JF,xkW xmg Tb)
  (F:∀(w:JF) (mg:W1) (fa:JB) (h:JI),xy2 h->xsH->mg d.name=ST fa->
   ∃fd:JG,(∀(s:JD) (u:JC),xvA s xi0 [(x,u)])/\
    ∀base:JI,xy2 base->xAg mg->xlV->xj3->xg3 l.prog w xmg JU k fa fd xbl (sp w))
  (Ow:∀(w:JF) (H:Hp) (a:JB) (ns:xjr),xBw n->JS xmg H a xdk->xfG Tb xxj->xdB a->sp w xbU H (λ v _=>v=xxx) xDV):
  PySem.W.WalkO q loose XP YP l.row.toRowW d [] (λ f vs=>xJb vs):=by
 show xhh (Att.Qb hn ZK λ w s₀ s₁ mg mb fa o pm cd doc a vs ns G Y ho hd NL hmg XY hints hlen hg=>?_) KX hT (hY w _ Y);obtain⟨fd,hb,hF⟩:=F w mg fa _ KX G.T.g hmg;have Xr:Ly mg s₁.heap:=by
  obtain⟨bm,ob,b1,b2,b3,b4,b5,b6⟩:=G.T.bmain;refine⟨bm,ob,b1,b2,xcl z,b3,b4,b5,b6⟩;obtain⟨o,es,ep,e,hd,_⟩:=G.T.g;show xbY e b3 b3;show Tl hd b6 b6
 exact tH KX G.T.g G.T.b G.T.builtins G.T.nolimit hg XY hints (CV hlen Ox) hr hT (codeHd_of_K KX (hC w)) (hKT w) Xr hF hb λ H hS hHT na=>Ow w H a ns hlen hS hHT na
universe L2
namespace L2
open PySem
def qQ {a b x:Str}{i j k:Nat}(h1: xa6 [a,b]=Χ)(h2: xad [none,some k] (some j)):x=b/\j=k:=by
 rcases i with _|_|i
 ·cases h2
 ·show xgk h1 h2;exact xmi
 ·cases h1
def slotsL {b c x:Str}{i j k l:Nat}(h1: xa6 [b,c]=Χ)(h2: xad [k,l] j):(x=b/\j=k)\/(x=c/\j=l):=by
 rcases i with _|_|i
 ·show xgk h1 h2;show xaN xmi
 ·show xgk h1 h2;show xbX xmi
 ·cases h1
universe L2
namespace K31
open PySem L2 QQ W17 W16 BP
seal PE PA PS PSs PT PW PG PI
def K8 (u:Nat)(W T:Fr)(ps:xaJ):Prop:=
 match u with
 |0=>ps=xnH
 |1=>ps=pf true T
 |2=>∃Pp,xs9 (W++T) Pp W T/\ps=pP Pp
 |3=>∃(Pp:xek) (L:Fr) (It:xqW) (b:Nat),xs9 (W++T) Pp W T/\Sr xA8 L/\xxm 0 0 It 272 b/\ps=xi8++xr1
 |_=>False
structure TW (T W:Fr):Prop where
 tb:xdo T
 one:xgw 1
 le:xsI
 wb:xdo W
 wl:xm4
def Sr.len (h:Sr Q L):xlk:=by
 obtain⟨ln,_,rfl,_⟩:=h;simp
theorem K8.uniq {u:Nat}(h:xod)(h':K8 u W T ps'):ps=ps':=by
 show xBe u
 ·exact JA h (F1 h')
 ·exact JA h (F1 h')
 ·obtain⟨P,w,e⟩:=h;obtain⟨P',w',e'⟩:=h';rw [e,e',dO w w']
 ·obtain⟨P,L,It,b,w,sl,wi,e⟩:=h;obtain⟨P',L',It',b',w',sl',wi',e'⟩:=h';have eP:=dO w w';subst eP;have eL:=sl.uniq sl';subst eL;have hl:=sl.len;rw [<-hl] at wi wi';rw [e,e',sE wi wi']
 ·show xeK h
def oE (t:xkv){It:xqW}(w:xs9 (W++T) Pp W T)(sl:Sr xA8 L)(wi:xxm 0 0 It 272 b):
  GR W Pp/\runP W Pp=W++T/\xgw Pp.length/\xEG/\XD L Pp/\(xF4 It x)/\xoB 0=L:=by
 obtain⟨gr,TV,Ts⟩:=xHw t.tb w;have h1:=t.one;have Wm:=lR w (by show IO CN (EN h1));have tok:=sl.tok gr Wm;exact⟨gr,TV,Ts,Wm,tok,W13.MQ tok.six wi,sW tok.len wi⟩
def K8.good {u:Nat}(h:xod)(t:xkv):xHq/\xcx≤1712:=by
 have hl:=t.le;show xBe u
 ·have h:ps=xnH:=h;have:=sf false T;show IO h ⟨rC false hl t.tb,Z5⟩
 ·have h:ps=pf true T:=h;have:=sf true T;show IO h ⟨rC true hl t.tb,Z5⟩
 ·obtain⟨P,w,e⟩:=h;obtain⟨gr,TV,Ts⟩:=xHw t.tb w;have:=lO P;show xeY ⟨rn gr,Z5⟩
 ·obtain⟨P,L,It,b,w,sl,wi,e⟩:=h;obtain⟨gr,TV,Ts,Wm,tok,hIt,hdec⟩:=oE t w sl wi;have h1:=lf tok.six P;have h2:=iQ 0 hIt;rw [hdec,tok.len] at h2;show Tm e ⟨LE q hq,by show xam aP⟩;show xbR hq z z
  ·exact W13.SN hIt q z
  ·exact yl tok gr q z
 ·show xeK h
def yR (S):∀n p,xrC p=n->xfL p->∃Pp,xil S Pp S.length:=by
 intro n
 induction n using Nat.strongRecOn with
 |ind n ih=>
  intro p hn hp;by_cases e:xrQ p
  ·show xaI [] e
  ·have JO:xdN p:=D8 hp e;have hz:=gT JO;show xa4 Pp w (ih (xrC (p+xB4)) Z5 (p+xB4) rfl hz.2) (xdm (xo9::Pp) JO w)
def gi (W T):∃Pp,xs9 (W++T) Pp W T:=yR _ _ _ rfl (by show xam CN)
inductive spT (u:Nat) (B:JB) (vs:KB) (H:Hp) (Q:VK) (JT:XK):Prop
 |mk (o p d a:JB) (x:V) (T W:Fr) (N T0:Nat) (h0:vs=[xfU,Φ,SZ,x]) (h1:xkJ B N T0) (h2:xbH T0) (h3:Uf=xbJ) (h4:xhW) (h5:xkv) (h6:∀(ps:xaJ) (H':Hp),xod->xjR B H' ps N (T0+xcx)->xcT (∀c o,WF=Id->xai->xfq->xaB=Id)):xtc u vs H Q JT
inductive spC (u:Nat) (C:JB) (vs:KB) (H:Hp) (Q:VK) (JT:XK):Prop
 |mk (o dx a:JB) (x:V) (T W:Fr) (h0:vs=[xfU,SZ,x]) (h1:H o=xwc) (h2:Uf=xbJ) (h3:xhW) (h4:xkv) (h5:∀(ps:xaJ) (H':Hp),xod->Β->xrR xcx):spC u C vs H Q JT
def spN (u:Nat):Sp:=λ vs H Q _=>∃o,vs=[xfU]/\xlm u H
structure Pd (P:JE)(w:JF)(K:Frag)(mg:W1)(base:JI)(B D C:JB)(u:Nat):Prop where
 cl:xgc
 num:∃f fd,xpp K "number" f/\xy7/\xgS (spN u)
 tell:∃f fd,xpp K "tell" f/\xjK Jac/\Α 35 Jac (xtc u)
 cost:∃f fd,xpp K "cost" f/\xjK xBx/\Α 36 xBx (spC u C)
def Uy:Ps ["self","text","before","bits"] xBx vj:=M2
def iF (F:Υ "cost" "Way.cost" vj)(Z:VF K mg B)(clW:xgc)(Te:xpp K "tell" fT)(bT:Binds K YZ Jac [])(GT:xiv 35 fT YZ Jac (xtc u)):
  Α 36 xBx (spC u C):=by
 have X:=Z.R.X;show xjf bI MI Z.init;show xgo Ma Z.many TB Z.T;show xau Uy (λ JN A outer st H vs Q E hr h=>?_);obtain⟨o,dx,a,x,T,W,rfl,ho,ha,hx,tw,k⟩:=h;have L4:xqc:=PP;have J5:xa0:=PP;show xbf (xaU 3 Uy.nd (xp2 (nO FI TB) L4 Z.m bI a7) (aB (lH Os clW Te GT hr bT .nil a7 (xdn UF KM On))) (xh0 UF TB.cl Ma (xk Ma.F TB X))) xbu
 intro p dp np Qe UO;have SS:(xi2 (xe9 H dp p) p B dp) p=xi4 B dp []:=ac;have s0:xcn (xi2 (xe9 H dp p) p B dp):=λ c o e=>by
  rw [xhZ np,xhZ Qe];exact e
 show xbI (xay p dp SS (λ d H1 nd hB kp=>xb2 χ));have nd0:XV d:=xgu nd;have s1:xnk:=λ c o e=>xap xpo xo4
 clear s0 SS kp;show xds ⟨_,rfl,o,dx,_,rfl,xch ho,rfl,_,rfl,_,rfl,_,rfl,o,p,d,a,x,T,W,0,0,rfl,hB,Z9,xln,xJy,tw,λ ps H2 SR Lw NC=>χ⟩;have s2:xiq:=λ c o e=>xqq xb5 xo4 (xoX nd0)
 obtain⟨Ql,r2,k2,J9⟩:=Lw.ob;show xfW ⟨_,rfl,p,Ql,_,rfl,J9,xhV,p,d,_,_,rfl,Lw,?_⟩ Er (k ps _ SR s2)
structure WC (K:Frag)(mg:W1)(C CW:JB):Prop where
 cl:xgc
 mkb:MkB K C
 cost:∃f fd,xsX "cost" "Way.cost" vj xBx f fd
structure Raw (K:Frag)(mg:W1)(C CW:JB):Prop where
 W:WC K mg C CW
 m:mg "RawWay"=xhM
 num:∃f fd,xG1 "RawWay.number" fD
 tell:∃f fd,xF6 "RawWay.tell" i9 Jac f fd
structure Run (K:Frag)(mg:W1)(C CW:JB):Prop where
 W:WC K mg C CW
 m:mg "RunWay"=xhM
 num:∃f fd,xG1 "RunWay.number" fU
 tell:∃f fd,xF6 "RunWay.tell" jh Jac f fd
structure Cpy (K:Frag)(mg:W1)(C CW:JB):Prop where
 W:WC K mg C CW
 m:mg "CopyWay"=xhM
 num:∃f fd,xG1 "CopyWay.number" eV
 tell:∃f fd,xF6 "CopyWay.tell" g9 Jac f fd
structure Shr (K:Frag)(mg:W1)(C CW:JB):Prop where
 W:WC K mg C CW
 m:mg "ShareWay"=xhM
 num:∃f fd,xG1 "ShareWay.number" il
 tell:∃f fd,xF6 "ShareWay.tell" lG Jac f fd
def sr (F:Α k ps sp)
  (h:∀(o p d a:JB) (x:V) (T W:Fr) (N T0:Nat) (H:Hp) (Q:VK) (E:XK),xkJ B N T0->xbH T0->Uf=xbJ->xhW->xkv->
   (∀(ps:xaJ) (H':Hp),xod->xjR B H' ps N (T0+xcx)->xcT (∀c o,WF=Id->xai->xfq->xaB=Id))->sp [xfU,Φ,SZ,x] H Q E):Α k ps (xtc u):=by
 refine F.weak λ vs H Q E z=>?_
 obtain⟨o,p,d,a,x,T,W,N,T0,rfl,hB,h0,ha,hx,t,k⟩:=z;exact h o p d a x T W N T0 H Q E hB h0 ha hx t k
def zi (R0:Raw K mg C CW)(S0:U3 K mg B D G):Pd P w K mg base B D C 0:=by
 show Η N R0.num T R0.tell;show xFG;have GT:xiv 35 _ _ Jac (xtc 0):=sr ((qT (P:=P) (w:=w) (base:=base) T.F S0.Y S0.Zb).mono (k:=35) Z9) λ o p d a x T W N T0 H Q E hB h0 ha hx t k=>
  ⟨o,p,d,a,x,T,W,N,T0,rfl,hB,h0,ha,t.tb,t.one,t.le,hx,t.wb,t.wl,λ H'=>xcF H' rfl⟩
 show xaC R0.W.cl (xdZ _ N.m N.b (mP N.F)) (xdZ _ T.m T.b GT) (xdZ _ Co.m Co.b (xHx T.m T.b GT))
def zC (R0:Run K mg C CW)(S0:U3 K mg B D G){fR:JB}{fdR:JG}(Ro:xbt "runs_of" gG xxG fR fdR):Pd P w K mg base B D C 1:=by
 show Η N R0.num T R0.tell;show xFG;have GT:xiv 35 _ _ Jac (xtc 1):=sr ((pW (P:=P) (w:=w) (base:=base) T.F Ro S0.Y S0.Zb).mono (k:=35) Z9) λ o p d a x T W N T0 H Q E hB h0 ha hx t k=>
  ⟨o,p,d,a,x,T,W,N,T0,rfl,hB,h0,ha,t.tb,t.one,t.le,hx,t.wb,t.wl,λ H'=>xcF H' rfl⟩
 show xaC R0.W.cl (xdZ _ N.m N.b (mQ N.F)) (xdZ _ T.m T.b GT) (xdZ _ Co.m Co.b (xHx T.m T.b GT))
def zB (R0:Cpy K mg C CW)(S0:U3 K mg B D G):Pd P w K mg base B D C 2:=by
 show Η N R0.num T R0.tell;show xFG;have GT:xiv 35 _ _ Jac (xtc 2):=sr ((tW (P:=P) (w:=w) (base:=base) T.F S0.Y S0.Zb).mono (k:=35) Z9) λ o p d a x T W N T0 H Q E hB h0 ha hx t k=>by
  show xa4 Pp hw (gi W T) ⟨o,p,d,a,x,T,W,Pp,N,T0,rfl,hB,h0,ha,t.tb,t.one,t.le,hx,t.wb,t.wl,hw,λ H'=>xcF H' (xdt Pp hw)⟩
 show xaC R0.W.cl (xdZ _ N.m N.b (wL N.F)) (xdZ _ T.m T.b GT) (xdZ _ Co.m Co.b (xHx T.m T.b GT))
def AI (R0:Shr K mg C CW)(S0:U3 K mg B D G):Pd P w K mg base B D C 3:=by
 show Η N R0.num T R0.tell;show xFG;have GT:xiv 35 _ _ Jac (xtc 3):=sr (uB (P:=P) (w:=w) (base:=base) T.F S0) λ o p d a x T W N T0 H Q E hB h0 ha hx t k=>by
  show xa4 Pp hw (gi W T) ⟨o,p,d,a,x,T,W,Pp,N,T0,rfl,hB,h0,ha,t.tb,t.one,t.le,hx,t.wb,t.wl,hw,λ L It b H' sl wi=>xcF H' ⟨Pp,L,It,b,hw,sl,wi,rfl⟩⟩
 show xaC R0.W.cl (xdZ _ N.m N.b (vJ N.F)) (xdZ _ T.m T.b GT) (xdZ _ Co.m Co.b (xHx T.m T.b GT))
noncomputable def cst (u:Nat) (W T:Fr):Nat:=open Classical in if h:∃ps,xod then tots h.choose else 0
def jk (h:xod):xkK u=xcx:=by
 have e:∃ps,xod:=⟨ps,h⟩;unfold cst;rw [dif_pos e,K8.uniq e.choose_spec h]
def gx4 {os:xaQ JB}(hi:i<4):xa6 ([xia 0,xia 1,xia 2,xia 3]:KB)=ST xvz:=by
 rcases i with _|_|_|_|i
 all_goals first|rfl|lia
def ix4 {os:xaQ JB}(e:xa6 ([xia 0,xia 1,xia 2,xia 3]:KB)=xab):i<4/\v=xia i:=by
 have hi:i<4:=xco e;show UV (gx4 hi) e ⟨hi,xB5 e⟩
noncomputable def cs (C0 C1 C2 C3:JB):xaQ JB
 |0=>C0
 |1=>C1
 |2=>C2
 |_=>C3
structure S3 (K:Frag)(mg:W1)(B D C CW C0 C1 C2 C3:JB):Prop where
 S0:U3 K mg B D C
 runsof:TD "runs_of" gG xxG
 raw:Raw K mg C0 CW
 run:Run K mg C1 CW
 cpy:Cpy K mg C2 CW
 shr:Shr K mg C3 CW
 ways:TD "ways" wY []
def S3.ok (Z:S3 K mg B D G CW C0 C1 C2 C3)(hi:i<4):Pd P w K mg base B D (cs C0 C1 C2 C3 i) i:=by
 obtain⟨_,_,Ro⟩:=Z.runsof
 match i,hi with
 |0,_=>exact zi Z.raw Z.S0
 |1,_=>exact zC Z.run Z.S0 Ro
 |2,_=>exact zB Z.cpy Z.S0
 |3,_=>exact AI Z.shr Z.S0
def bf (np:xgU)(nd:XV d):xcn (xi2 (xe9 H d p) p C d):=λ c o e=>by
 rw [xhZ np,xhZ nd];exact e
inductive Uc (C:xaQ JB) (vs:KB) (H:Hp) (Q:VK) (JT:XK):Prop
 |mk (h0:vs=[]) (h1:∀(l:JB) (os ds:xaQ JB) (H':Hp),Θ->(∀i,i<4->XV xvz)->xaq=Ι [xia 0,xia 1,xia 2,xia 3]->(∀i,i<4->H' xvz=xi4 (C i) (ds i) [])->Β->xak):Uc C vs H Q JT
def zK:Ps [] [] wY:=M2
def se (F:Υ "ways" "ways" wY)(Z:S3 K mg B D G CW C0 C1 C2 C3):xey [] (Uc (cs C0 C1 C2 C3)):=by
 show xau zK (λ JN A outer st H vs Q E hr h=>?_);show xbp rfl k h (xee (aT (aa (gm Z.raw.W.mkb Z7 Z.raw.m) (xdn (gm Z.run.W.mkb Z7 Z.run.m) (gm Z.cpy.W.mkb Z7 Z.cpy.m) (gm Z.shr.W.mkb Z7 Z.shr.m)))));intro p0 d0 n0 m0 e0 p1 d1 n1 m1 e1 p2 d2 n2 m2 e2 p3 d3 n3 m3 e3;have s0:=xh8 C0 n0 m0;show xbB g0 ((xi2 (xe9 H d0 p0) p0 C0 d0) p0=_) ac (xi2 (xe9 H d0 p0) p0 C0 d0) H1;have s1:=xh8 C1 n1 m1;show xbB g1 ((xi2 (xe9 H1 d1 p1) p1 C1 d1) p1=_) ac (xi2 (xe9 H1 d1 p1) p1 C1 d1) H2;have s2:=xh8 C2 n2 m2;show xbB g2 ((xi2 (xe9 H2 d2 p2) p2 C2 d2) p2=_) ac (xi2 (xe9 H2 d2 p2) p2 C2 d2) H3;have s3:=xh8 C3 n3 m3;show xbB g3 ((xi2 (xe9 H3 d3 p3) p3 C3 d3) p3=_) ac (xi2 (xe9 H3 d3 p3) p3 C3 d3) H4;have V6:xiq:=λ c o e=>xch xpo
 have QO:xcn H3:=λ c o e=>xca (V6 _ _ e)
 have U6:xcn H4:=λ c o e=>xbL (QO _ _ e)
 have Qc:xvV H4:=λ c o e=>xyu xb5
 have s24:xsB H4:=λ c o e=>xyu e
 refine xem (by show xcR (xkx 4)) l nl;have s5:C' H4 (xej H4 [.ref p0,.ref p1,.ref p2,.ref p3]):=λ c o e=>(xhZ nl).trans e
 refine xdE (cs p0 p1 p2 p3) (cs d0 d1 d2 d3) _ (xoM U6) (LE i hi) ac (LE i hi) (λ c o e=>xar (U6 _ _ e))
 ·match i,hi with
  |0,_=>exact n0
  |1,_=>exact xgu n1
  |2,_=>exact none_of V6 n2
  |3,_=>exact none_of QO n3
 ·match i,hi with
  |0,_=>exact xar (Qc _ _ g0)
  |1,_=>exact xar (s24 _ _ g1)
  |2,_=>exact xar (xbL g2)
  |3,_=>exact xar g3
def qz {x y z:Str}{a b c:JB}(h:xEo [(y,a),(z,b)]=xaV):(x=y/\c=a)\/(x=z/\c=b):=by
 show xvD List.lookup h h
 ·rename_i e
  cases h;show xaN (xbn (by show xzo))
 ·show xvD List.lookup h h
  ·rename_i e
   cases h;show xbX (xbn (by show xzo))
  ·cases h
structure O5 (K:Frag)(x qual:Str)(st:JL)(dV:JC)(c f:JB)(fd:JG):Prop where
 ex:∃(oc:JC) (od:xhf) (kV doc pm:JC) (an:xhf) (ct:JC) (osl:xmB),
  fd=xxc x qual dV doc pm an xuV ct/\xj7 f oc od fd osl/\xji K xuV qual
 kp:xhT
def O5.ok (F:O5 K x qual st dV c f fd)(S:Ps N ps st)
  (hb:∀(A:JH) (outer:xfN) (s:JD) (H:Hp) (vs:KB) (Q:VK) (E:XK),xAX k (PyProof.Rows.envOfC qual xqG s.heap.objs.size f xuV)->xgg->
   let X:=(xjz JU P w K mg N qual xqG f xuV A outer s H E).nox;∃t,xhB xz2 t/\xyI H' xtB Q xlh H) (len:xFj (∀vs H Q E,xgg->xqY)):Α (k+1) ps sp:=by
 obtain⟨oc,od,kV,doc,pm,an,ct,osl,rfl,lk,NL⟩:=F.ex;refine uU lk NL S len λ A outer s H vs Q E hr Ow=>?_
 show xa9 t h q (hb A outer s H vs Q E hr Ow) ⟨t,h.nox,q⟩
abbrev zo:Pos:=⟨501,27,501,61⟩
abbrev MF (Tb:JB)(H:Hp):Prop:=MK Tb zo ("best_way.<locals>."++"<lambda>") H
def _root_.L2.MK.ne (h:MK Tb p q H)(e:Uf=Id)(hn:∀ps,o≠ xxN):xdB a:=by
 rintro rfl;obtain⟨ps,e',_⟩:=h;show UV e e' (hn ps (DK e'))
def _root_.L2.MK.sq (h:MK Tb p q H)(hK:xlz)(e:xeB):xdB a:=by
 rcases e with(e|⟨o,e⟩)|⟨o,its,n,e,_⟩
 ·exact h.ne e (by intro ps z;cases z)
 ·exact h.ne e (by intro ps z;cases z)
 ·rintro rfl;show xnZ hK
def K7.sameT (h:xhW)(t:xlQ)(s:kn Tb H H'):K7 H' x W:=by
 rcases h with h|⟨a,e,h⟩
 ·show xaN h
 ·show xbX ⟨a,e,xgi (t.ne h (by intro ps z;cases z)) h⟩
inductive Uu (Tb:JB) (C:xaQ JB) (vs:KB) (H:Hp) (Q:VK) (JT:XK):Prop
 |mk (a:JB) (x:V) (T W:Fr) (h0:vs=[SZ,x]) (h1:Uf=xbJ) (h2:xhW) (h3:xkv) (h4:xlQ) (h5:∀(i:Nat) (o dx:JB) (H':Hp),i<4->XV o->H' o=xea (C i) []->(∀j,j<4->xkK i≤xkK j/\(j<i->xkK i<xkK j))->kn Tb H H'->xnp->xbr xfU):Uu Tb C vs H Q JT
def y8:Ps Jae Jae iY:=M2
def yy (F:O5 K "best_way" "best_way" iY dV c f fd)(Z:S3 K mg B D G CW C0 C1 C2 C3)(hm:xfQ "min")(hC:xlV)(hB:xj3)(hK:xlz):
  Α 39 Jae (Uu Tb (cs C0 C1 C2 C3)):=by
 show xmQ Wy Z.ways y8 (λ A outer st H vs Q E hr h=>?_)
 intro _;obtain⟨a,x,T,W,rfl,ha,hx,tw,hT,k⟩:=h;have J5:xa0:=PP;have hn:=xuO;refine xee (ym (k:=36) (y:="way") (Nc:=["text","before"]) (js:=[0,1]) (cl:=[("text",xD8 1),("before",xD8 1+1)]) (P:=Tb) (c:=c) hn hr Z7 hm
  ⟨rfl,rfl,rfl,Z8,rfl,Z7,λ x c h=>?c0,λ x hx=>?c1,rfl,λ i x j h1 h2=>?c2⟩ rfl hC hB Z7 (λ pm cd ct u=>Z7)
  (λ f' c' s H=>oS (P:=P) (w:=w) (K:=K) (mg:=mg) (base:=base) (k:=36) rfl rfl rfl rfl rfl Os (hr.in1.deeper _) (xbo KM On))
  (xa7 (m5 (se Wy.F Z) J5 Z7 Wy.m Wy.F.kp Wy.b .nil a7)))
 case c0=>
  rcases qz h with⟨rfl,rfl⟩|⟨rfl,rfl⟩<;>rfl
 case c1=>
  rcases hx with hx|hx
  ·have m':(x,NameKind.cell)∈([xmF "way",("before",.free),("text",.free)]:xw9):=xzQ;simp at m'
  ·have m':(x,NameKind.free)∈([xmF "way",("before",.free),("text",.free)]:xw9):=xzQ;have e:x="before"\/x="text":=by simpa using m'
   rcases e with rfl|rfl<;>exact xbg
 case c2=>rcases slotsL h1 h2 with⟨rfl,rfl⟩|⟨rfl,rfl⟩<;>exact xdm rfl rfl (λ c h=>h)
 refine xb2 (λ l os ds H1 nl no hl ho s1=>⟨l,_,λ i=>KF (xkK i),rfl,.inl (.inl hl),Nat.zero_lt_succ _,xBj,λ c xs h=>(xBj).sq hK h,Sc H2 sT Sl⟩);have Oy:=xBj;have YD:∀i,i<4->H2 xvz=xi4 (cs C0 C1 C2 C3 i) (ds i) []:=λ i hi=>xoe (Oy.ne (ho i hi) (by intro ps z;cases z)) (ho i hi)
 refine⟨λ i v H' hv sm=>?_,λ i v H' hv VU sm=>?_⟩
 ·show xcI hi (ix4 hv);have WK:=Z.ok (P:=P) (w:=w) (base:=base) hi;obtain⟨fc,fdc,mc,bc,Gc⟩:=WK.cost;refine⟨_,rfl,xvz,_,ds i,[],fc,fdc,_,_,rfl,xeQ (YD i hi),rfl,WK.cl,mc,Gc,bc,_,rfl,_,rfl,xvz,ds i,a,x,T,W,rfl,xeQ (YD i hi),xeQ (xoe (Oy.ne xln (by intro ps z;cases z)) xln),((xJy).sameT Oy sT).same sm,tw,λ ps U4 SR Y8=>⟨?_,Y8⟩⟩;show vN xcx=vN (xkK i);rw [jk SR]
 ·show xcI hi (ix4 hv);refine k i xvz (ds i) H' hi (no i hi) (xeQ (YD i hi)) xte (λ c o n e=>xeQ (xoe n xb5)) (Sl.same sm);show xa4 z1 z2 (VU j hj) ⟨I0.mp z1,λ hji=>F7.mp (z2 hji)⟩
universe K31
namespace CK
noncomputable def T (w p s:Nat):Nat:=((s*2)%2^w)^^^xeW (s.testBit (w-1)) p 0
def BZ {w p s:Nat}(hp:p<2^w):T w p s<2^w:=by
 unfold T;refine Nat.xor_lt_two_pow (FV _ xjI) ?_
 split
 ·exact hp
 ·exact xjI
noncomputable def Tn (w p:Nat):xaQ xcs
 |0,s=>s
 |n+1,s=>T w p (Tn w p n s)
def Tn_lt {w p n s:Nat}(hp:p<2^w)(hs:s<2^w):Tn w p n s<2^w:=by
 cases n with
 |zero=>exact hs
 |succ n=>exact BZ hp
def B (w p s b:Nat):Nat:=Tn w p 8 (s^^^(b*2^(w-8)))
def G (w p:Nat):xhD xcs
 |0,s,_=>s
 |n+1,s,V=>B w p (G w p n s (V/256)) (V%256)
def G_lt {w p n s V:Nat}(hp:p<2^w)(hs:s<2^w):G w p n s V<2^w:=by
 cases n with
 |zero=>exact hs
 |succ n=>exact BZ hp
universe CK
namespace K31.Ck
open PySem L2 QQ BP
seal PE PA PS PSs PT PW PG PI
abbrev sn:JL:=top 34
abbrev sCInit:JL:=xaD 35 0
abbrev Aa:JL:=xaD 35 1
abbrev p5:JL:=xaD 35 2
abbrev je:JL:=top 36
structure Txt (K:Frag)(mg:W1):Prop where
 R:xks
 tabA:∃d,mg "ALL_ONES"=xlJ/\QG K d 255 65535
 tabL:∃d,mg "LOWER_BITS"=xlJ/\QG K d 29 45
def mX (a):∀b,a+b=(a^^^b)+2*(a&&& b):=by
 induction a using Nat.strongRecOn with
 |_ a ih=>
  intro b;by_cases h0:a=0
  ·subst h0;simp
  ·have h:=ih (a/2) (Nat.bitwise_rec_lemma h0) (b/2);have e1:(a^^^b)/2=a/2^^^b/2:=Nat.xor_div_two_pow (n:=1);have e2:(a&&& b)/2=a/2&&& b/2:=Nat.and_div_two_pow (n:=1);have m1:(a^^^b)%2=a%2^^^b%2:=Nat.xor_mod_two_pow (n:=1);have m2:(a&&& b)%2=a%2&&& b%2:=Nat.and_mod_two_pow (n:=1);have d1:=HG (a^^^b) 2;have d2:=HG (a&&& b) 2;rw [e1,m1] at d1;rw [e2,m2] at d2;clear e1 e2 m1 m2 ih h0;have k:a%2+b%2=(a%2^^^b%2)+2*(a%2&&& b%2):=by
    rcases IV a with e|e<;>rcases IV b with f|f<;>rw [e,f]<;>rfl
   have:=HG a 2;have:=HG b 2;generalize a/2^^^b/2=u,a/2&&& b/2=v,a%2^^^b%2=x,a%2&&& b%2=y,a^^^b=m,a&&& b=n,a/2=q,b/2=r,a%2=t,b%2=z at*;lia
def mW (a b:Nat):Builtin.bitXor xzv xnv=KF (a^^^b):=by
 have e:Builtin.bitXor xzv xnv=xzv+xnv-2*Builtin.bitAnd xzv xnv:=by
  unfold Builtin.bitXor;show xam PyProof.Rows.bitOr_and
 rw [e,HW Z5 xfl,Dz,Dz];show xaR (mX a b)
def WP (w p:Nat):Prop:=(w=8/\p=29)\/(w=16/\p=45)
def WP.facts (h:WP w p):8≤w/\w≤16/\p%2=1/\p<2^w:=by
 rcases h with⟨rfl,rfl⟩|⟨rfl,rfl⟩<;>decide
def Cm (hw:0<w)(hs:s<2^w):CK.T w p s=xbV (s/2^(w-1)) 1 (s*2%2^w^^^p) (s*2%2^w):=by
 show xbk CK.T Nat.testBit_eq_decide_div_mod_eq;have h2:s/2^(w-1)<2:=Nat.div_lt_of_lt_mul (by
  have:2^(w-1)*2=2^w:=by rw [<-EI];congr 1;exact Ja hw
  exact De hs this.symm)
 show xaX (s/2^(w-1)) 1 h h
 ·have e:s/2^(w-1)=0:=Nat.lt_one_iff.mp h;show xbD e
 ·have e:s/2^(w-1)=1:=Dy (Nat.lt_succ_iff.mp h2) h;show xbD e
def crc (w p s:Nat)(R:Fr):Nat:=R.foldl (CK.B w p) s
def pi (w p s)(R)(b):crc w p s (R++xft)=CK.B w p (crc w p s R) b:=by
 show xbk crc Gd;rfl
def BL:∀n R,xzc n->xa1 R->crc w p s R=CK.G w p n s xrj:=by
 intro n
 induction n with
 |zero=>
  intro R h _;have e:R=[]:=Ey.mp h;subst e;rfl
 |succ n ih=>
  intro R h hb;obtain⟨A,b,rfl⟩:∃A b,R=A++xft:=by
   rcases List.eq_nil_or_concat R with e|⟨A,b,e⟩
   ·subst e;show xbm
   ·exact⟨A,b,by show xzo⟩
  have hbb:xbN b:=xhG Z6;rw [CN,F5] at h;rw [pi,ih A (Nat.add_right_cancel h) λ x hx=>xnL (xnQ hx),BP.LP];show _=CK.B w p (CK.G w p n s ((xBY*256+b)/256)) ((xBY*256+b)%256);have e1:(xBY*256+b)/256=xBY:=Z5;have e2:(xBY*256+b)%256=b:=Z5;rw [e1,e2]
def vX {R:Fr}(hp:p<2^w)(hs:s<2^w)(hb:xlR):crc w p s R<2^w:=by
 show IO (BL R.length R rfl hb) (CK.G_lt hp hs)
inductive QJ (vs:KB) (H:Hp) (Q:VK) (JT:XK):Prop
 |mk (n p s b:Nat) (h0:vs=[xci,xdz,xd0]) (h1:WP n p) (h2:s<2^n) (h3:xbN b) (h4:xlm (CK.B n p s b) H):QJ vs H Q JT
def Mc:Ps ["state","byte","wide","step","goes_out"] ["state","byte","wide"] sn:=M2
def yH (F:Ε "with_byte" sn ["state","byte","wide"])(X:xbi):xey ["state","byte","wide"] QJ:=by
 obtain⟨dA,mA,tA⟩:=X.tabA;show xa8 dL mL tL X.tabL (F.F.ok Mc λ JN A outer st H vs Q E hr h=>?_)
 intro _;obtain⟨n,p,s,b,rfl,hw,hs,hb,q⟩:=h;obtain⟨h8,YW,hodd,hp⟩:=hw.facts;refine xaT (xaU 0 Mc.nd (ap w8 Os (ap de KM (xpR On))) (xlg (b9 rfl X.R.X.range xoA) 3 Mc.nd (xaz 4 Mc.nd (ap gU Os (xpR On)) (xdQ 0 Mc.nd (ap gP (xfu de Os) (aQ mq (xvE dA Z7 mA) On xl6)) (xgs bK υ aj (xom 0 Mc.nd (ap w8 Os (aQ mq (xvE dL Z7 mL) On xl6))) az)))) Os)
 have e8:xaf-8=KF (n-8):=Z5;have e1':xaf-1=KF (n-1):=Z5;refine⟨_,rfl,_,rfl,_,rfl,_,_,rfl,rfl,?_⟩
 try dsimp only
 show Tm e8 ⟨_,_,rfl,rfl,xvZ xfl Z5,_,_,rfl,rfl,?_⟩
 try dsimp only
 rw [md,mW];have hs0:s^^^b*2^(n-8)<2^n:=by
  refine Nat.xor_lt_two_pow hs ?_;have:b*2^(n-8)<2^8*2^(n-8):=xLq xjI hb;rw [<-FD,show 8+(n-8)=n by lia] at this;show xi3
 refine⟨8,rfl,Z9,Z9,xs5 xdf 0 8 (λ i σ H2=>∃v3 v4,σ=[SB (xHy p i (s^^^b*2^(n-8))),xkp,xnX,v3,v4]/\H2=H) (xlv none none) ?_ ?_⟩
 ·rintro i σ H2 hi ⟨v3,v4,rfl,rfl⟩;have JO:=CK.Tn_lt (n:=i) hp hs0;have eT:xHy p (i+1) (s^^^b*2^(n-8))=CK.T n p (xHy p i (s^^^b*2^(n-8))):=rfl;rw [eT];generalize xHy p i (s^^^b*2^(n-8))=z at*;have hz16:z<2^16:=CZ JO (xv1 YW);have go:=Cm (p:=p) (Nat.zero_lt_of_lt h8) JO;refine⟨_,rfl,_,rfl,_,_,rfl,rfl,?_⟩
  try dsimp only
  show Tm e1' (xhY _ _ rfl Z5 ?_)
  try dsimp only
  rw [lF];have em:SL z*2^xFS=KF (z*2):=md z 1;refine⟨_,rfl,_,_,rfl,rfl,⟨Z9,Z9,Z5⟩,_,rfl,dA,_,_,_,rfl,rfl,.inl tA,?_⟩;show xFx hw rfl rfl rfl
  ·refine .inl (xhY rfl _ _ rfl ?_)
   try dsimp only
   rw [em,xae (Builtin.bitAnd (KF (z*2)) 255) (KF (z*2%2^8)) (dP (z*2) 8)];refine xk0 _ _ xkd
   ·have Lx:z/2^(8-1)=1:=by have:=V.int.inj xii;exact F1 ((λ {m n}=>Ji.mp) this.symm)
    rw [Dq Lx] at go;refine⟨_,rfl,_,rfl,dL,_,_,_,rfl,rfl,.inl tL,.inl (xhY rfl _ _ rfl ?_)⟩
    try dsimp only
    rw [xae (Builtin.bitXor (KF (z*2%2^8)) 29) (KF (z*2%2^8^^^29)) (mW _ 29),go];exact xlv _ _
   ·have Lx:¬z/2^(8-1)=1:=λ e=>h1 (CY (xEg Z5))
    rw [Dc Lx] at go;show IO go (xlv _ _)
  ·refine .inr (xhY rfl _ _ rfl ?_)
   try dsimp only
   rw [em,xae (Builtin.bitAnd (KF (z*2)) 65535) (KF (z*2%2^16)) (dP (z*2) 16)];refine xk0 _ _ xkd
   ·have Lx:z/2^(16-1)=1:=by have:=V.int.inj xii;exact F1 ((λ {m n}=>Ji.mp) this.symm)
    rw [Dq Lx] at go;refine⟨_,rfl,_,rfl,dL,_,_,_,rfl,rfl,.inl tL,.inr (xhY rfl _ _ rfl ?_)⟩
    try dsimp only
    rw [xae (Builtin.bitXor (KF (z*2%2^16)) 45) (KF (z*2%2^16^^^45)) (mW _ 45),go];exact xlv _ _
   ·have Lx:¬z/2^(16-1)=1:=λ e=>h1 (CY (xEg Z5))
    rw [Dc Lx] at go;show IO go (xlv _ _)
 ·rintro σ H2 ⟨v3,v4,rfl,rfl⟩;exact xbd q
def oG:¬(xBK="state"):=Z8
noncomputable def fC (n s:Nat):xex:=[("wide",xd0),("state",xci)]
def gF (n s):xd8 "state" s (xHe n [])=xwu:=by
 show(xc2 (xBK="state") (xBK,xd0) [("state",xci)])=_;rw [xv0];rfl
def wr (n s s'):xd8 "state" s' xwu=fC n s':=by
 show(xc2 (xBK="state") (xBK,xd0) (xbV (xck "state") "state" [(xck "state",vN s')] _))=_;rw [xv0,Τ];rfl
def nK (n s):xcM xwu "wide"=xnX:=by
 rw [<-gF,ao,xv0,ao,Τ]
def jN (n s):xcM xwu "state"=xhN:=by
 rw [<-gF,ao,Τ]
def fC_no (n s){m:Str}(h1:xdA (m="state"))(h2:xdA (m="wide")):xkW xwu m:=by
 rw [<-gF,ao,xng,ao,xlt];rfl
def wK (n s):(xwu).length<1000:=by show xcC 2
structure CC (K:Frag)(mg:W1)(C:JB):Prop where
 cl:xgc
 nW:xcE "wide"
 nS:xcE "state"
 m:mg "Check"=xhM
inductive spCInit (C:JB) (vs:KB) (H:Hp) (Q:VK) (JT:XK):Prop
 |mk (p dx:JB) (n q:Nat) (h0:vs=[Φ,xd0]) (h1:WP n q) (h2:xa2=xwc) (h3:∀H':Hp,H' p=xmR n (2^n-1)->xcT (∀b o,xal=Id->xgd->xdV=Id)):xFk vs H Q JT
def scCInit:Ps xAV xAV sCInit:=M2
def ok_cinit {f fW:JB}(F:xI4 sCInit dV f fd)(W:xtn fW)(T:CC K mg C)(X:xbi):Α 2 xAV xFk:=by
 have GW:xob fW NY Jab Lg:=eJ W X.R.X;show xa8 dA mA tA X.tabA (F.ok scCInit λ JN A outer st H vs Q E hr h=>?_)
 intro _;obtain⟨p,dx,n,q,rfl,hw,hp,k⟩:=h;show xbf (ab (xvC (xqT (xnJ GW W KM aj aj)) (ar lE KM (xvE dA Z7 mA) Z7))
  (xse KM (aQ mq (xvE dA Z7 mA) KM xl6))) ⟨_,rfl,_,_,_,rfl,_,rfl,?_⟩;have e1:NE (xhk xko xaf&&xhk xaf 16):=by
  obtain⟨h8,YW,_⟩:=hw.facts;rw [CY (Int.toNat_le.mp h8),xm6];rfl
 show Tm e1 xgJ;have hn:xaf=8\/xaf=16:=by rcases hw with⟨rfl,_⟩|⟨rfl,_⟩<;>simp
 show xgD ⟨_,rfl,dA,_,_,_,rfl,rfl,tA,hn,_,rfl,xgJ⟩ ⟨_,rfl,_,rfl,p,C,dx,_,rfl,hp,T.cl,T.nW,(by show xcC 0),?_⟩ ⟨_,rfl,dA,_,_,_,rfl,rfl,.inl tA,?_⟩;have fin:∀z,z=KF (2^n-1)->xjN (xdh (xdh H (xHe n [])) (putF "state" (.int z) (xHe n []))):=λ z ez=>by
  rw [ez,xae (putF "state" (V.int (KF (2^n-1))) (xHe n [])) (fC n (2^n-1)) (gF n _)];refine xcF ac λ b o e hb=>?_
  rw [xjW,xjW];exact e
 show xFx hw rfl rfl rfl
 ·show xaN ⟨rfl,_,rfl,p,C,dx,_,rfl,ac,T.cl,T.nS,(by show xcC 1),fin _ rfl⟩
 ·show xbX ⟨rfl,_,rfl,p,C,dx,_,rfl,ac,T.cl,T.nS,(by show xcC 1),fin _ rfl⟩
inductive WO (C:JB) (vs:KB) (H:Hp) (Q:VK) (JT:XK):Prop
 |mk (p dx a:JB) (n q s:Nat) (B:Fr) (h0:vs=[Φ,SZ]) (h1:WP n q) (h2:s<2^n) (h3:xa2=xmR n s) (h4:Uf=xf1) (h5:xa1 B) (h6:∀H':Hp,H' p=xmR n (crc n q s B)->xcT (∀b o,xal=Id->xgd->xdV=Id)):WO C vs H Q JT
def WQ:Ps (xmC "row" "byte") Jaj Aa:=M2
def u9 {f fN fR fW fY:JB}(F:Υ "add" "Check.add" Aa)(N:xAC bU Jag fN Qk)(R:xbt "is_row" jg Jag fR fdR)(W:xtn fW)
  (Y:xbt "with_byte" sn ["state","byte","wide"] fY fdY) (T:CC K mg C) (X:xbi):Α 5 Jaj (WO C):=by
 have GN:xiv 4 fN Qk Jag spNeedRow:=bG N X.R;have GY:xob fY fdY ["state","byte","wide"] QJ:=yH Y X;show xau WQ (λ JN A outer st H vs Q E hr h=>?_);obtain⟨p,dx,a,n,q,s,B,rfl,hw,hs,hp,ha,hb,k⟩:=h;obtain⟨h8,YW,hodd,hq⟩:=hw.facts;have J5:xa0:=PP;show xbf (ae (xm8 (xdy GN N KM) 2 WQ.nd (xxU (aA GY J5 Y (xdn XL On XL))))) ⟨_,rfl,a,B,rfl,ha,hb,LE l hl⟩;have npl:p≠l:=xpB hl;refine xeu l (xhe ac) (bW (K:=K) (a:=l) (xs:=xe2) (λ i σ H2=>∃v:xc0,σ=[xeV,xbv,v]/\H2 p=xmR n (crc n q s xxr)/\xhL=xf1/\∀b o,xal=Id->xgd->H2 b=Id)
  ⟨none,rfl,by show Ty npl hp,ac,λ b o e _=>by show xf9 hl e⟩ (λ i σ H2 _ z9=>by obtain⟨_,_,_,e,_⟩:=z9;exact JS.of e) ?_ ?_)
 ·rintro i y σ H2 hi ⟨v,rfl,J9,Kg,OI⟩;show xio b KH hi;have OU:=xhG xGE;have JO:crc n q s xxr<2^n:=vX hq hs λ x hx=>xnL xEB
  show xgD ⟨_,rfl,p,C,dx,_,_,rfl,J9,T.cl,T.nS,jN _ _,_,rfl,_,rfl,p,C,dx,_,_,rfl,J9,T.cl,T.nW,nK _ _,n,q,_,b,rfl,hw,JO,OU,?_⟩ ⟨_,rfl,p,C,dx,_,rfl,J9,T.cl,T.nS,wK _ _,?_⟩ ⟨xkp,rfl,?_,by show Ty npl.symm Kg,λ c o e hc=>by show Ty hc (OI c o e hc)⟩;rw [ac,wr,cv KH,pi]
 ·rintro σ H2 ⟨v,rfl,J9,Kg,OI⟩;rw [CM,DV] at J9;exact k H2 J9 OI
inductive Rj (C:JB) (vs:KB) (H:Hp) (Q:VK) (JT:XK):Prop
 |mk (p dx:JB) (n s:Nat) (h0:vs=xaO) (h1:xa2=xmR n s) (h2:Q xci H):Rj C vs H Q JT
def yf:xc3 p5:=M2
def nA (F:Υ "value" "Check.value" p5)(T:CC K mg C):xgS (Rj C):=by
 show xau yf (λ JN A outer st H vs Q E hr h=>?_);obtain⟨p,dx,n,s,rfl,hp,k⟩:=h;refine xee XL;exact⟨_,rfl,p,C,dx,_,_,rfl,hp,T.cl,T.nS,jN _ _,k⟩
def chk (n q:Nat)(B:Fr):Nat:=crc n q (2^n-1) B
inductive Oh (vs:KB) (H:Hp) (Q:VK) (JT:XK):Prop
 |mk (a:JB) (n q:Nat) (B:Fr) (h0:vs=[SZ,xd0]) (h1:WP n q) (h2:Uf=xf1) (h3:xa1 B) (h4:xe0 (Β->xrR (chk n q B))):Oh vs H Q JT
def Oq:Ps ["row","wide","check"] ["row","wide"] je:=M2
structure Chk (K:Frag)(mg:W1)(C:JB):Prop where
 X:xbi
 T:CC K mg C
 whole:xBl ca Jab
 isrow:TD "is_row" jg Jag
 needrow:xFz bU Jag
 withb:TD "with_byte" sn ["state","byte","wide"]
 init:∃f fd dV,xI4 sCInit dV f fd/\xjK xAV/\xqo
 add:∃f fd,xsX "add" "Check.add" Aa Jaj f fd
 value:∃f fd,xg2 "value" "Check.value" p5
def ja {P:JE}{K:Frag}{mg:W1}{f:JB}{fd:JG}{dV:JC}(F:xlI "check_of" "check_of" je dV f fd)(Z:Chk K mg C):Α 6 ["row","wide"] Oh:=by
 obtain⟨X,T,⟨_,_,W⟩,⟨_,_,R⟩,⟨_,_,N⟩,⟨_,_,Y⟩,⟨_,_,_,FI,bI,M⟩,⟨_,_,Ad⟩,⟨_,_,Va⟩⟩:=Z;show xau Oq (λ JN A outer st H vs Q E hr h=>?_);obtain⟨a,n,q,B,rfl,hw,ha,hb,k⟩:=h;have J5:xa0:=PP;have Ln:xqb:=PP;show xbf (xaU 2 Oq.nd (fj M (xJH W T X) Ln Z7 T.m bI .nil a7 xCi) (aB (aX On T.cl Ad (u9 Ad.F N R W Y T X) hr xgA)) (xh0 On T.cl Va (nA (mg:=mg) Va.F T))) (xbd (λ x dx nx ndx nex=>?_));have s0:xcn (xcJ (xe9 H dx x) x C dx []):=λ b o e=>by
  rw [xhZ nx,xhZ ndx];exact e
 refine⟨x,dx,n,q,rfl,hw,ac,λ H1 ON kp=>xgB⟩;have s1:xnk:=λ b o e=>kp b o (s0 b o e) xrG
 refine⟨_,rfl,x,dx,_,rfl,ON,xyf _,_,rfl,x,dx,a,n,q,_,B,rfl,hw,?_,ON,xln,hb,Sc H2 Wd NC⟩
 ·have:=FA (n:=n) (show 0<2 from Z9);exact Fq this
 have s2:xiq:=λ b o e=>NC b o (s1 b o e) xrG
 refine⟨_,rfl,x,dx,_,rfl,Wd,xyf _,x,dx,n,_,rfl,Wd,k H2 s2⟩
abbrev zU:JL:=top 37
abbrev dv:JL:=top 38
abbrev gk:JL:=top 100
abbrev pU:JL:=xaD 101 0
abbrev wO:JL:=xaD 101 1
structure FnK (K:Frag)(mg:W1)(x:Str)(st:JL)(ps:xaj)(f:JB)(fd:JG):Prop where
 F:∃dV,xlI x x st dV f fd
 m:mg x=xdU
 b:xnq
 d:∃t,xxT K [xb1 16]
theorem FnK.kp (F:FnK K mg x st ps f fd):xhT:=F.F.elim (xps h.kp)
noncomputable def two (n:Nat):Fr:=[n/256,n%256]
def sld (R:Fr):Fr:=R++xrx R
def JQ (a b:Nat):Fr:=[a,b,chk 8 29 [a,b]]
def wp8:WP 8 29:=.inl xmi
def mf:WP 16 45:=xxV
def gO (h:WP n q)(hb:xlR):chk n q R<2^n:=by
 show xqR hq h.facts (vX hq (by have:=FA (n:=n) (show 0<2 from Z9);exact Fq this) hb)
def gu (h:n<65536):xdo (two n):=by
 intro b hb;simp only [two,Dm,Fv,or_false] at hb;lia
def tj (hb:xlR):xdo xu3:=λ b h=>xml h xhG (gu (gO mf hb) b)
def eI (ha:xbN a)(hb:xbN b):∀c∈xeU,xbN c:=by
 intro c hc;have h8:xbN (chk 8 29 [a,b]):=gO wp8 (λ c hc=>by simp at hc;lia);simp only [JQ,Dm,Fv,or_false] at hc;lia
structure TL (K:Frag)(mg:W1)(C:JB):Prop where
 Z:Chk K mg C
 checkof:∃f fd,FnK K mg "check_of" je ["row","wide"] f fd
 two:TD "in_two_bytes" zU xmr
 withcheck:TD "with_check" dv Jam
 headrow:TD "head_row" gk xys
inductive WE (vs:KB) (H:Hp) (Q:VK) (JT:XK):Prop
 |mk (n:Nat) (h0:vs=[xd0]) (h1:n<65536) (h2:∀l,Θ->Q xah (xfv H l (two n))):WE vs H Q JT
def BT:Ps xmr xmr zU:=M2
def qC (F:Ε "in_two_bytes" zU xmr):xey xmr WE:=by
 show xbj BT (λ JN A outer st H vs Q E hr h=>?_);show xjD n rfl hn k;show xs0 (aT (xbo (xfu gU Os) (xfu gP Os))) ⟨_,rfl,_,_,rfl,rfl,(by show xcQ≤8;decide),_,rfl,_,_,rfl,rfl,(by show xeE),xf7⟩;have e1:xdW/2^Int.toNat 8=KF (n/256):=by
  show xdW/256=_;lia
 have e2:Builtin.bitAnd xdW 255=KF (n%256):=by
  have:=dP n 8;show xi3
 try dsimp only
 rw [e1,e2];exact xdE nl
inductive Ms (vs:KB) (H:Hp) (Q:VK) (JT:XK):Prop
 |mk (a:JB) (R:Fr) (h0:vs=xbU) (h1:Uf=xnl) (h2:xa1 R) (h3:xbH R.length) (h4:∀l H',Θ->Β->xaq=ω xu3->xak):Ms vs H Q JT
def pF:Ps Jam Jam dv:=M2
def d6 (F:Ε "with_check" dv Jam)(Y:TL K mg C):Α 7 Jam Ms:=by
 show xHO Y.checkof;obtain⟨_,FC⟩:=Co.F;obtain⟨_,_,Tw⟩:=Y.two;show xcY t16 B16 Co.d pF (λ JN A outer st H vs Q E hr h=>?_)
 intro _;obtain⟨a,R,rfl,ha,hb,hl,k⟩:=h;have J5:xa0:=PP;show xgD (xee (xcB Os (xbQ (qC Tw) J5 Tw (xtr (ja FC Y.Z) Co.m Co.kp B16 (.cons (a:=V.int 16) xbg .nil) a7 xgA)))) ⟨_,rfl,_,rfl,a,16,45,R,rfl,mf,ha,hb,LE H1 s1⟩ (xeu (xt0 R) (gO mf hb) (LE l1 n1));have s2:=xbG (xrx R) n1;have MO:xct H1 l1 (xrx R) l1=ω (xrx R):=ac;have OL:=xca xln;have Lv:=xe4;show xdS H1 l1 (xrx R) H2;refine⟨a,l1,_,_,rfl,rfl,OL,MO,a9 (by rw [CM];show xiE (R.length+2);lia),xf7⟩;exact xql (xoM Lv) (Lv.trans xfY) (by rw [ac,<-C8];rfl)
inductive Oe (vs:KB) (H:Hp) (Q:VK) (JT:XK):Prop
 |mk (x y:Nat) (h0:vs=[vN x,vN y]) (h1:xbN x) (h2:xbN y) (h3:∀l H',Θ->Β->xaq=ω (JQ x y)->xak):Oe vs H Q JT
def uf:Ps xys xys gk:=M2
def fJ (F:Ε "head_row" gk xys)(Y:TL K mg C):Α 7 xys Oe:=by
 show xHO Y.checkof;obtain⟨_,FC⟩:=Co.F;show xbj uf (λ JN A outer st H vs Q E hr h=>?_);obtain⟨x,y,rfl,hx,hy,k⟩:=h;show xs0 (aT (xdn Os KM (xtr (ja FC Y.Z) Co.m Co.kp Co.b .nil a7 (xbo (aT (xbo Os KM)) aj)))) ⟨_,rfl,_,rfl,_,rfl,_,rfl,(by show xeE),LE l1 n1⟩;have s1:=xas [vN x,vN y] n1;have MO:xbC H l1 [vN x,vN y] l1=Ι [vN x,vN y]:=ac;show xbb H l1 [vN x,vN y] H1;refine⟨l1,8,29,[x,y],rfl,wp8,MO,λ c hc=>by simp at hc;omega,λ H2 s2=>xem (by show xcR 3) l nl⟩;exact xql (xoM xe4) (xxI xfY) ac
universe K31.Ck
namespace L2
open PySem PySem.Spec PySem.Calls PyProof.Rows QQ PySem.W
def t7 {K:Frag}(hP:X.prog=P)(hw:X.w=w)(hK:X.K=K)(hmg:X.mg=mg)(OV:X.base=base)(he:xmz o)(hr:xn7)
    (ht:Ξ (xg4 (xkF o m [])=(do
      let ov<-xpL
      xwG
      let xyQ f<-xwP [ov] ov m pl
      xyk f xCR (xvf pos [])))):
    Ρ (xkF o m []) (vx P w K mg base k m ta j8):=by
  subst hP hw hK hmg OV
  intro JM s σ H Q I h
  refine He (pl:=pl) (xs8 _ I h u) ht
  obtain⟨x,H1,I1,rx,a,C,dx,fs,f,fd,ps,sp,ex,ea,l,c,hm,F,hb,q⟩:=z9
  subst ex
  obtain rfl:u=xcX:=rx
  refine dU I1 ea c hm l ?_
  exact GD (first:=xbU) I1.kIn hm.kp (xDj xbU (vs:=xbU) F hr hb .nil a7 I1 (xjn rfl) q)
universe L2
namespace K31.Ck
open PySem L2 QQ W17 W16 BP
seal PE PA PS PSs PT PW PG PI
abbrev ii:JL:=top 104
def Am:¬(xrs="count"):=Z8
def Bq:¬(xrs="inside"):=Z8
def BA:¬(xKt="inside"):=Z8
noncomputable def fH (a b c:Nat):xex:=[("way",vN a),("count",xdz),("inside",xgR)]
def nL (a b c):xd8 "inside" c (xd8 "count" b (xd8 "way" a []))=fH a b c:=by
 show(xd8 "inside" c (xc2 (xrs="count") (xrs,vN a) [("count",xdz)]))=_;rw [Dc Am];show(xc2 (xrs="inside") (xrs,vN a) (xc2 (xKt="inside") (xKt,xdz) [("inside",xgR)]))=_;rw [Dc Bq,Dc BA];rfl
def Bz (a b c):xcM (fH a b c) "way"=SB a:=by rw [<-nL,ao,Dc Bq,ao,Dc Am,ao,Τ]
def BU (a b c):xcM (fH a b c) "count"=xkp:=by rw [<-nL,ao,Dc BA,ao,Τ]
def A8 (a b c):xcM (fH a b c) "inside"=SB c:=by rw [<-nL,ao,Τ]
def BN (a b c){m:Str}(h1:xdA (m="inside"))(h2:xdA (m="count"))(h3:xdA (m="way")):xkW (fH a b c) m:=by
 rw [<-nL,ao,xng,ao,xlt,ao,Dc h3];rfl
structure CH (K:Frag)(mg:W1)(C:JB):Prop where
 cl:xgc
 nW:xcE "way"
 nC:xcE "count"
 nI:xcE "inside"
 m:mg "Head"=xhM
 init:∃f fd,xfx K "Head.__init__" pU f/\xjK ["self","way","count","inside"]/\xqo
 row:∃f fd,xg2 "row" "Head.row" wO
inductive RA (C:JB) (vs:KB) (H:Hp) (Q:VK) (JT:XK):Prop
 |mk (p dx a b c:Nat) (h0:vs=[Φ,vN a,xdz,xgR]) (h1:xa2=xwc) (h2:xe0 (H' p=xbT (fH a b c)->xcT (∀b o,xal=Id->xgd->xdV=Id))):RA C vs H Q JT
def xr:Ps ["self","way","count","inside"] ["self","way","count","inside"] pU:=M2
def oa (F:xfx K "Head.__init__" pU f)(T:CH K mg C):xey ["self","way","count","inside"] (RA C):=by
 show xau xr (λ JN A outer st H vs Q E hr h=>?_);obtain⟨p,dx,a,b,c,rfl,hp,k⟩:=h;show xbf (xdu KM (xse On UF)) ⟨_,rfl,_,rfl,p,C,dx,[],rfl,hp,T.cl,T.nW,(by show xcC 0),?_⟩;show SC ⟨_,rfl,_,rfl,p,C,dx,_,rfl,ac,T.cl,T.nC,(by show xcC 1),?_⟩ ⟨_,rfl,_,rfl,p,C,dx,_,rfl,ac,T.cl,T.nI,(by rw [show xat (xd8 "count" b (xd8 "way" a [])) 2 by show xat (xc2 (xrs="count") (xrs,vN a) [("count",xdz)]) 2;rw [Dc Am];rfl];decide),?_⟩;exact xcF (xFE ac (λ l=>xFu C dx l) (nL a b c)) λ d o e hd=>by rw [ag hd,ag hd,ag hd];exact e
inductive Up (C:JB) (vs:KB) (H:Hp) (Q:VK) (JT:XK):Prop
 |mk (p dx a b c:Nat) (h0:vs=xaO) (h1:xa2=xbT (fH a b c)) (h2:a<4) (h3:xdd) (h4:xfr b) (h5:xbN c) (h6:∀l H',Θ->Β->xaq=ω (JQ (64*a+b-1) c)->xak):Up C vs H Q JT
def Az:xc3 wO:=M2
def xC (F:Υ "row" "Head.row" wO)(T:CH K mg C)(Y:TL K mg CC'):xfF 8 (Up C):=by
 show xmQ Hr Y.headrow Az (λ JN A outer st H vs Q E hr h=>?_)
 intro _;obtain⟨p,dx,a,b,c,rfl,hp,ha,KH,OU,hc,k⟩:=h;refine xee (xbe (fJ Hr Y) hr Hr (xpR (xbA (xwk XL) XL)) XL);have e1:SL 64*KF a+xd2-1=KF (64*a+b-1):=xoK (Im KH);refine⟨_,rfl,p,C,dx,_,_,rfl,hp,T.cl,T.nW,Bz _ _ _,_,_,rfl,rfl,xCF,_,rfl,p,C,dx,_,_,rfl,hp,T.cl,T.nC,BU _ _ _,_,_,rfl,rfl,_,_,rfl,rfl,_,rfl,p,C,dx,_,_,rfl,hp,T.cl,T.nI,A8 _ _ _,?_⟩
 try dsimp only
 show IO e1 ⟨_,_,rfl,Z5,hc,k⟩
def PB (W T R:Fr):Prop:=∃i ps Rb,i<4/\(∀j,j<4->xkK i≤xkK j/\(j<i->xkK i<xkK j))/\K8 i W T ps/\K' (xsP 0) xcx Rb/\R=sld (xjg (xjQ (64*i)-1)++Rb)
theorem PB.uniq (h:PB W T R)(h':PB W T R'):R=R':=by
 obtain⟨i,ps,Rb,hi,hm,hp,hr,e⟩:=h;obtain⟨j,qs,Sb,hj,hn,hq,hs,e'⟩:=h';have eij:i=j:=by
  rcases Ib i j with z|z|z
  ·have h1:=(hn i hi).2 z;have h2:=(hm j hj).1;lia
  ·exact z
  ·have h1:=(hm j hj).2 z;have h2:=(hn i hi).1;lia
 subst eij;have eps:=hp.uniq hq;subst eps;have eR:=K'.uniq hr hs;subst eR;rw [e,e']
def PB.facts {W T R:Fr}(h:PB W T R)(t:xkv):xa1 R/\xxP 69:=by
 obtain⟨i,ps,Rb,hi,hm,hp,hr,rfl⟩:=h;have hlen:=hr.len;have h0:xkK 0=8*T.length:=by rw [jk (u:=0) (ps:=xnH) rfl,du]
 have h1:=(hm 0 Z9).1;rw [h0,jk hp] at h1;have hl:=t.le;have Lx:=t.one;refine xcO (tj (xa3 (xml hb (eI Z5 Z5 b) (hr.byt b))));unfold sld;rw [CN,CN];show 3+Rb.length+2≤69;lia
def iW (t:xnp)(s:kn Tb H H')(n:Ζ xaq):Θ:=by
 cases e:H l with
 |none=>rfl
 |some o=>
  by_cases z:l=Tb
  ·subst z;obtain⟨ps,h,_⟩:=t;show Tl h n n
  ·show Tl (xgi z e) n n
structure Bks (K:Frag)(mg:W1)(B D G CW C0 C1 C2 C3 c CK J4:JB):Prop where
 Z:S3 K mg B D G CW C0 C1 C2 C3
 Y:TL K mg CK
 T:CH K mg J4
 min:xfQ "min"
 best:∃f fd dV,O5 K "best_way" "best_way" iY dV c f fd/\mg "best_way"=xdU/\xjK Jae/\xww K Jae xCx
inductive Nd (Tb:JB) (vs:KB) (H:Hp) (Q:VK) (JT:XK):Prop
 |mk (a:JB) (x:V) (T W:Fr) (h0:vs=[SZ,x]) (h1:Uf=xbJ) (h2:xhW) (h3:xkv) (h4:xlQ) (h5:∀(l:JB) (R:Fr) (H':Hp),Θ->PB W T R->xaq=xnl->kn Tb H H'->xnp->xak):Nd Tb vs H Q JT
def KG:Ps ["text","before","way","bits","body","head"] Jae ii:=M2
def nZ (F:xlI "put_block" "put_block" ii dV f fd)(Z:Bks K mg B D G CW C0 C1 C2 C3 c CK J4)(hC:xlV)(Qh:xj3)(hK:xlz):Α 40 Jae (Nd Tb):=by
 obtain⟨fB,fdB,dB,FB,mB,bB,_⟩:=Z.best;have ZB:=Z.Z.S0.Zb;have X:=ZB.R.X;show xjf bI MI ZB.init;show xgo Ro ZB.row TB ZB.T;obtain⟨_,_,FH,bH,MH⟩:=Z.T.init;have GH:=oa (P:=P) (w:=w) (base:=base) FH Z.T;show xgo Hw Z.T.row GR (xC (P:=P) (w:=w) (base:=base) Hw.F Z.T Z.Y);show xmQ Wc Z.Y.withcheck KG (λ JN A outer st H vs Q E hr h=>?_)
 intro _;obtain⟨a,x,T,W,rfl,ha,hx,tw,hT,k⟩:=h;have J5:xa0:=PP;have L4:xqc:=PP;have Se:xan 7:=PP;have Zw:xan 8:=PP;have hr35:xan 35:=PP;show xuE (xfV 2 KG.nd (xtr (yy FB Z.Z Z.min hC Qh hK) mB FB.kp bB .nil a7 (xbo Os KM)) (xdj 3 KG.nd (xp2 (nO (mg:=mg) FI TB) L4 ZB.m bI a7) (aB (oS (P:=P) (w:=w) (K:=K) (mg:=mg) (base:=base) (k:=35) rfl rfl rfl rfl rfl On hr35 (xdn UF Os KM))) (xaz 4 KG.nd (xh0 UF TB.cl Ro (tz Ro.F TB X)) (xaz 5 KG.nd (fj MH GH L4 Z7 Z.T.m bH .nil a7 (xdn (t7 (P:=P) (w:=w) (K:=K) (mg:=mg) (base:=base) (k:=1) rfl rfl rfl rfl rfl On J5) xx4 xx5)) (xcc (xbQ (d6 Wc Z.Y) Se Wc (xcB (bj xaL Z.T.cl Hw GR Zw) υ))))))) ⟨_,rfl,_,rfl,a,x,T,W,rfl,ha,hx,tw,hT,λ i o dx H1 hi no ho VU sT Oy=>χ⟩;have WK:=Z.Z.ok (P:=P) (w:=w) (base:=base) hi;obtain⟨fT,YZ,mT,bT,GT⟩:=WK.tell;obtain⟨fN,Qk,mN,bN,GN⟩:=WK.num;have Tj:=xoe (hT.ne ha (by intro ps z;cases z)) ha;have ON:=hx.sameT hT sT;refine xbu
 intro p dp np Qe UO;have SS:(xi2 (xe9 H1 dp p) p B dp) p=xi4 B dp []:=ac;have s0:=xh8 B np Qe;show xbI (xay p dp SS (λ d H2 nd Lw NC=>xb2 χ));have nd0:xfO d:=xgu nd;have Lv:xvV H2:=λ c o e=>xqq xpo xo4
 clear s0 SS NC nd;show xds ⟨_,rfl,o,_,dx,[],fT,YZ,_,_,rfl,Lv _ _ ho,rfl,WK.cl,mT,GT,bT,_,rfl,_,rfl,_,rfl,o,p,d,a,x,T,W,0,0,rfl,Lw,Z9,Lv _ _ Tj,ON.same Lv,tw,λ ps H3 SR NX Kc=>χ⟩;have OH:xvV H3:=λ c o e=>xaK (Lv _ _ e) xo4 (xoX nd0)
 rw [Er] at NX;have hgd:=(SR.good tw).2;clear Lw Kc Lv;refine xbu
 obtain⟨Mp,r3,k3,Kz⟩:=NX.ob;show xbI ⟨_,rfl,p,Mp,_,rfl,Kz,xhV,p,d,_,_,rfl,NX,xc9 hgd,λ lr Rb H4 Ld NJ row Y9=>χ⟩;have Qc:=OH.trans Y9;have hlen:=row.len;have hcst:=(VU 0 Z9).1;rw [jk (u:=0) (ps:=xnH) rfl,du,jk SR] at hcst;have S9:=tw.le;clear Kz NX Y9 OH Ld;refine xeq ⟨_,rfl,o,_,dx,[],fN,Qk,_,_,rfl,Qc _ _ ho,rfl,WK.cl,mN,GN,bN,o,rfl,_,rfl,a,_,rfl,Ο (Qc _ _ Tj),_,rfl,lr,_,rfl,Ο NJ,?_⟩
 intro h dh nh ndh neh;have s0:=xh8 J4 nh ndh;show xbI ⟨h,dh,i,(xg5).length,(xxq).length,rfl,ac,λ H5 hh NS=>xb2 χ⟩;have s45:C' H4 H5:=λ c o e=>xky xpo (xoX nh)
 rw [CM,CM] at hh;have hlr5:=s45 _ _ NJ;have s15:=Qc.trans s45;clear s0 NS NJ s45 Qc;show SC ⟨_,rfl,h,dh,_,rfl,hh,BN _ _ _,h,dh,i,T.length,Rb.length,rfl,hh,hi,tw.one,tw.le,Z5,λ l6 H6 nl6 W5 Vq=>?_⟩ ⟨_,rfl,l6,lr,_,_,rfl,rfl,Vq,W5 _ _ hlr5,a9 (by rw [CM,CM];show xiE (3+Rb.length);lia),LE l7 n7⟩;have s67:=xas (Wp (xjg (xjQ (64*i)-1))++xxq) n7;have h77:xbC H6 l7 (Wp (xjg (xjQ (64*i)-1))++xxq) l7=ω (xjg (xjQ (64*i)-1)++Rb):=by rw [ac,C8]
 have s17:=(s15.trans W5).trans s67;show xbb H6 l7 (Wp (xjg (xjQ (64*i)-1))++xxq) H7;have hone:=tw.one;show SC ⟨l7,_,rfl,h77,xa3 (xml hb (eI Z4 Z4 b) (row.byt b)),by rw [CN];show xbH (3+Rb.length);lia,λ l H8 nl s78 hl=>?_⟩ (xql H8 (iW (Oy.same s17) (λ c o n e=>s17 _ _ (xoe n e)) nl) ⟨i,ps,Rb,hi,VU,SR,row,rfl⟩ hl (λ c o n e=>s78 _ _ (s17 _ _ (xoe n e))) (Oy.same (s17.trans s78)))
universe K31.Ck
namespace K31
open PySem L2 QQ W17 W16 BP
seal PE PA PS PSs PT PW PG PI
abbrev ft:JL:=top 28
abbrev qD:JL:=xaD 30 0
abbrev kh:JL:=xaD 30 1
abbrev kj:JL:=xaD 30 2
abbrev qv:JL:=xaD 30 5
def bt (R:Fr)(t s:Nat):Nat:=xvX/2^(Γ-(t+s))%2^s
def KZ:Ps ["row","place","size","end","bytes_to_end","number","byte"] Jai ft:=M2
def kW (F:Ε "bits_at" ft Jai)(O:xBM fw Jah fO Ws)(T:xbi):Α 2 Jai LS:=by
 have GO:xob fO Ws Jah spOnes:=lP O;show xbj KZ (λ JN A outer st H vs Q E hr h=>?_);obtain⟨a,B,p,s,rfl,hB,hb,SR,hs,k⟩:=h;show xlq (xaz 3 KZ.nd (xFR On) (xaz 4 KZ.nd (xrv (xhy UF)) (xaU 5 KZ.nd aj (xm8 (xsr Os (xrv KM) υ) 6 KZ.nd (xij 5 KZ.nd (ap vY (xfu de xaL) xeN))) (ap gP (ap gU xaL (xf2 (xwk υ) UF)) (xdy GO O On))))) ⟨_,rfl,_,rfl,_,_,rfl,rfl,?_⟩ ⟨_,rfl,_,_,rfl,rfl,_,_,rfl,rfl,⟨by decide,by decide⟩,?_⟩;have e1:(SL p+SL s+7)/8=KF ((p+s+7)/8):=by lia
 have e2:SL p/8=KF (p/8):=by lia
 have e3:SL p+SL s=xiX s:=by lia
 have h1:p/8≤(p+s+7)/8:=by lia
 have h2:xfI ((p+s+7)/8):=by lia
 try dsimp only
 rw [e1,e3];refine⟨_,rfl,_,rfl,_,_,rfl,rfl,⟨by decide,by decide⟩,_,rfl,_,rfl,_,rfl,a,_,rfl,xxM,LE l hl⟩
 try dsimp only
 rw [e2,x3 h1 h2];have hc:xdo (xje ((p+s+7)/8) (p/8)):=λ b KI=>xhG (DN (DR KI))
 have YM:xbz (xje ((p+s+7)/8) (p/8)) 4:=by rw [C6,Dd];lia
 have key:=BP.UK hb SR;generalize xje ((p+s+7)/8) (p/8)=C at*;have sm:xcn (xiZ xxs):=λ b o e=>by show xf9 hl e
 refine xeu l (xhe ac) (xnw xdf K l xxs (λ i σ H2=>∃v,σ=[xbv,xnW,xhN,SB (p+s),SB ((p+s+7)/8),SB (xwV i),v]/\H2=xiZ xxs) (xdt none rfl) (λ i σ H2 _ z9=>by show xoz e z9 (by show xeY xxS)) ?_ ?_)
 ·rintro i y σ H2 hi ⟨v,rfl,rfl⟩;show xio b KH hi;have OU:xbN b:=hc b xGE;have K1:xCI i:=xco KH;have hv:xwV i<256^(C.take i).length:=BP.Mb λ b KI=>hc b (DN KI)
  have hv2:xwV i<256^4:=CZ hv (E4 (by decide) (by show xam Dd));refine⟨_,rfl,_,_,rfl,rfl,xac (by decide) (by decide),_,rfl,_,_,rfl,rfl,?_⟩
  ·have:xkx 256^4<2^64:=by decide
   lia
  ·have e:=pY (xwV i) b 8 OU;have e':xwV i*2^8+b=xwV (i+1):=by rw [cv KH,BP.LP]
   try dsimp only
   show UV e' e (xdt xkp (congrArg (LT [xAT a,xnW,xhN,SB (p+s),SB ((p+s+7)/8),some (V.int z),xkp]) e))
 ·rintro σ H2 ⟨v,rfl,rfl⟩
  try dsimp only
  rw [CM,DV];have e4:xko*KF ((p+s+7)/8)-xiX s=KF (8*((p+s+7)/8)-(p+s)):=by lia
  refine⟨_,rfl,_,rfl,_,_,rfl,rfl,.inl ⟨by decide,by decide⟩,_,rfl,_,_,rfl,rfl,?_⟩
  try dsimp only
  show Tm e4 ⟨_,_,rfl,rfl,by lia,_,rfl,s,rfl,by lia,_,_,rfl,rfl,?_⟩
  try dsimp only
  rw [lF,dP,key];exact xcF sm
structure JW (C:JB)(H:Hp)(p d:JB)(R:Fr)(t:Nat):Prop where
 ob:∃dx,xa2=xbT xnt
 ls:H d=xnl
 by':xlR
 le:t≤Γ
structure VD (K:Frag)(mg:W1)(C:JB):Prop where
 cl:xgc
 nH:xcE "held"
 nT:xcE "taken"
inductive Rm (C:JB) (vs:KB) (H:Hp) (Q:VK) (JT:XK):Prop
 |mk (p dx a:JB) (R:Fr) (h0:vs=[Φ,SZ]) (h1:xa2=xwc) (h2:Uf=xnl) (h3:xa1 R) (h4:∀(d:JB) (H':Hp),XV d->xjV H' p 0->xcT (∀b o,xal=Id->xgd->xdV=Id)):Rm C vs H Q JT
def xW:Ps Jaj Jaj qD:=M2
def vd (F:xfx K "BitReader.__init__" qD f)(N:xAC bU Jag fN Qk)(Y:xks)(T:VD K mg C):Α 5 Jaj (Rm C):=by
 have GN:xiv 4 fN Qk Jag spNeedRow:=bG N Y;show xau xW (λ JN A outer st H vs Q E hr h=>?_);obtain⟨p,dx,a,R',rfl,hp,ha,hb,k⟩:=h;show xbf (xse (xdy GN N KM) aj) ⟨_,rfl,a,R',rfl,ha,hb,LE d hd⟩;have Mz:p≠d:=xpB hd;show SC ⟨_,rfl,p,C,dx,[],rfl,(by show Ty Mz hp),T.cl,T.nH,(by show xcC 0),_,rfl,p,C,dx,_,rfl,ac,T.cl,T.nT,(by show xcC 1),?_⟩ (k d _ hd ⟨xdr (xFE ac (λ l=>xFu C dx l) (sG d 0)),by rw [xmq,xmq,ac],hb,Ω⟩ λ b o e hb=>?_)
 rw [xjW,xjW,xhZ hd];exact e
inductive spLeft (C:JB) (vs:KB) (H:Hp) (Q:VK) (JT:XK):Prop
 |mk (p d:JB) (R:Fr) (t:Nat) (h0:vs=xaO) (h1:xjV H p t) (h2:xlm (Γ-t) H):xFq vs H Q JT
def zp:xc3 kj:=M2
def mn (F:Υ "left" "BitReader.left" kj)(T:VD K mg C)(X:xbi):xgS xFq:=by
 show xau zp (λ JN A outer st H vs Q E hr h=>?_);obtain⟨p,d,R,t,rfl,⟨⟨dx,hp⟩,hd,hb,ht⟩,q⟩:=h;show xgD (xee (xf2 (xwk xGL) XL)) ⟨_,rfl,p,C,dx,_,_,rfl,hp,T.cl,T.nH,jW _ _,d,_,rfl,Ο hd,_,_,rfl,rfl,.inl ⟨by decide,by decide⟩,?_⟩ ⟨_,rfl,p,C,dx,_,_,rfl,hp,T.cl,T.nT,eO _ _,_,_,rfl,rfl,?_⟩;have e:xko*xfD xjc-SL t=KF (Γ-t):=by show xcS
 try dsimp only
 show xeY q
inductive OE (C:JB) (vs:KB) (H:Hp) (Q:VK) (JT:XK):Prop
 |mk (p d:JB) (R:Fr) (t s:Nat) (h0:vs=[Φ,xci]) (h1:xjV H p t) (h2:s≤24) (h3:t+s≤Γ) (h4:xe0 (xjV H' p (t+s)->(∀c o,WF=Id->xai->xaB=Id)->xrR (xy3 s))):OE C vs H Q JT
def Uv:Ps (xmC "size" "number") xq5 kh:=M2
def rS (F:Υ "take" "BitReader.take" kh)(S:xbt "need_size" cC Jah fS fdS)(W:xtn fW')
  (B:xbt "bits_at" ft Jai fB fdB) (O:xBM fw Jah fO Ws) (L:xjh C "left" "BitReader.left" kj Jaa fL fdL) (T:VD K mg C) (X:xbi):
  xlu xq5 (OE C):=by
 have GS:xiv 2 fS fdS Jah spNeedSize:=ir S W X;have GB:xiv 2 fB fdB Jai LS:=kW B O X;have GL:xob fL fdL Jaa xFq:=mn L.F T X;show xau Uv (λ JN A outer st H vs Q E hr h=>?_);obtain⟨p,d,R,t,s,rfl,S0,hs,OK,q⟩:=h;obtain⟨⟨dx,hp⟩,hd,hb,ht⟩:=id S0;have Mz:p≠d:=aF hp hd (by show τ);have J5:xa0:=hr.mono (by decide);have L4:xqc:=hr.mono (by decide);show xlq (xcz (xbQ GS L4 S KM) (ab (xgW cB KM (xh0 Os T.cl L GL))
  (xaU 2 Uv.nd (aA GB L4 B (xdn XL XL KM)) (xqA Os (xbA XL KM)) On))) (xeZ s hs ?_) ⟨_,rfl,_,rfl,p,dx,_,rfl,hp,xFH (by decide+kernel) (by decide+kernel),p,d,R,t,rfl,S0,_,_,rfl,rfl,_,rfl,aU (xcl h0) xcm⟩
 ·have:=C5 h0;omega
 refine⟨_,rfl,p,C,dx,_,_,rfl,hp,T.cl,T.nH,jW _ _,_,rfl,p,C,dx,_,_,rfl,hp,T.cl,T.nT,eO _ _,_,rfl,d,R,t,s,rfl,hd,hb,OK,hs,LE H1 sm⟩;have Kq:=xeQ hp;refine⟨_,rfl,p,C,dx,_,_,rfl,Kq,T.cl,T.nT,eO _ _,_,rfl,_,_,rfl,rfl,_,rfl,p,C,dx,_,rfl,Kq,T.cl,T.nT,Ax _ _,?_⟩;have e1:SL t+SL s=KF (t+s):=by lia
 try dsimp only
 rw [e1,zW];show xbf rfl (q _ ⟨xdr ac,by show Ty Mz.symm (xeQ hd),hb,OK⟩ λ c o e n1=>?_)
 show Ty n1 (sm c o e)
inductive RF (C:JB) (vs:KB) (H:Hp) (Q:VK) (JT:XK):Prop
 |mk (p d:JB) (R:Fr) (t:Nat) (h0:vs=xaO) (h1:xjV H p t) (h2:Γ-t<8) (h3:xrj%2^(Γ-t)=0) (h4:xe0 (Β->xbr xxx)):RF C vs H Q JT
def RM:xqK (xjb "left") qv:=M2
def vp (F:Υ "at_end" "BitReader.at_end" qv)
  (B:xbt "bits_at" ft Jai fB fdB) (O:xBM fw Jah fO Ws) (L:xjh C "left" "BitReader.left" kj Jaa fL fdL) (T:VD K mg C) (X:xbi):
  xfF 3 (RF C):=by
 have GB:xiv 2 fB fdB Jai LS:=kW B O X;have GL:xob fL fdL Jaa xFq:=mn L.F T X;show xau RM (λ JN A outer st H vs Q E hr h=>?_);obtain⟨p,d,R,t,rfl,S0,h8,hv,q⟩:=h;obtain⟨⟨dx,hp⟩,hd,hb,ht⟩:=id S0;have J5:xa0:=hr.mono (by decide);show xlq (xaz 1 RM.nd (xh0 Os T.cl L GL) (xcc (k8 (eh dt KM aj xve) (lK (eh bK (xnJ GB B XL XL KM) aj xve))))) ⟨_,rfl,p,dx,_,rfl,hp,xFH (by decide+kernel) (by decide+kernel),p,d,R,t,rfl,S0,?_⟩ ⟨_,rfl,_,_,rfl,rfl,_,rfl,?_⟩;have e0:xsb (KF (Γ-t)) 8:=CY (by lia)
 try dsimp only
 show xnF e0 xnh ⟨_,rfl,p,C,dx,_,_,rfl,hp,T.cl,T.nH,jW _ _,_,rfl,p,C,dx,_,_,rfl,hp,T.cl,T.nT,eO _ _,_,rfl,d,R,t,Γ-t,rfl,hd,hb,by lia,by lia,LE H1 sm⟩;have e1:Γ-(t+(Γ-t))=0:=by omega
 try dsimp only
 rw [e1,Nat.pow_zero,Nat.div_one];show xfW xgB hv (q H1 sm)
universe K31
namespace K31.Ck
open PySem L2 QQ W17 W16 BP
seal PE PA PS PSs PT PW PG PI
abbrev k5:JL:=top 39
abbrev gB:JL:=top 102
abbrev dn:JL:=top 103
abbrev im:JL:=top 105
structure WA (K:Frag)(mg:W1)(C J4:JB):Prop where
 Y:TL K mg C
 T:CH K mg J4
 N:xks
 need:xFz bU Jag
 headrow:TD "head_row" gk xys
 three:∃t,mg "HEAD_BYTES"=xcf 3
 twoB:∃t,mg "CHECK_BYTES"=xcf 2
 most:∃t,mg "MOST_INSIDE"=xcf 64
inductive PZ (J4:JB) (vs:KB) (H:Hp) (Q:VK) (JT:XK):Prop
 |mk (x:JB) (a b:Nat) (h0:vs=[xcy]) (h1:xgZ=ω xeU) (h2:xbN a) (h3:xfr b) (h4:b=0->a=0) (h5:b=0->xwr) (h6:xdd->∀p dx H',xgU->Β->H' p=xea J4 (fH (a/64) (a%64+1) b)->xbr Φ):PZ J4 vs H Q JT
def LW:Ps ["row","told","first","inside"] Jam gB:=M2
def kq (F:Ε "head_of" gB Jam)(Z:WA K mg C J4):xnj Jam (PZ J4):=by
 show xgo N Z.need GN (bG (P:=P) (w:=w) (base:=base) N Z.N);obtain⟨_,_,Hr⟩:=Z.headrow;show xjf bI MI Z.T.init;show xmL T Z.N.X t3 h3 Z.three;show xcY t64 Kx Z.most LW (λ JN A outer st H vs Q E hr h=>?_)
 intro _;obtain⟨x,a,b,rfl,hx,ha,hb,Q2,k0,k1⟩:=h;show xvt hu;have Se:xan 7:=PP;have L4:xqc:=PP;refine xaT (xdj 1 LW.nd (xbQ GN PP N Os) (xgW kU (xwB KM) (xaF 3 h3 t3)) (xaz 2 LW.nd (aQ a6 KM aj xl6) (xdj 3 LW.nd (aQ a6 KM aj xl6) (xgW xGK KM (xbe (fJ Hr Z.Y) Se Hr On UF)) (ab (aH (xBR (xok bK On) (gz (xok bK UF))) (xcc cU) az)
  (xmZ (xvC (xok bK UF) (xcZ cB UF (xaF 64 Kx t64))) (fj MI (oa (mg:=mg) FI Z.T) L4 Z7 Z.T.m bI .nil a7 (xdn (xrv On) (xhy (xru On)) UF)))))))
 have hby:=eI ha (xpm hb);show xcg g ⟨_,rfl,_,xeU,rfl,hx,hby,λ l hn=>xbw⟩ g;have s1:=xbG xeU hn;have SU:xct H l xeU l=ω xeU:=ac;show xdS H l xeU H1;show SC ⟨_,rfl,l,_,rfl,Ο SU,rfl,_,rfl,xgJ⟩ ⟨_,rfl,l,_,_,_,rfl,rfl,JS.of SU,xhQ,?_⟩;show SC ⟨_,rfl,l,_,_,_,rfl,rfl,JS.of SU,xhR,?_⟩ ⟨_,rfl,_,rfl,_,rfl,a,b,rfl,ha,xpm hb,λ l2 H2 n2 s2 Oz=>?_⟩;have Lv:=xe4;have Kg:=xca SU;show xs3 ⟨l,l2,xhq xeU b xd2,xhq xeU b xd2,rfl,rfl,JS.of Kg,JS.of Oz,_,rfl,?_⟩ xmE xgJ;have v0:∀{n},(V.int xdW=xtM)<->n=0:=λ {n}=>⟨LT (Int.ofNat_inj.1 (V.int.inj z)),LT (by rw [z];rfl)⟩
 show xcg g xbw g;rcases FL b with OV|KH
 ·exact xik _ _ (λ _=>xik _ _ (λ _=>k0 OV _ Lv) (λ h=>xlB (v0.2 OV))) (λ h=>xlB (v0.2 (Q2 OV)))
 show SC (aq (LE R g)) ((λ(J:R [some (.ref x),some (.ref l),some (vN a),some (vN b)] H2)=>?_) xbw)
 ·exact xik _ _ (λ _=>xik _ _ (xef h (v0.1 xbK) (Gq KH)) (λ _=>J)) (λ _=>bd J)
 clear g;show xgD (xik _ _ (xef h (v0.1 xbK) (Gq KH)) xcm) ⟨_,rfl,_,_,rfl,rfl,_,rfl,aU (xef h (Int.ofNat_lt.1 xbK) (xEq hb)) xcm⟩ ⟨_,rfl,_,_,rfl,rfl,xfS,_,rfl,_,_,rfl,rfl,(by show xet 64),_,_,rfl,rfl,_,rfl,?_⟩;intro h dh nh ndh neh;have s0:=xh8 J4 nh ndh;exact⟨h,dh,a/64,a%64+1,b,rfl,ac,λ H5 hh NS=>xb2 (k1 KH h dh H5 (none_of Lv nh) (λ c o e=>xky (xhz (Lv _ _ e)) (ad (Lv _ _ e) nh)) hh)⟩
inductive RD (J4:JB) (vs:KB) (H:Hp) (Q:VK) (JT:XK):Prop
 |mk (p dx:JB) (a b c:Nat) (h0:vs=xaO) (h1:xa2=xea J4 (fH a b c)) (h2:xlm (c+5) H):RD J4 vs H Q JT
def yp:Ps xuQ xuQ dn:=M2
def pE (F:Ε "block_size" dn xuQ)(Z:WA K mg C J4):xey xuQ (RD J4):=by
 obtain⟨t3,h3⟩:=Z.three;show xcY t2 h2 Z.twoB yp (λ JN A outer st H vs Q E hr h=>?_)
 intro _;obtain⟨p,dx,a,b,c,rfl,hp,k⟩:=h;show xs0 (xbA (xbA (xaF 3 h3 t3) XL) (xaF 2 h2 t2)) ⟨_,rfl,p,J4,dx,_,_,rfl,hp,Z.T.cl,Z.T.nI,A8 _ _ _,_,_,rfl,rfl,_,_,rfl,rfl,?_⟩;have e:SL 3+SL c+2=KF (c+5):=by lia
 try dsimp only
 show xeY k
inductive Nn (J4:JB) (vs:KB) (H:Hp) (Q:VK) (JT:XK):Prop
 |mk (x:JB) (a b:Nat) (r:Fr) (h0:vs=[xcy]) (h1:xgZ=ω (xeU++r)) (h2:xbN a) (h3:xfr b) (h4:xdd) (h5:r.length=b+2) (h6:∀p dx H',xgU->Β->H' p=xea J4 (fH (a/64) (a%64+1) b)->xbr Φ):Nn J4 vs H Q JT
def Ny:Ps ["block","head"] xFM im:=M2
def pj (F:Ε "need_head" im xFM)(O:xbt "head_of" gB Jam fO Ws)(Bs:xbt "block_size" dn xuQ fB fdB)(Z:WA K mg C J4):
  xsF xFM (Nn J4):=by
 have T:=Z.N.X;show xcY t3 h3 Z.three Ny (λ JN A outer st H vs Q E hr h=>?_)
 intro _;obtain⟨x,a,b,r,rfl,hB,ha,hb,KH,hl,k⟩:=h;have J5:xa0:=PP;refine xaT (ab (xgW dt xk9 (xaF 3 h3 t3))
  (xdj 1 Ny.nd (xdy (kq O Z) O (xwf Os bF (xaF 3 h3 t3))) (xgW gJ KM cU) (xmZ (xgW kU xk9 (xbQ (pE Bs Z) J5 Bs KM)) KM)))
 have el:xat (Wp (xeU++r)) (b+5):=by rw [CM,CN,hl];show 3+_=_;lia
 refine⟨_,rfl,x,_,rfl,Ο hB,_,_,rfl,rfl,_,rfl,xvH xcm⟩
 ·show xaM h xbK el h;lia
 refine⟨_,rfl,_,rfl,x,_,rfl,xxM,LE l hn⟩;have ec:xvI (Wp (xeU++r)) 3=Wp xeU:=dS _ 3;rw [ec];have s1:=xbG xeU hn;refine⟨l,a,b,rfl,ac,ha,hb,LT (by lia),LT (by lia),λ _ p dx H2 np s2 hp=>?_⟩;have Lv:=xe4;show SC (xik _ _ (xef z (C5 z) (by show τ)) xcm) ⟨_,rfl,x,_,rfl,Ο (Lv _ _ hB),_,rfl,p,dx,_,_,_,rfl,hp,rfl,_,rfl,?_⟩;rw [el,xmE];exact xCY (k p dx H2 (xh7 np) Lv hp)
def vB (n d):HT.sIx n d (some (-2))=n-2:=by
 unfold HT.sIx;simp;lia
def zy (B:Fr):xvI xe2 (-2)=Wp (B.take (xrD 2)):=by
 unfold cutV;rw [vB,HT.M8,EY,Gr,CM,E1]
def xR (B:Fr)(h:xfI 5):xou xe2 (some 3) (-2)=Wp (xje (xrD 2) 3):=by
 unfold cutV;rw [vB,xdw (SL 3) (KF 3),HT.Kw,CM,DL (CV (by decide) h),Fa,E1,Jy]
def iV (R:Fr):xjc=xJz (λ b=>xd2) V.int:=by rw [EJ];rfl
def f9 (R):xat xu3 (R.length+2):=CN
def sC (R):xb6 xu3 (xu3).length 2=R:=by show IO f9 Jc
inductive P0 (vs:KB) (H:Hp) (Q:VK) (JT:XK):Prop
 |mk (a:JB) (R:Fr) (h0:vs=xbU) (h1:Uf=ω xu3) (h2:xa1 R) (h3:xbH R.length) (h4:xe0 (Β->xbr xxx)):P0 vs H Q JT
def vO:Ps Jam Jam k5:=M2
def tT {f fW:JB}(F:Ε "ends_in_check" k5 Jam)(Wc:xbt "with_check" dv Jam fW NY)(Y:TL K mg C):Α 8 Jam P0:=by
 show xbj vO (λ JN A outer st H vs Q E hr h=>?_);obtain⟨a,R,rfl,hB,hb,hl,k⟩:=h;show xvt hu;show xs0 (eh (wU hu) (xdy (d6 Wc Y) Wc (xwf Os bF (wG qi aj))) Os xve) ⟨_,rfl,_,rfl,_,rfl,a,_,rfl,xxM,LE l hn⟩;have ec:xvI (Wp xu3) (-2)=xjc:=by rw [zy,sC]
 rw [ec];have s1:=xas xjc hn;refine⟨l,R,rfl,ac,hb,hl,λ l2 H2 n2 s2 h2=>?_⟩;have hB:=xca (xch hB);rw [iV] at hB h2;show xfW ⟨_,rfl,l2,a,_,_,rfl,rfl,JS.of h2,xxM,?_⟩ xmE (xcF xe4)
def oP (r a):xi6 r [vN a]=Wp (xox r):=by
 induction r with
 |zero=>rfl
 |succ r ih=>rw [Ef,Es,ih];rfl
def bt8 (hb:xlR)(hi:i<R.length):xed (8*i) 8=R[i]:=by
 have h:=sV hb (Fl i) hi;have e:(R.take (i+1)).drop i=[R[i]]:=by rw [cv (CU hi),List.drop_left' (by show xam Dd)]
 rw [e,eN,sH,show i.succ-i=1 by lia,jl,jl] at h;show xbm;rw [h];show xbk bt (show Γ-(8*i+8)=8*(R.length-(i+1)) by lia)
structure TC (K:Frag)(mg:W1)(C:JB):Prop where
 Y:xks
 T:VD K mg C
 m:mg "BitReader"=xhM
 init:∃f fd,xfx K "BitReader.__init__" qD f/\xjK Jaj/\xqo
 take:∃f fd,xHl C kh xq5 f fd
 left:∃f fd,xg2 "left" "BitReader.left" kj
 atend:∃f fd,xg2 "at_end" "BitReader.at_end" qv
 need:xFz bU Jag
 size:TD "need_size" cC Jah
 ones:TD "ones" fw Jah
 bits:TD "bits_at" ft Jai
def TC.tk (Z:TC K mg C):∃f fd,xHl C kh xq5 f fd/\∀P w base,xlu xq5 (OE C):=by
 obtain⟨f,fd,Tk⟩:=Z.take;show Η L Z.left W Z.Y.whole;show Η S Z.size O Z.ones;show xoz Ba Z.bits ⟨f,fd,Tk,λ _ _ _=>rS Tk.F S W Ba O L Z.T Z.Y.X⟩
def _root_.K31.JW.keep (h:xjV H p t)(k:∀c o,WF=Id->(c=p\/c=d)->xaB=Id):xjV H' p t:=by
 obtain⟨⟨dx,hp⟩,hd,r1,r2⟩:=h;show xaC (xdr (xmX hp xbZ)) (xmX hd xFe) r1 r2
inductive N8 (C:JB) (vs:KB) (H:Hp) (Q:VK) (JT:XK):Prop
 |mk (o r d:JB) (x:V) (R:Fr) (n:Nat) (h0:vs=[xfU,xjM,xd0,x]) (h1:xiY H 0) (h2:xfr n) (h3:n≤R.length) (h4:∀l H',Θ->xaq=ω (R.take n)->xiY H' (8*n)->(∀c o,WF=Id->xiJ->xaB=Id)->xak):N8 C vs H Q JT
def t8:Ps Jad Jad iX:=M2
def Cv:(["step","reader"]:xaj).Nodup:=Z8
def AK (C:JB):TE:=ou C "take" (OE C) [] E0 (LI 1) (kC (tC (.int 8)) j8)
def qZ (F:Υ "read" "RawWay.read" iX)(Z:TC K mg C):xnj Jad (N8 C):=by
 have X:=Z.Y.X;show xBC VC Z.tk;have GT:=VC P w base;have TR:=Z.T;show xau t8 (λ JN A outer st H vs Q E hr h=>?_);obtain⟨o,r,d,x,R,n,rfl,hR,Kx,hnR,k⟩:=h;refine xee (ji (js:=[none,some 1]) rfl
  ⟨rfl,Z8,Z8,Z7,λ x c h=>(by show xcI rfl (fX h);rfl),λ x hx=>?c1,rfl,λ i x j h1 h2=>?c2⟩
  (xxE Z7 xx7) (λ fp s H=>xqD 0 Cv)
  (λ fp s H=>xHo hr))
 case c1=>
  rcases hx with hx|hx
  ·have m':(x,NameKind.cell)∈([xmF ".0",xmF "step",("reader",.cell)]:xw9):=xzQ;have e:x="reader":=by simpa using m'
   subst e;exact xbg
  ·have m':(x,NameKind.free)∈([xmF ".0",xmF "step",("reader",.cell)]:xw9):=xzQ;simp at m'
 case c2=>
  show xn1 (qQ h1 h2) (xdm rfl rfl (λ c h=>h))
 refine⟨_,rfl,xaf,rfl,by lia,by lia,xf7⟩;obtain⟨⟨Y2,NV⟩,SW,hb,_⟩:=id hR;have Ld:xeG r:=xeT NV;have MT:xlY:=xeT SW;refine kM (g:=xiz) (te:=AK C) (lo:=0) (l:=l) (k:=(xdW).toNat)
  (λ i ys σ H2=>∃v0,σ=[v0,ST r]/\i≤R.length/\ys=Wp xwK/\xhL=xen/\xiY H2 (8*i)/\∀c o,WF=Id->xiJ->xkl=Id)
  ⟨none,rfl,Ω,rfl,ac,hR.keep λ c o e _=>xfY _ _ e,λ c o e _=>xfY _ _ e⟩ ?_ ?_ ?_ ?_
 ·rintro i ys σ H2 hi ⟨v0,rfl,hiR,rfl,LD,K3,kp⟩;have hin:i<n:=by simpa using hi
  obtain⟨⟨dx,L4⟩,_,_,_⟩:=id K3;refine⟨_,rfl,r,dx,_,rfl,L4,xpK,r,d,R,_,8,rfl,K3,Z9,by lia,Sc H3 KQ Kc⟩
  ·have K1:i<R.length:=by lia
   rw [bt8 hb K1];have hRi:xad R R[i]:=xso;refine⟨xaK LD Ld,bw (by rw [CM,Dd];lia),_,rfl,K1,by rw [cv hRi,C8];rfl,ac,?_,λ c o e n=>?_⟩
   ·refine KQ.keep λ c o e hc=>?_
    show xgj (by show xiu hc;exact Ld.symm;exact MT.symm)
   ·show xl2 (xaK (xap e n) n)
 rotate_left
 ·exact λ x σ H A B h z=>xiM
 ·rintro σ H A B h ⟨v,e1,a',dx,fs,e2,e3,e4,p',d',R',t',s',e5,e6,e7,z',z⟩;exact⟨v,e1,a',dx,fs,e2,e3,e4,p',d',R',t',s',e5,e6,e7,z',λ H' z1 z2=>xjS (z H' z1 z2)⟩
 ·rintro ys σ H2 ⟨v0,rfl,hn,rfl,LD,K3,kp⟩;rw [Dz] at LD K3 hn;exact xdE H2 nl LD K3 kp
def xO {v:α}(h1:xdd)(h2:xqH b)(h:xfX (xgx b)=xab):Vy xs (-xd2)=xab:=by
 have e:Re (xAA (-xnv)) (xgx b):=by
  unfold ixN;rw [Dc (by lia),Dq (by lia)];congr 1;lia
 show xpt Vy e h
noncomputable def cpy (B:Fr) (b:Nat):xaQ Fr
 |0=>B
 |n+1=>xzn++[(xzn).getD (xBp B n-b) 0]
def cF (B)(b):∀n,xat xzn (xrE n):=λ n=>by
 induction n with
 |zero=>rfl
 |succ n ih=>rw [cpy,CN,ih];rfl
inductive XE (R:Fr) (e:Nat):xaQ (Fr->xvd Fr)
 |done {t:Nat} {S:Fr}:xyq e->XE R e t S t S
 |run {t t':Nat} {S S':Fr}:xrL e->t+14≤Γ->xqU (xzA+1)≤e->XE R e (t+14) (S++xES xzA 1 (xed (t+6) 8)) t' S'->XE R e t S t' S'
inductive TK (R:Fr) (e:Nat):xaQ (Fr->xvd Fr)
 |done {t:Nat} {S:Fr}:xyq e->xnU e t S t S
 |sg {t t':Nat} {S S':Fr}:xrL e->t+9≤Γ->xy3 1=0->xnU e (t+9) (S++[xed (t+1) 8]) t' S'->xnU e t S t' S'
 |cp {t t':Nat} {S S':Fr}:xrL e->t+13≤Γ->xy3 1=1->xqU (xed (t+9) 4+3)≤e->Δ (xed (t+1) 8)->xfL (xed (t+1) 8)->xnU e (t+13) (cpy S (xed (t+1) 8) (xed (t+9) 4+3)) t' S'->xnU e t S t' S'
def TK.le (h:xnU e t S t' S'):xGg e:=by
 cases h with
 |done h=>exact Di h
 |sg h=>exact Dr h
 |cp h=>exact Dr h
structure Rds (K:Frag)(mg:W1):Prop where
 X:xgT
 room:TD "need_room" gX xCa
 lay:TD "lay_copy" jX xBU
 add:TD "add_copy" jz xHm
 ahead:TD "signs_ahead" jJ xjj
inductive Ni (vs:KB) (H:Hp) (Q:VK) (JT:XK):Prop
 |mk (a:JB) (xs:KB) (s e:Nat) (h0:vs=[SZ,xci,vN e]) (h1:Uf=xb8) (h2:xs.length+s≤e) (h3:xjN H):Ni vs H Q JT
def qB:Ps xCa xCa gX:=M2
def iu (F:Ε "need_room" gX xCa)(Z:xzR mg):xlu xCa Ni:=by
 show xbj qB (λ JN A outer st H vs Q E hr h=>?_);obtain⟨a,xs,s,e,rfl,ha,he,k⟩:=h;show xbf (ae (xgW cB (xbA (aL Z.X.len Os) KM) On)) ⟨_,rfl,a,_,rfl,Ο ha,_,rfl,_,_,rfl,rfl,_,rfl,_,_,rfl,rfl,_,rfl,xCz k⟩;show xaR xbK
inductive Oj (vs:KB) (H:Hp) (Q:VK) (JT:XK):Prop
 |mk (l:JB) (B:Fr) (b z:Nat) (h0:vs=[xah,xdz,vN z]) (h1:H l=xf1) (h2:xdd) (h3:xfI b) (h4:xbH (xrE z)) (h5:xjN (xfv H l (xCS z))):Oj vs H Q JT
def Ot:Ps (xLh "step") xHm jz:=M2
def p4 (F:Ε "add_copy" jz xHm)(T:xgT):xey xHm Oj:=by
 show xbj Ot (λ JN A outer st H vs Q E hr h=>?_);obtain⟨l,B,b,z,rfl,hB,KH,OU,hz,k⟩:=h;show xbf (ae (xlg (b9 Z7 T.range xx7) 3 Ot.nd (xlc (xfj D1 D5 bu Os (xkf (wG qi KM)))))) ⟨_,rfl,SL z,rfl,by lia,by lia,?_⟩
 try dsimp only
 show Tm Dz (bZ (D:=xdf) (λ j σ H2=>∃v3,σ=[xgQ,xkp,SB z,v3]/\H2=xfv H l (xCS j)) (xac none rfl) ?_ ?_)
 ·funext c;by_cases e:c=l
  ·subst e;show IO ac hB
  ·rw [ag e]
 ·rintro j σ H2 hj ⟨v3,rfl,rfl⟩;have hlen:=cF B b j;have hg:xBp B j-b<xBp B j:=by omega
  refine⟨_,rfl,xeD ac,_,rfl,_,rfl,_,rfl,l,_,_,vN ((xCS j).getD (xBp B j-b) 0),rfl,rfl,xxS,xO KH (by show xcS) ?_,?_⟩
  ·rw [CM,DX,Dn,CU hg];rfl
  ·show SC ⟨l,_,_,rfl,rfl,ac,bw (by show xcS),?_⟩ (xac (some (V.int (xcQ+SL j))) rfl);rw [dz,cpy,C8];rfl
 ·rintro σ H2 ⟨v3,rfl,rfl⟩;exact k
inductive Oi (vs:KB) (H:Hp) (Q:VK) (JT:XK):Prop
 |mk (x:JB) (W:Fr) (h0:vs=[xcy]) (h1:xgZ=xj1) (h2:∀l,Θ->Q xah (xiZ xkP)):Oi vs H Q JT
def tq:Ps xjj xjj jJ:=M2
def jc (F:Ε "signs_ahead" jJ xjj)(T:xgT):xey xjj Oi:=by
 show xbj tq (λ JN A outer st H vs Q E hr h=>?_);show xcN x W hx k h;refine xee (jy (xcZ gJ Os cU) xdM (xGC EU xgA));exact xk0 _ _ (bd ⟨_,rfl,x,_,rfl,Ο hx,λ l nl=>xdE nl⟩)
inductive WL (vs:KB) (H:Hp) (Q:VK) (JT:XK):Prop
 |mk (l:JB) (S:Fr) (b z e:Nat) (h0:vs=[xah,xdz,vN z,vN e]) (h1:H l=xir) (h2:xbH e) (h3:xdd) (h4:xfL b) (h5:xqU z≤e) (h6:xjN (xfv H l (cpy S b z))):WL vs H Q JT
def AZ:Ps xBU xBU jX:=M2
def vZ (F:Ε "lay_copy" jX xBU)(Z:xzR mg):xnj xBU WL:=by
 show Η Nr Z.room Ac Z.add;have GN:=iu (P:=P) (w:=w) (base:=base) Nr Z;have GA:=p4 (P:=P) (w:=w) (base:=base) Ac Z.X;show xbj AZ (λ JN A outer st H vs Q E hr h=>?_);obtain⟨l,S,b,z,e,rfl,hl,he,KH,OU,hz,k⟩:=h;have J5:xa0:=PP;show xlq (xcz (xnJ GN Nr Os On UF) (ab (xvC (xok bK KM) (xcZ cB KM (aL Z.X.len Os)))
  (xlc (aA GA J5 Ac (xdn Os KM On))))) ⟨_,rfl,_,rfl,_,rfl,l,_,z,e,rfl,hl,by show xes hz,?_⟩ (xik _ _ (λ h=>xnh) xcm)
 ·have h0:b=0:=Int.ofNat.inj (V.int.inj xbK);exact Gq KH h0
 refine⟨_,rfl,_,rfl,l,_,rfl,Ο hl,_,_,rfl,rfl,_,rfl,xvH xcm⟩
 ·show xc6 xbK CM;lia
 exact⟨_,rfl,_,rfl,_,rfl,l,S,b,z,rfl,hl,KH,OU,by lia,k⟩
inductive N5 (C:JB) (vs:KB) (H:Hp) (Q:VK) (JT:XK):Prop
 |mk (o r d:JB) (x:V) (R T:Fr) (n t':Nat) (h0:vs=[xfU,xjM,xd0,x]) (h1:xiY H 0) (h2:XE R n 0 [] t' T) (h3:xfr n) (h4:∀l H',Θ->xaq=xbJ->xiY H' t'->(∀c o,WF=Id->xiJ->xaB=Id)->xak):N5 C vs H Q JT
def Lk:Ps ["self","reader","count","before","signs","size","sign"] Jad jM:=M2
def qG (F:Υ "read" "RunWay.read" jM)(Y:xzR mg)(Z:TC K mg C):xnj Jad (N5 C):=by
 have X:=Z.Y.X;show xBC VC Z.tk;have GT:=VC P w base;have TR:=Z.T;show xgo Nm Y.room GM (iu (P:=P) (w:=w) (base:=base) Nm Y);show xau Lk (λ JN A outer st H vs Q E hr h=>?_);obtain⟨o,r,d,x,R,T,n,t',rfl,hR,hk,Kx,k⟩:=h;refine xaT (xaU 4 Lk.nd xdM (xpu dt xx5 On (xaz 5 Lk.nd (xhy (xHo hr)) (xdj 6 Lk.nd (xHo hr) (aB (xnJ GM Nm υ xaL On)) (xlc (xfj Fm FM dI υ (xzh gR (xa7 xeN) xaL)))))) υ)
 obtain⟨⟨Y2,NV⟩,SW,hb,_⟩:=id hR;have no:∀t,Ζ xHf:=λ t=>xpK
 show xvK xbu (xg9 (xdX l nl));have Ld:xeG r:=xeT NV;have MT:xlY:=xeT SW;show SC xbu (xac (λ m σ H2=>∃v5 v6 S t,m=n-S.length/\XE R n t S t' T/\σ=[ST o,ST r,xnX,Χ,xgQ,v5,v6]/\xhL=xir/\xiY H2 t/\∀c o,WF=Id->xiJ->xkl=Id) ⟨n,none,none,[],0,rfl,hk,rfl,ac,hR.keep λ c o e _=>xfY _ _ e,λ c o e _=>xfY _ _ e⟩)
 rintro m σ H2 ⟨v5,v6,S,t,rfl,hk,rfl,LD,K3,kp⟩;refine⟨_,rfl,l,_,rfl,Ο LD,_,rfl,_,_,rfl,rfl,_,rfl,xec h h⟩
 ·clear g1;show xaM h' xbK CM h';cases hk with
  |done e=>omega
  |run q1 q2 q3 q4=>
  clear h h';refine xDg;show xbp Ql L4 K3.ob xna
  refine⟨_,rfl,r,Ql,_,rfl,L4,xiG,r,d,R,t,6,rfl,K3,Z9,by lia,Sc H3 KQ Kc⟩;show xfp (xay _ _ rfl xcG);have e1:SL xzA+1=xjL xzA:=by lia
  try dsimp only
  rw [e1];generalize hz:xzA+1=z at*;show xbp Mp Ln KQ.ob xna
  show xfp ⟨_,rfl,r,Mp,_,rfl,Ln,xiG,r,d,R,t+6,8,rfl,KQ,Z9,by omega,λ H4 KP MC=>xcG⟩;generalize xed (t+6) 8=s at*;have S1:=xiO (xaK LD Ld) Ld;refine xna
  show xfp ⟨_,rfl,_,rfl,_,rfl,l,_,z,n,rfl,S1,by rw [CM];omega,xcG⟩;refine⟨_,rfl,xeD S1,_,rfl,(by show xcR 1),LE l4 n4⟩;have s4:=xas xqe n4;have Qy:xbC H4 l4 xqe l4=Ι xqe:=ac;have h4l':=xdg S1;have nl4:xeG l4:=ad S1 n4;have Wl:xiY (xby H4 l4 xqe) (t+14):=KP.keep λ c o e _=>xdg e
  have NS:∀c o,WF=Id->xiJ->xbC H4 l4 xqe c=Id:=λ c o e z=>xdg (xiO (xaK xCT z) z)
  show xbb H4 l4 xqe H5;refine⟨_,rfl,l4,_,_,rfl,rfl,Qy,by lia,by lia,a9 (by show xiE (1*_);lia),LE l6 n6⟩;rw [Dz,oP];have s6:=xbG (xIr s) n6;have h66:xct H5 l6 (xIr s) l6=ω (xIr s):=ac;have h6l:=xcj h4l';refine⟨l,l6,_,_,rfl,rfl,h6l,h66,a9 (by simp;lia),_,?_,_,_,_,_,rfl,q4,rfl,by rw [ac,C8],Wl.keep λ c o e hc=>?_,λ c o e z=>?_⟩
  ·rw [CN,DI,<-hz];exact EO q1 (Fg xdY)
  ·show Ty (by show xiu hc;exact Ld.symm;exact MT.symm) (xcj e)
  ·show xl2 (xcj (xky e z))
 ·cases hk with
  |run q1=>exact xlB (by show xcS)
  |done e=>exact xyH (xdE H2 nl LD K3 kp)
inductive Np (C:JB) (vs:KB) (H:Hp) (Q:VK) (JT:XK):Prop
 |mk (o r d x:JB) (R W S:Fr) (n t':Nat) (h0:vs=[xfU,xjM,xd0,xcy]) (h1:xiY H 0) (h2:xgZ=xj1) (h5:xnU xne 0 W t' S) (h6:xfr n) (h7:xm4) (h8:∀l H',Θ->xaq=ω xId->xiY H' t'->(∀c o,WF=Id->xiJ->xaB=Id)->xak):Np C vs H Q JT
abbrev Ar:xaj:=["self","reader","count","before","signs","begin","end","back","size"]
def Lj:Ps Ar Jad gL:=M2
def oK (F:Υ "read" "CopyWay.read" gL)(Y:xzR mg)(Z:TC K mg C):xsF Jad (Np C):=by
 have X:=Z.Y.X;show xBC VC Z.tk;have GT:=VC P w base;have TR:=Z.T;show Η La Y.lay Ao Y.ahead;have GA:=jc (P:=P) (w:=w) (base:=base) Ao X;have GL:=vZ (P:=P) (w:=w) (base:=base) La Y;show xbp tl hle X.least (F.ok Lj λ JN A outer st H vs Q E hr h=>?_)
 intro _;obtain⟨o,r,d,x,R,W,S',n,t',rfl,hR,hx,hk,Kx,hW,k⟩:=h;have L8:xan 31:=PP;have J5:xa0:=PP;refine xfV 4 Lj.nd (xbQ GA J5 Ao UF) (xaz 5 Lj.nd xx5 (xaU 6 Lj.nd (xbA xaL On) (xpu dt xx5 xeN (ae (xgs bK xDh aj (aB (xfj D1 D5 bu υ xDh)) (xaz 7 Lj.nd xDh (xdQ 8 Lj.nd (xbA xDh (xaF 3 hle tl)) (aB (aA GL hr La (aa υ (xdn xmV xjH xeN))))))))) (xq8 υ xaL bF)))
 obtain⟨⟨Y2,NV⟩,SW,_,_⟩:=id hR;have no:∀t,Ζ xHf:=λ t=>xpK
 show xvK xbu ⟨_,rfl,x,W,rfl,hx,xdX l nl⟩;have Ld:xeG r:=xeT NV;have MT:xlY:=xeT SW;show xvK xbu ⟨_,rfl,l,_,rfl,Ο ac,χ⟩
 try dsimp only
 show Tm CM xbu
 have e0:xJW+xaf=KF xne:=by lia
 show xbI ⟨_,rfl,_,rfl,_,_,rfl,rfl,χ⟩
 try dsimp only
 show xnF e0 xbu (xac (λ m σ H2=>∃v7 v8 S t,m=xne-S.length/\xnU xne t S t' S'/\σ=[ST o,ST r,xnX,ST x,xgQ,SB W.length,SB xne,v7,v8]/\xhL=xir/\xiY H2 t/\∀c o,WF=Id->xiJ->xkl=Id) ⟨n,none,none,W,0,by lia,hk,rfl,ac,hR.keep λ c o e _=>xfY _ _ e,λ c o e _=>xfY _ _ e⟩)
 rintro m σ H2 ⟨v7,v8,S,t,rfl,hk,rfl,LD,K3,kp⟩;have hle2:=hk.le;refine⟨_,rfl,l,_,rfl,Ο LD,_,rfl,_,_,rfl,rfl,_,rfl,xec h h⟩
 ·clear g1;show xaM h' xbK CM h';have JO:xrL xne:=by omega
  obtain⟨Ql,L4⟩:=K3.ob;clear h h';have t1:t+1≤Γ:=by cases hk<;>lia
  show xbf (xra z) ⟨_,rfl,r,Ql,_,rfl,L4,xiG,r,d,R,t,1,rfl,K3,Z9,t1,Sc H3 KQ Kc⟩;show xpq Mp Ln KQ.ob Qi (xaK LD Ld);cases hk with
  |done e=>omega
  |sg q1 q2 q3 q4=>
   show xnF q3 (xdm rfl _ (xwp h rfl)) ⟨_,rfl,xeD Qi,_,rfl,r,Mp,_,rfl,Ln,xiG,r,d,R,_,8,rfl,KQ,Z9,by omega,Sc H4 KP MC⟩;have S1:=xiO Qi Ld;refine⟨l,_,_,rfl,rfl,S1,bw (by show xcS),_,?_,_,_,_,_,rfl,q4,rfl,by rw [ac,C8];rfl,?_,λ c o' e z=>?_⟩
   ·show IO CN (xzS xrV)
   ·refine KP.keep λ c o e hc=>?_
    show xgj (by show xiu hc;exact Ld.symm;exact MT.symm)
   ·show xl2 (xiO (xaK xCT z) z)
  |cp q1 q2 q3 q4 q5 q6 q7=>
   show xnF q3 (xdm rfl _ (aU (xef h xbK (by show τ)) xcm)) (xEv Zc)
   show xe6 ⟨_,rfl,r,Mp,_,rfl,Ln,xiG,r,d,R,_,8,rfl,KQ,Z9,by lia,λ H4 KP MC=>Zc _ _ ?_⟩ Zc;show xbp dx4 OP KP.ob (xEv Zc)
   refine⟨_,rfl,r,dx4,_,rfl,OP,xiG,r,d,R,_,4,rfl,KP,Z9,by omega,Sc H5 Wl NS⟩;have ez:KF (xed (t+1+8) 4)+3=KF (xed (t+9) 4+3):=by show xam (show t+1+8=t+9 by lia)
   show xe6 (xay _ _ rfl (Zc _ _ ?_)) Zc
   try dsimp only
   rw [ez];have h5l:=xky (xiO Qi Ld) Ld;refine⟨_,rfl,_,rfl,_,rfl,_,rfl,l,S,xed (t+1) 8,xed (t+9) 4+3,xne,rfl,h5l,by lia,q5,q6,q4,_,?_,_,_,_,_,rfl,q7,rfl,ac,?_,λ c o' e z=>?_⟩
   ·show IO cF (xzS (EN (HF _)))
   ·refine(show t+1+8+4=t+13 by lia)▸Wl.keep λ c o e hc=>?_
    show xgj (by show xiu hc;exact Ld.symm;exact MT.symm)
   ·show xl2 (xky (xiO (xaK xCT z) z) z)
 ·cases hk with
  |sg q1=>exact xlB (by rw [CM];omega)
  |cp q1=>exact xlB (by rw [CM];omega)
  |done e=>
   show xbI χ;have ec:xyc (S'.map vN) (xrk W.length)=Wp xLT:=by rw [dm,<-Fa]
   refine⟨_,rfl,_,rfl,_,rfl,l,_,rfl,JS.of LD,LE l9 n9⟩
   try dsimp only
   rw [ec];have s9:=xbG xLT n9;refine k l9 _ ?_ ac (K3.keep λ c o e _=>s9 _ _ e) λ c o e n=>s9 _ _ (xap e n)
   cases e:H l9 with
   |none=>rfl
   |some o'=>
    by_cases z:l9=r
    ·subst z;obtain⟨⟨dx9,Vh⟩,_⟩:=K3;show Tl Vh n9 n9
    ·show Tl xCT n9 n9
universe K31.Ck
namespace K31
open PySem L2 QQ W17 W16 BP
seal PE PA PS PSs PT PW PG PI
abbrev mV:JL:=xaD 30 3
inductive Rp (C:JB) (vs:KB) (H:Hp) (Q:VK) (JT:XK):Prop
 |mk (p:_) (d:_) (R:_) (t:_) (h0:vs=xaO) (h1:xjV H p t) (h2:xlm t H):Rp C vs H Q JT
def yC:xc3 mV:=M2
def oZ (F:Υ "place" "BitReader.place" mV)(T:VD K mg C):xgS (Rp C):=by
 show xau yC (λ JN A outer st H vs Q E hr h=>?_);obtain⟨p,d,R,t,rfl,⟨⟨dx,hp⟩,hd,hb,ht⟩,q⟩:=h;refine xee XL;exact⟨_,rfl,p,C,dx,_,_,rfl,hp,T.cl,T.nT,eO _ _,q⟩
def JW.same (h:xjV H p t)(s:Β):xjV H' p t:=by
 obtain⟨⟨dx,h1⟩,h2,h3,h4⟩:=h;show xaC (xdr (xgi h1)) (xgi h2) h3 h4
universe K31
namespace K31.C
open PySem L2 QQ C9 C10
seal PE PA PS PSs PT PW PG PI
structure Mk2 (K:Frag)(mg:W1)(C:JB):Prop where
 X:xbi
 Y:Ww K mg
 need:TD "need_lengths" eM Jaf
 cof:TD "codes_of" gq Jaf
 keep:∃f fd,xsX "keep_beginnings" "CodeReader.keep_beginnings" vg (xmC "code" "length") f fd
 R:CRc K mg C
def ok_cinit (F:xfx K "CodeReader.__init__" sCInit f)(M:Mk2 K mg C):Α 34 xID xFk:=by
 obtain⟨X,Y,⟨_,_,N⟩,⟨_,_,O⟩,⟨_,_,Ke⟩,T⟩:=M;have GO:=NA (P:=P) (w:=w) (base:=base) O N Y;have GK:=xA (P:=P) (w:=w) (base:=base) Ke.F T X;show xau scCInit (λ JN A outer st H vs Q E hr h=>?_);obtain⟨p,dx,a,L,rfl,hp,ha,G,q⟩:=h;have J5:xa0:=PP;show xbf (xdu pz (xdu pz (ae (xz7 Du (lL Z7 Y.X.enum (xa7 (xdy GO O KM))) (xDa (xmW 2 scCInit.nd (xmW 3 scCInit.nd gC))) (ae (aH (qR (xX UF))
    (ab (rJ xCd XL UF On rfl)
    (xlc (xym Ke GK J5 (xbo xuX xuX)))) az)))))) xbu
 intro d nd;have Mz:p≠d:=xpB nd;show xbI ⟨_,rfl,p,C,dx,[],rfl,(by show Ty Mz hp),T.cl,T.nT,(by show xcC 0),χ⟩;refine xbu
 intro e ne;have Yl:p≠e:=by
  rintro rfl;show Tl ac ne ne
 have nde:d≠e:=by
  rintro rfl;show xfB xmq ac ne ne
 show xbI ⟨_,rfl,p,C,dx,_,rfl,(by rw [ag Yl,ac]),T.cl,T.nB,(by show xcC 1),χ⟩;have neH:XV e:=by
  rw [ag Yl.symm,ag nde.symm] at ne;exact ne
 try dsimp only
 rw [gF];have kp:∀b o,xal=Id->xgd->xdh (xDf (xfd d xhi) (xxo d []) e xhi) xqi b=Id:=λ b o ez hn=>by
  rw [ag hn,xkM ez neH,ag hn,xkM ez nd];exact ez
 have SS:xdh (xDf (xfd d xhi) (xxo d []) e xhi) xqi p=xmR d e:=ac;have SW:Re (xdh (xDf (xfd d xhi) (xxo d []) e xhi) xqi d) xhi:=by
  rw [xmq,ag nde,xmq,ac]
 show xbB he0 (Re (xdh (xDf (xfd d xhi) (xxo d []) e xhi) xqi e) xhi) (by
  rw [ag Yl.symm,ac]) (xdh (xDf (xfd d xhi) (xxo d []) e xhi) xqi) H0;have Xb:xaP a:=xpX ha (by show τ);refine⟨_,rfl,_,L,rfl,xeu a (xap ha Xb) G.most,G,λ l xs H1 nl s1 Mn Vv=>?_⟩;have K9:xqg:=LT (by show xbY SS nl nl)
 have MT:xlY:=LT (by show xbY SW nl nl)
 have nle:xeG e:=LT (by show xbY he0 nl nl)
 refine xay l _ (JS.of Mn) (vV (λ i σ H2=>∃v2 v3 k1 k2,σ=[xeV,xbv,v2,v3]/\H2 p=xmR d e/\Re (H2 d) (.dT k1)/\Re (H2 e) (.dT k2)/\mZ L i k1/\m7 L i k2/\xhL=xb8/\xpO H2 xrq/\
   ∀b o,xal=Id->xgd->H2 b=Id) ⟨none,none,[],[],rfl,xch SS,xch SW,xch he0,yb L,yj L,Mn,Vv,λ b o ez hn=>xch (kp b o ez hn)⟩ (λ i σ H' _ z9=>by obtain⟨_,_,_,_,_,_,_,_,_,_,z,_⟩:=z9;exact JS.of z) ?_ ?_)
 ·rintro i x t σ H2 hx nt ⟨v2,v3,k1,k2,rfl,J9,hd2,Tg,hT,hB,Kg,hC,OI⟩;have K1:i<(xrq).length:=by show xa5 hC.1 (xco hx)
  have hiL:xmk i:=by
   unfold codes at K1
   rwa [bi] at K1
  have hLle:=G.le;have st:=xth [xpY,x];refine⟨t,_,rfl,xBB,rfl,_,_,rfl,_,_,rfl,rfl,?_⟩;have ot:=hC.2 i x _ hx xso;have Zy:=xd6 J9;have hdT:=xd6 hd2;have SV:=xd6 Tg;have YG:=xd6 Kg;have hCT:xpO _ xrq:=hC.keep λ t2 ys ez=>xd6 ez
  show xbB othT (∀b o,xal=Id->xgd->xiA t [xpY,x] b=Id) (λ b o ez hn=>xd6 (OI b o ez hn)) (xiA t [xpY,x]) H3;cases eo:(xrq)[i] with
  |none=>
   rw [eo] at ot;have ex:x=.non:=ot;subst ex;have h0:∀s,xad L s->¬xqf:=λ s hs h1=>by
    have:=LX G hs h1;show xfB xso eo this this
   refine xc4 _ rfl _ xgJ;exact⟨_,_,k1,k2,rfl,Zy,hdT,SV,yE hT h0,yL hB h0,YG,hCT,othT⟩
  |some c=>
   rw [eo] at ot;have Qu:=qN G (by rw [xso,eo]);obtain⟨u,ex,hu⟩:=hC.keep (H':=H3) (λ t2 ys ez=>by exact(st _ _ ez))|>.2 i x _ hx (by rw [CU K1,eo]);subst ex;show SC (xc4 _ rfl _ xnh) xna
   show xfp ⟨_,rfl,_,rfl,p,C,dx,_,_,rfl,Zy,T.cl,T.nT,AB _ _,_,rfl,d,_,rfl,SK.t (b:=u) (k:=kk xhA xhK) hdT hu (xpm (show _≤300 by show xaR hT.1)),xcG⟩;have nud:u≠d:=aF hu hdT (by show τ);have hu4:upd H3 d (.dT (putK k1 (kk xhA xhK) xpY)) u=xcd [vN xhA,vN xhK]:=by show Ty nud hu
   show SC ⟨_,rfl,p,dx,_,rfl,(by show Ty Mz Zy),xyf _ Z8 Z8,?_⟩ ⟨_,rfl,u,_,_,_,rfl,rfl,Kk.of hu4,xhQ,_,rfl,u,_,_,_,rfl,rfl,Kk.of hu4,xhR,?_⟩;have hc12:xeC xhK:=qM G Qu.1;show SC ⟨p,d,e,dx,xhA,xhK,k2,rfl,(by show Ty Mz Zy),(by show Ty nde.symm SV),(by show xaR hB.1),hc12,λ H5 k2' he5 Vr hv5 TQ=>?_⟩ ⟨_,_,_,k2',rfl,TQ _ _ (by show Ty Mz Zy) Yl,TQ _ _ ac nde,he5,?_,?_,TQ _ _ (by show Ty MT YG) nle,?_,λ b o ez hn=>?_⟩
   ·have:=AH hT Qu.1 (Μ Qu);rw [<-xaY Qu] at this;show xi3
   ·refine AU hB Qu.1 hc12 Vr (LE a b)
    show xa5 (xaY Qu) (hv5 a b)
   ·show SC (hCT.keep (Sc t2 ys ez)) (TQ _ _ ?_ (aF ez SV (by show τ)));show Ty (aF ez hdT (by show τ)) ez
   ·have h3:=othT b o ez hn;refine TQ _ _ ?_ (ad ez neH);show xh3 ez nd h3
 ·rintro σ H2 ⟨v2,v3,k1,k2,rfl,J9,hd2,Tg,hT,hB,Kg,hC,OI⟩;have e1:xB8 L.length:=by rw [hC.1];show xbk codes bi
  rw [e1] at hT hB;exact q d e H2 nd neH ⟨xdr J9,⟨k1,hd2,hT⟩,⟨k2,Tg,hB⟩⟩ OI
def B0 (h:xnT H p d e L)(h':JW B H r g R t):p≠r/\d≠r/\e≠r/\p≠g/\d≠g/\e≠g:=by
 obtain⟨⟨dx,h1⟩,⟨k1,h2,_⟩,⟨k2,h3,_⟩⟩:=h;obtain⟨⟨dy,r1⟩,r2,_,_⟩:=h';refine⟨aF h1 r1 ?_,aF h2 r1 (by show τ),aF h3 r1 (by show τ),aF h1 r2 (by show τ),aF h2 r2 (by show τ),aF h3 r2 (by show τ)⟩;intro z;injection z with _ _ z
 unfold fC fR at z;injection z with z _
 injection z with z _
 exact CD z
def K4.but (h:xnT H p d e L)(h':JW B H r g R t)(s:∀c o,WF=Id->xiJ->xaB=Id):xnT H' p d e L:=by
 obtain⟨n1,n2,n3,_⟩:=B0 h h';exact h.keep λ c o ez hc=>s c o ez (by rcases hc with rfl|rfl|rfl<;>assumption)
structure Rds (K:Frag)(mg:W1)(B:JB):Prop where
 X:xbi
 whole:xBl ca Jab
 size:TD "need_size" cC Jah
 ones:TD "ones" fw Jah
 bits:TD "bits_at" ft Jai
 take:∃f fd,xHl B kh xq5 f fd
 left:∃f fd,xpn B "left" "BitReader.left" kj
 place:∃f fd,xpn B "place" "BitReader.place" mV
 R:VD K mg B
inductive Rk (C B:JB) (vs:KB) (H:Hp) (Q:VK) (JT:XK):Prop
 |mk (p d e r g:JB) (L R:Fr) (t q s:Nat) (h0:vs=[Φ,xjM]) (h1:xnT H p d e L) (h2:xlj) (h3:JW B H r g R t) (h4:xrc L xCo q s) (h5:xe0 (JW B H' r g R (t+s)->(∀c o,WF=Id->xiJ->xaB=Id)->xrR q)):Rk C B vs H Q JT
def UH (F:Υ "thing" "CodeReader.thing" qx)(T:CRc K mg C)(D:xzR mg B):xnj xIM (Rk C B):=by
 obtain⟨X,⟨_,_,W⟩,⟨_,_,S⟩,⟨_,_,O⟩,⟨_,_,Bi⟩,⟨_,_,Ta⟩,⟨_,_,Le⟩,⟨_,_,Pl⟩,TB⟩:=D;have GT:=rS (P:=P) (w:=w) (base:=base) Ta.F S W Bi O Le TB X;have GL:=mn (P:=P) (w:=w) (base:=base) Le.F TB X;have GP:=oZ (P:=P) (w:=w) (base:=base) Pl.F TB;show xau Lh (λ JN A outer st H vs Q E hr h=>?_);obtain⟨p,d,e,r,g,L,R,t,q',s',rfl,hC,G,hR,hD,k⟩:=h;have J5:xa0:=PP;refine xfV 2 Lh.nd (xh0 KM TB.cl Pl GP) (xaz 3 Lh.nd aj (xdj 4 Lh.nd aj (xA6 (qR (zY xCd (xjF UF υ) XL)) (ab (xhr bK (xh0 KM TB.cl Le GL) aj ig az)
   (xdQ 3 Lh.nd (ap vY (xfu de UF) (xwW TB.cl Ta GT hr xoA)) (xom 4 Lh.nd xGV)))) (xmZ (aH (qR (ux xCd (xjF UF υ) XL))
    ig az) (xg xCd XL (xjF UF υ) xl6))))
 have ht:=hR.le;have Qg:xat xCo (Γ-t):=by rw [C6,Kp]
 refine xbu
 show xbp dx NV hR.ob ⟨_,rfl,r,dx,_,rfl,NV,xpK,r,g,R,t,rfl,hR,χ⟩;clear g1;show xvu;show xvu;show SC xbu (xac (λ m σ H2=>∃s,m=(Γ-t)-s/\t+s≤Γ/\(∀j<s,VG L (xF8 j))/\σ=[xeV,ST r,SB t,SB (xo5 t s),xhN]/\JW B H2 r g R (t+s)/\xnT H2 p d e L/\∀c o,WF=Id->xiJ->xkl=Id) ⟨_,0,rfl,by omega,xjE j hj hj (by lia),rfl,hR,hC,λ c o z _=>z⟩)
 rintro m σ H2 ⟨s,rfl,hs,hbg,rfl,K3,Q0,OI⟩;have QR:xat xsY s:=by rw [Dd,Qg];lia
 obtain⟨k2,OR,Lw⟩:=Q0.bg;show xbp dy J9 Q0.ob (xeZ _ (by show xeE) (LE u nu));have su:=xoy [xm0 t s,xci] nu;have hu:xiA u [xm0 t s,xci] u=xCs (kk (xo5 t s) s) kV:=ac;have KQ:=K3.same su;have SX:=Q0.same su;have VM:∀c o,WF=Id->xiJ->xiA u [xm0 t s,xci] c=Id:=λ c o z hn=>su _ _ (OI c o z hn)
 have Xm:=su _ _ OR;have Kz:=su _ _ J9;generalize xiA u [xm0 t s,xci]=H3 at*;refine⟨_,rfl,p,C,dy,_,_,rfl,Kz,T.cl,T.nB,B5 _ _,e,_,rfl,MM.t Xm hu,_,rfl,?_⟩;show xaM hw (yr Lw xsY) QR hw;by_cases c1:VG L xsY
 ·show xnF (hw.mpr c1) xnh xDg;have hbg':∀j<s+1,VG L (xF8 j):=λ j hj=>by
   show xaX j s z z
   ·exact hbg j z
   ·show xbO j s (by lia) c1
  refine xna
  show xbp Mp VQ KQ.ob ⟨_,rfl,r,Mp,_,rfl,VQ,xpK,r,g,R,t+s,rfl,KQ,rfl,_,rfl,xkd⟩
  ·have h0:Γ-(t+s)=0:=Kn.mp xii;have hn:Due L xCo .none:=λ j hj=>hbg' j (by rw [Qg] at hj;lia)
   exact nomatch xKo
  ·have h0:t+s<Γ:=by
    show xaX (t+s) Γ z z
    ·exact z
    ·exact xtA (Kn.mpr (show Γ-(t+s)=0 by lia)) h1
   show xfp xcG;show xa8 b KH OU (zg h0) xna
   have hs12:xeC s:=by
    obtain⟨q1,s1,z1,z2,_⟩:=c1;show xaR (qM G z1)
   have es:xo5 t s<2^s:=by have:=BP.Lz xsY;rwa [QR] at this
   have es2:2^s≤2^12:=xv1 hs12;show SC ⟨_,rfl,_,_,rfl,rfl,⟨by lia,by lia,by lia⟩,?_⟩ ⟨_,rfl,r,Mp,_,rfl,VQ,xpK,r,g,R,t+s,1,rfl,KQ,by lia,h0,Sc H4 KP VL⟩;show xfp (xay _ _ rfl xcG);have hb3:b.toNat<2^1:=by cases b<;>decide
   have e1:Builtin.bitOr (KF (xo5 t s)*2^xFS) (KF (K31.bt R (t+s) 1))=KF (xo5 t (s+1)):=by
    show Builtin.bitOr _ (KF (xrj/2^(Γ-(t+s+1))%2^1))=_;rw [OU];have:=pY (xo5 t s) b.toNat 1 hb3;rw [KH,BP.UI];rw [xdw (xcr) (KF 1),this];lia
   try dsimp only
   show Tm e1 ⟨_,rfl,_,_,rfl,rfl,?_⟩;have e2:SL s+1=xjL s:=by lia
   try dsimp only
   show IO e2 ⟨_,EO (Nat.lt_sub_of_add_lt (Hc t s▸h0)) (Fb s),s+1,rfl,h0,hbg',rfl,KP,SX.but KQ VL,λ c o z hn=>VL c o (VM c o z hn) hn⟩
 ·rw [Bool.eq_false_iff.mpr (LT (c1 (hw.mp z)))];show xbI (bd χ);obtain⟨k1,US,Oy⟩:=SX.th;obtain⟨Mp,VQ⟩:=KQ.ob;obtain⟨tw1,tw2⟩:=x4 Oy xsY;rw [QR] at tw1 tw2;show SC xna (xeZ _ (by show xeE) (LE v nv));have sv:=xoy [xm0 t s,xci] nv;have hv:xbE H3 v [xm0 t s,xci] v=xCs (kk (xo5 t s) s) kV:=ac;have KP:=KQ.same sv;have hC4:=SX.same sv;have VL:∀c o,WF=Id->xiJ->xbE H3 v [xm0 t s,xci] c=Id:=λ c o z hn=>sv _ _ (VM c o z hn)
  have hk4:=sv _ _ US;have QT:=sv _ _ Kz;have OP:=sv _ _ VQ;generalize xbE H3 v [xm0 t s,xci]=H4 at*;refine⟨_,rfl,p,C,dy,_,_,rfl,QT,T.cl,T.nT,AB _ _,d,_,rfl,MM.t hk4 hv,_,rfl,?_⟩;by_cases c2:∃q,xp5 xsY q
  ·obtain⟨q,hq⟩:=c2;rw [tw1 q hq];show xfp (bd xcG);have hn:xrc L xCo q s:=⟨by show xam Qg,hq,hbg⟩;injection xKo with e1 e2
   rw [e1,e2] at k;refine⟨_,rfl,p,C,dy,_,_,rfl,QT,T.cl,T.nT,AB _ _,_,rfl,_,rfl,(by show xeE),LE x nx⟩;have sx:=xoy [xm0 t s,xci] nx;refine xay d _ ?_ (xcF (KP.same sx) λ c o z hn=>sx _ _ (VL c o z hn));show xgF (MM.t (sx _ _ hk4) (xae (xbE H4 x [xm0 t s,xci] x) (xCs (kk (xo5 t s) s) kV) ac)) (tw1 q hq)
  ·have c3:∀q,¬xp5 xsY q:=λ q hq=>c2 ⟨q,hq⟩
   show Tm (tw2 c3) xnh;have hn:Due L xCo .bad:=⟨s,by show xam Qg,hbg,c1,c3⟩;exact nomatch xKo
universe K31.C
namespace K31.M
open BP C9 C10 W17
def xD (u)(h:t+s≤u.length):num ((xFa).take s)=xzN/2^(xye (t+s))%2^s:=by
 have h1:=df (u.take t) xFa;rw [Dw,C6] at h1;show xaM h2 (Lz xFa) C6 h2;have h3:num xFa=xzN%2^(xye t):=by rw [h1,Em,Nat.mul_add_mod,FN h2]
 rw [P7 _ (by show xam C6),h3,C6,Nat.sub_sub,show xye t=(xye (t+s))+s by lia,FD,IU]
def gM (h:n<2^s)(r):num ((xsx s++r).take s)=n:=by
 rw [List.take_left' (JZ n s),fk,FN h]
def dF (n s)(r):xr9 (xsx s) r s=r:=List.drop_left' (JZ n s)
inductive Qm:Fr->xaQ (xaA->Fr->Ψ xaA)
 |done {L:Fr} {ah:Nat} {b:xaA}:xhg 272->Qm L ah b L b
 |one {L L':Fr} {ah:Nat} {b b':xaA}:L.length<272->3≤b.length->xpJ≠7->xHz (L++[xpJ]) xpJ 3 L' b'->Qm L ah b L' b'
 |rep {L L':Fr} {ah:Nat} {b b':xaA}:L.length<272->9≤b.length->xpJ=7->xHz (L++xES (xu8 3 6) 3 ah) ah 9 L' b'->Qm L ah b L' b'
universe K31.M
namespace K31.Ck
open PySem L2 QQ W17 W16 BP K31.M
seal PE PA PS PSs PT PW PG PI
abbrev MG (r:JB)(H H':Hp):Prop:=∀c o,WF=Id->xiJ->xaB=Id
def RB (C:JB)(H:Hp)(r d:JB)(b:xaA):Prop:=∃R t,xiY H t/\b=xzd
theorem RB.keep (h:xlW)(k:∀c o,WF=Id->(c=r\/c=d)->xaB=Id):xjU H' b:=by
 show xjD R t h e;show xaC R t (h.keep k) e
def RB.same (h:xlW)(k:Β):xjU H' b:=h.keep λ c o e _=>k c o e
def RB.ob (h:xlW):∃dx t,H r=xbT xnt:=by
 obtain⟨R,t,⟨⟨dx,h⟩,_⟩,_⟩:=h;exact⟨dx,t,h⟩
def RB.ls (h:xlW):∃o,H d=Id:=by
 obtain⟨R,t,⟨_,h,_⟩,_⟩:=h;exact xbs h
theorem RB.upd (h:xlW)(h1:xeG r)(h2:xlY):xjU (xfd l o) b:=h.keep λ c o e hc=>by
 show xgj (by show xiu hc;exact h1.symm;exact h2.symm)
inductive Rl (C:JB) (vs:KB) (H:Hp) (Q:VK) (JT:XK):Prop
 |mk (r d:JB) (b:xaA) (s:Nat) (h0:vs=[xjM,xci]) (h1:xlW) (h2:s≤24) (h3:s≤b.length) (h4:xe0 (xjU H' xBn->xit->xrR (num (b.take s)))):Rl C vs H Q JT
def vq (hb:xlR)(h:t+s≤Γ):xy3 s=num (xzW xtH t s):=by
 show xaM hv (Mb hb) jl hv;rw [xD _ (by show IO K31.C.Kp h),K31.C.Kp];unfold K31.C.bt;rw [fk,FN hv];rfl
def _root_.K31.Ck.TC.tkB (Z:TC K mg C):∃f fd,xHl C kh xq5 f fd/\∀P w base,xlu xq5 (Rl C):=by
 obtain⟨f,fd,Tk,G⟩:=Z.tk;refine⟨f,fd,Tk,λ P w base=>(G P w base).imp λ vs H Q E h=>?_⟩;obtain⟨r,d,b,s,rfl,⟨R,t,hR,rfl⟩,hs,Xl,k⟩:=h;have hl:xat xzd (Γ-t):=by rw [C6,K31.C.Kp]
 rw [hl] at Xl;have ht:=hR.le;have h:t+s≤Γ:=by lia
 show xfW ⟨r,d,R,t,s,rfl,hR,hs,h,Sc H' OX kp⟩ (vq hR.by' h) (k H' ⟨R,t+s,OX,by rw [EB]⟩ kp)
def MG.tr (a:xit)(b:MG r H' U4):xrA U4:=λ c o e n=>b c o (a c o e n) n
def MG.s (a:xit)(b:C' H' U4):xrA U4:=λ c o e n=>b c o (a c o e n)
def MG.of (a:Β):xit:=λ c o e _=>a c o e
def MG.up (a:xit)(n:Θ):xrA (upd H' l o):=λ c o e z=>by show xf9 n (a c o e z)
inductive PY (C:JB) (vs:KB) (H:Hp) (Q:VK) (JT:XK):Prop
 |mk (r d:JB) (b:xaA) (L:Fr) (b':xaA) (h0:vs=[xjM]) (h1:xlW) (h2:xzT 0 b L b') (h3:∀l H',Θ->xaq=xnn->xjU H' b'->xit->xak):PY C vs H Q JT
def LO:Ps ["reader","lengths","ahead","told"] Jan qO:=M2
def uo (F:Ε "lengths_in_items" qO Jan)(Z:TC K mg C):xnj Jan (PY C):=by
 have X:=Z.Y.X;show xBC VC Z.tkB;have GT:=VC P w base;show xmL T Z.T tm hm X.many;obtain⟨ta,hag⟩:=X.again;show xcY tl hle X.leastA LO (λ JN A outer st H vs Q E hr h=>?_)
 intro _;obtain⟨r,d,b,L',b',rfl,hR,hI,kQ⟩:=h;show xeL (xfV 1 LO.nd xdM (xaU 2 LO.nd aj (xpu dt (xja KM) xCA (xdQ 3 LO.nd (xym Tk GT hr xoA) (xgs bK UF (xaF 7 hag ta) (aB (xfj Fm FM dI KM (xzh gR xx7 (xbA (xym Tk GT hr xoA) (xaF 3 hle tl))))) (xdQ 2 LO.nd UF (aB (xfj D1 D5 bu KM On)))))) KM)) Y2 t0 NV hR.ob;obtain⟨_,SW⟩:=hR.ls;have no:∀t,Ζ xHf:=λ t=>xpK
 show xvK xbu (xg9 (xdX l nl));have Ld:xeG r:=xeT NV;have MT:xlY:=xeT SW;have s0:=xj0 nl;show xvu;show SC xbu (xac (λ m σ H2=>∃ah L v3 b,m=272-L.length/\xh9 400/\Qm L ah b L' b'/\σ=[ST r,xgQ,SB ah,v3]/\xhL=xnn/\xjU H2 b/\xrA H2) ⟨_,0,[],none,b,rfl,Z9,hI,rfl,ac,hR.same s0,.of s0⟩)
 rintro m σ H2 ⟨ah,L,v3,b,rfl,hL4,hI,rfl,LD,K3,kp⟩;refine⟨_,rfl,l,_,rfl,Ο LD,_,_,rfl,rfl,_,rfl,xec hc hc⟩
 rotate_left
 ·have K2:xhg 272:=by
   show xaX L.length 272 q q
   ·exact xtA (by show xcS) hc
   ·exact q
  refine xzf;cases hI with
  |done _=>exact kQ l H2 nl LD K3 kp
  |one|rep=>lia
 clear g1;have JO:L.length<272:=by show xc6 (C5 hc) CM;lia
 clear hc;refine xDg;show xa8 Ql t2 L4 K3.ob xna
 show xfp ⟨_,rfl,r,Ql,_,rfl,L4,xiG,r,d,b,3,rfl,K3,Z9,by cases hI<;>lia,λ H3 KQ Kc=>xcG⟩;have Qi:=xaK LD Ld;have Kc:=xKp;refine xk0 _ _ (xec h7 h7)
 ·have h7:xpJ=7:=Kn.mp (C5 h7);refine⟨_,rfl,xeD Qi,_,rfl,(by show xcR 1),LE l4 n4⟩;have s4:=xas [xzr] n4;have Qy:xbC H3 l4 [xzr] l4=Ι [xzr]:=ac;have KP:=KQ.same s4;have S1:=xdg Qi;have MC:=Kc.s s4;show xbb H3 l4 [xzr] H4;obtain⟨dx4,t4,OP⟩:=KP.ob;have n4r:l4≠r:=aF Qy OP (by show τ);obtain⟨h6,hI2⟩:6≤b.length-3/\xHz (L++xES (xu8 3 6) 3 ah) ah 9 L' b':=by
   cases hI with
   |rep _ h _ q=>show xaI (by lia) q
   |done=>lia
   |one _ _ q=>show xaW h7 q
  refine⟨_,rfl,r,dx4,_,rfl,OP,xiG,r,d,_,6,rfl,KP,Z9,by show IO C6 h6,Sc H5 Wl NS⟩;rw [EB] at Wl;show xbB hb6 (xu8 3 6<64) (by
   have:=Lz ((b.drop 3).take 6)
   rwa [Dd,C6,DL h6] at this) (xu8 3 6) z6;refine⟨_,_,rfl,rfl,l4,_,_,rfl,rfl,xky Qy n4r,by lia,by lia,a9 (by show xiE (1*_);lia),LE l6 n6⟩;have e1:xim (SL z6) 3=z6+3:=rfl
  try dsimp only
  rw [e1,K31.C.RN];have s6:=xas (xES z6 3 xzr) n6;refine⟨l,l6,_,_,rfl,rfl,xcj (xky S1 Ld),ac,a9 (by rw [CM,DI];lia),_,?_,ah,_,_,_,rfl,?_,hI2,rfl,by rw [ac,C8,List.map_replicate],(Wl.same s6).upd Ld MT,((MC.tr NS).s s6).up nl⟩
  ·rw [CN,DI];exact xzS (EN (HF _))
  ·rw [CN,DI];lia
 ·have h7:xpJ≠7:=LT (h7 (xBk z))
  show xbB hI2 (xHz (L++[xpJ]) xpJ 3 L' b') (by
   cases hI with
   |one _ _ _ q=>exact q
   |done=>lia
   |rep _ _ q=>show xaW q h7) xpJ y;refine⟨_,rfl,_,rfl,xeD Qi,_,rfl,l,_,_,rfl,rfl,Qi,bw (by show xcS),_,?_,y,_,_,_,rfl,?_,hI2,rfl,by rw [ac,C8];rfl,KQ.upd Ld MT,Kc.up nl⟩
  ·show IO CN (xzS xrV)
  ·rw [CN];show _+1≤_;lia
structure XC (K:Frag)(mg:W1)(C G:JB):Prop where
 Z:TC K mg C
 Y:xzR mg
 items:TD "lengths_in_items" qO Jan
 table:TD "take_table" fZ Jan
 place:∃f fd,xg2 "place" "BitReader.place" mV
 M:xJI mg G
 mG:mg "CodeReader"=ST G
 init:∃f fd,xfx K "CodeReader.__init__" K31.sCInit f/\xjK xID/\xCK G
 thing:∃f fd,xjh G "thing" "CodeReader.thing" qx xIM f fd
 codesin:TD "codes_in" jb Jan
 thingin:TD "thing_in" jV xCX
def qd {A B:Fr}(h:A.map vN=xe2):A=B:=by
 have:=xKV (λ v=>match v with|V.int i=>i.toNat|_=>0) h;simpa [EJ,Function.comp_def] using this
def Lc:Ps ["reader","begin","lengths"] Jan fZ:=M2
inductive Ue (C:JB) (vs:KB) (H:Hp) (Q:VK) (JT:XK):Prop
 |mk (r d:JB) (b:xaA) (L:Fr) (b':xaA) (h0:vs=[xjM]) (h1:xlW) (h2:xzT 0 b L b') (h3:xlk) (h4:∀l H',Θ->xaq=xnn->xjU H' b'->xit->xak):Ue C vs H Q JT
def yc (F:Ε "take_table" fZ Jan)(D:XC K mg C G):xsF Jan (Ue C):=by
 show Η It D.items Pl D.place;have X:=D.Z.Y.X;have T:=D.Z.T;have GP:=oZ (P:=P) (w:=w) (base:=base) Pl.F T;show xcY tm hm X.many Lc (λ JN A outer st H vs Q E hr h=>?_)
 intro _;obtain⟨r,d,b,L,b',rfl,hR,hI,hL,k⟩:=h;have J5:xa0:=PP;refine xaT (xdj 1 Lc.nd (xh0 Os T.cl Pl GP) (iH (xij 2 Lc.nd (xdy (uo It D.Z) It Os))) (xmZ (xhr cB xGM xCA ig az) On))
 show xmN R t hRa rfl hR;obtain⟨dx,hp⟩:=hRa.ob;have no:∀{m:Str} t,¬m="taken"->¬m="held"->xkW xnt m:=λ t h1 h2=>xFH h1 h2
 show xgD ⟨_,rfl,r,dx,_,rfl,hp,xiG Z8 Z8,r,d,R,_,rfl,hRa,?_⟩ ⟨_,rfl,r,d,_,_,_,rfl,hR,hI,λ l H2 nl LD K3 kp=>?_⟩ ⟨_,rfl,l,_,rfl,Ο LD,_,_,rfl,rfl,_,rfl,xCz (xbd (xdE H2 nl LD K3 kp))⟩;show xeo xbK CM hL;show xaW this (by decide)
inductive Og (C G:JB) (vs:KB) (H:Hp) (Q:VK) (JT:XK):Prop
 |mk (r:JB) (d:JB) (b:xaA) (L:Fr) (b':xaA) (h0:vs=[xjM]) (h1:xlW) (h2:xzT 0 b L b') (h3:xlk) (h4:xuC) (h5:∀p dp ep H',xgU->XV dp->XV ep->xjU H' b'->xBr H' p dp ep L->xit->xbr Φ):Og C G vs H Q JT
def oq (k:xit)(n:Ζ (H' a))(hr:∃o,H' r=Id):XV a:=by
 cases e:Uf with
 |none=>rfl
 |some o=>
  by_cases z:a=r
  ·obtain⟨o',h⟩:=hr;show xbY h n n
  ·show Tl (xmX e z) n n
def qF (F:Ε "codes_in" jb Jan)(D:XC K mg C G):Α 36 Jan (Og C G):=by
 obtain⟨_,_,Ta⟩:=D.table;show xjf bI MI D.init;have GT:=yc (P:=P) (w:=w) (base:=base) Ta D;show xbj tN (λ JN A outer st H vs Q E hr h=>?_);obtain⟨r,d,b,L,b',rfl,hR,hI,hl,hG,k⟩:=h;have QB:xan 33:=PP;show xbf (ae (iH (xcc (fj MI (K31.C.ok_cinit FI D.M) hr Z7 D.mG bI .nil a7 (xa7 (xbQ GT QB Ta Os)))))) ⟨_,rfl,r,d,b,L,b',rfl,hR,hI,hl,λ l H1 nl h1l ZS kp x dx nx ndx _=>?_⟩;have s1:=xti G ndx;show xa8 LF t1 J5 ZS.ob ⟨x,dx,l,L,rfl,ac,xch h1l,hG,λ dp ep H2 Qe UO hC NC=>xgB⟩;have kk:xrA H2:=λ c o e' n=>xqq (xch (xap e' n)) (ad (xap e' n) nx)
 have nn:∀{a},xfO a->XV a:=λ n=>oq kp n (xbs J5)
 exact k x dp ep H2 (nn nx) (nn (xh7 Qe)) (nn (xh7 UO)) ((ZS.same s1).keep λ c o e hc=>xqq e (by
  rintro rfl;rcases hc with z|z
  ·show xbY J5 nx nx
  ·obtain⟨_,hd1⟩:=ZS.ls;show xbY hd1 nx nx)) hC kk
inductive N4 (C G:JB) (vs:KB) (H:Hp) (Q:VK) (JT:XK):Prop
 |mk (p dp ep r d:JB) (b:xaA) (L:Fr) (q s:Nat) (h0:vs=[xjM,Φ]) (h1:xBr H p dp ep L) (h2:xuC) (h3:xlW) (h4:C10.Due L b (.thing q s)) (h5:xe0 (xjU H' xBn->xit->xrR q)):N4 C G vs H Q JT
def qj (F:Ε "thing_in" jV xCX)(D:XC K mg C G):xsF xCX (N4 C G):=by
 show xgo Th D.thing Z D.Z;have GT:=K31.C.UH (P:=P) (w:=w) (base:=base) Th.F D.M.R ⟨Z.Y.X,Z.Y.whole,Z.size,Z.ones,Z.bits,Z.take,Z.left,D.place,Z.T⟩;show xbj uL (λ JN A outer st H vs Q E hr h=>?_);obtain⟨p,dp,ep,r,d,b,L,q,s,rfl,hC,hG,⟨R,t,hR,rfl⟩,hD,k⟩:=h;show xbp dx hp hC.ob (xaT (ae (iH (xcc (xwW D.M.R.cl Th GT hr xgA)))));exact⟨_,rfl,p,dx,_,rfl,hp,K31.C.fC_no _ _ Z8 Z8,_,rfl,p,dp,ep,r,d,L,R,t,_,_,rfl,hC,hG,hR,hD,λ H' OX kp=>k H' ⟨R,t+s,OX,by rw [EB]⟩ kp⟩
universe K31.Ck
namespace K31.M
open BP C9 C10 W17
inductive Tz (L:Fr) (e:Nat):Fr->xaA->Fr->Ψ xaA
 |done {S:Fr} {b:xaA}:xyq e->xnV e S b S b
 |sg {S T:Fr} {q s:Nat} {b b':xaA}:xrL e->xrc L b q s->xbN q->xnV e (S++[q]) xBn T b'->xnV e S b T b'
 |cp {S T:Fr} {q s:Nat} {b b':xaA}:xrL e->xrc L b q s->256≤q->8≤(xBn).length->Δ (xu8 s 8)->xfL (xu8 s 8)->xqU (q-256+3)≤e->xnV e (K31.Ck.cpy S (xu8 s 8) (q-256+3)) ((xBn).drop 8) T b'->xnV e S b T b'
def Tz.le (h:xnV e S b T b'):xGg e:=by
 cases h with
 |done h=>exact Di h
 |sg h=>exact Dr h
 |cp h=>exact Dr h
universe K31.M
namespace K31.Ck
open PySem L2 QQ W17 W16 BP K31.M
seal PE PA PS PSs PT PW PG PI
inductive Pn (C:JB) (vs:KB) (H:Hp) (Q:VK) (JT:XK):Prop
 |mk (o r d x:JB) (W:Fr) (b b':xaA) (n:Nat) (L T:Fr) (b1:xaA) (h0:vs=[xfU,xjM,xd0,xcy]) (h1:xlW) (h2:xgZ=xj1) (h3:xfr n) (h4:xm4) (h5:xzT 0 b L b1) (h6:xlk) (h7:xuC) (h8:xnV xne W b1 T b') (h9:∀l H',Θ->xaq=ω xIe->xjU H' b'->xit->xak):Pn C vs H Q JT
def _root_.K31.C.K4.but2 (h:xBr H p d e L)(h':RB C H r g b)(s:xit):xBr H' p d e L:=by
 obtain⟨R,t,h',_⟩:=h';exact h.but h' s
def uj (F:Υ "read" "ShareWay.read" k7)(D:XC K mg C G):Α 37 Jad (Pn C):=by
 have Z:=D.Z;have Y:=D.Y;have X:=Z.Y.X;show xBC VC Z.tkB;have GT:=VC P w base;have TR:=Z.T;show Η La Y.lay Ao Y.ahead;show Η Ci D.codesin Ti D.thingin;have GA:=jc (P:=P) (w:=w) (base:=base) Ao X;have GL:=vZ (P:=P) (w:=w) (base:=base) La Y;have GC:=qF (P:=P) (w:=w) (base:=base) Ci D;show xmL GI (qj (P:=P) (w:=w) (base:=base) Ti D) tl hle X.least;show xbp tf hfi X.first (F.ok KD λ JN A outer st H vs Q E hr h=>?_)
 intro _;obtain⟨o,r,d,x,W,b,b',n,L,T,b1,rfl,hR,hx,Kx,hW,hI,hl,hG,hk,k⟩:=h;have QB:xan 33:=PP;have VP:xan 32:=PP;have L8:xan 31:=PP;have J5:xa0:=PP;show xeL (xfV 4 KD.nd (xbQ GA J5 Ao UF) (xaz 5 KD.nd xx5 (xaz 6 KD.nd (xbA xaL On) (xaU 7 KD.nd (xdy GC Ci KM) (xpu dt xx5 xeN (xdQ 8 KD.nd (xbe GI QB Ti KM xmV) (xgs dt xjH (xaF 256 hfi tf) (aB (xfj D1 D5 bu υ xjH)) (xdQ 9 KD.nd xDh (aB (aA GL VP La (aa υ (xdn (pv 9) (xbA (xf2 xjH (xaF 256 hfi tf)) (xaF 3 hle tl)) xeN)))))))) (xq8 υ xaL bF))))) Y2 t0 NV hR.ob;obtain⟨_,SW⟩:=hR.ls;have no:∀t,Ζ xHf:=λ t=>xpK
 show xvK xbu ⟨_,rfl,x,W,rfl,hx,xdX l nl⟩;have Ld:xeG r:=xeT NV;have MT:xlY:=xeT SW;have s0:=xas xkP nl;have YY:(xiZ xkP) l=xj1:=ac;have hR0:=hR.same s0;have kp0:xrA (xiZ xkP):=.of s0;show xbb H l xkP H0;show xvK xbu ⟨_,rfl,l,_,rfl,Ο YY,χ⟩
 try dsimp only
 show Tm CM xbu
 show xbI ⟨_,rfl,_,rfl,_,_,rfl,rfl,χ⟩;have e0:xJW+xaf=KF xne:=rfl
 try dsimp only
 rw [e0];generalize he:xne=e at*;show xvK xbu ⟨_,rfl,r,d,b,L,b1,rfl,hR0,hI,hl,hG,λ p dp ep H1 np Qe UO ZS Vv Lm=>χ⟩;have h1l:=Lm _ _ YY Ld;have K9:xqg:=ad YY np;have nldp:xeG dp:=ad YY Qe;have nlep:xeG ep:=ad YY UO;have Lm:=kp0.tr Lm;clear kp0 hR0 YY s0 hI;show SC xbu (xac (λ m σ H2=>∃v8 v9 S b,m=e-S.length/\xnV e S b T b'/\σ=[ST o,ST r,xnX,ST x,xgQ,SB W.length,SB e,xeV,v8,v9]/\xhL=xir/\xjU H2 b/\xBr H2 p dp ep L/\xrA H2) ⟨_,none,none,W,b1,rfl,hk,rfl,h1l,ZS,Vv,Lm⟩)
 rintro m σ H2 ⟨v8,v9,S,b,rfl,hk,rfl,LD,K3,Q0,kp⟩;have hle2:=hk.le;refine⟨_,rfl,l,_,rfl,Ο LD,_,rfl,_,_,rfl,rfl,_,rfl,xec h h⟩
 ·clear g1;show xaM h' xbK CM h';have JO:xrL e:=Int.ofNat_lt.1 h';clear h h';show xbf (xra z) xna
  cases hk with
  |done h=>show xaW JO (xEq (Di h.symm))
  | @sg _ _ q s _ _ _ hD hq hk=>
   show xfp ⟨_,rfl,_,rfl,p,dp,ep,r,d,b,L,q,s,rfl,Q0,hG,K3,hD,λ H3 KQ Kc=>xcG⟩;have Qi:=xaK LD Ld;show SC ⟨_,rfl,_,_,rfl,rfl,_,rfl,xwp h (by omega)⟩ ⟨_,rfl,xeD Qi,_,rfl,l,_,_,rfl,rfl,Qi,bw (by show xcS),_,?_,_,_,_,_,rfl,hk,rfl,by rw [ac,C8];rfl,KQ.upd Ld MT,?_,(xKp).up nl⟩
   ·show IO CN (xzS xrV)
   ·refine(Q0.but2 K3 Kc).keep λ c o' e' hc=>?_
    show Ty (by show xp1 hc rfl rfl;exact K9.symm;exact nldp.symm;exact nlep.symm) e'
  | @cp _ _ q s _ _ _ hD hq h8 KH OU hb3 hk=>
   show xfp ⟨_,rfl,_,rfl,p,dp,ep,r,d,b,L,q,s,rfl,Q0,hG,K3,hD,λ H3 KQ Kc=>xcG⟩;obtain⟨Mp,t3,Ln⟩:=KQ.ob;have Qi:=xaK LD Ld;show SC ⟨_,rfl,_,_,rfl,rfl,_,rfl,aU (xef h xbK (by lia)) xcm⟩ xna
   show xfp ⟨_,rfl,r,Mp,_,rfl,Ln,xiG,r,d,_,8,rfl,KQ,Z9,h8,λ H4 KP MC=>xcG⟩;have e1:SL q-256+3=KF (q-256+3):=by omega
   have S1:=xiO Qi Ld;refine⟨_,rfl,_,rfl,_,rfl,_,_,rfl,rfl,_,_,rfl,rfl,_,rfl,?_⟩
   try dsimp only
   show Tm e1 ⟨l,S,_,_,e,rfl,S1,by lia,KH,OU,hb3,_,?_,_,_,_,_,rfl,hk,rfl,ac,KP.upd Ld MT,?_,((xKp).tr MC).up nl⟩
   ·show IO cF (xzS (EN (HF _)))
   ·refine((Q0.but2 K3 Kc).but2 KQ MC).keep λ c o' e' hc=>?_
    show Ty (by show xp1 hc rfl rfl;exact K9.symm;exact nldp.symm;exact nlep.symm) e'
 ·cases hk with
  |sg q1=>exact xlB (by rw [CM];omega)
  |cp q1=>exact xlB (by rw [CM];omega)
  |done Tg=>
   show xbI χ;have ec:xyc xg5 (xrk W.length)=Wp xIe:=by rw [dm,<-Fa]
   refine⟨_,rfl,_,rfl,_,rfl,l,_,rfl,JS.of LD,LE l9 n9⟩
   try dsimp only
   rw [ec];have s9:=xbG xIe n9;show xa9 dx9 t9 Vh K3.ob (k l9 _ (oq kp n9 (xbs Vh)) ac (K3.same s9) (kp.s s9))
universe K31.Ck
namespace L2
open PySem
def sU (hK:X.K=K)(he:xmz e)(hb:xIy f X.env xzi=xzi):Ρ (xBb e pos) (A3 K ta f):=by subst hK;exact ay he hb
def zP (hK:X.K=K)(ha:xkr)(hb:xpQ b)(hs:sD b):Ρ (xt6 a b) (S5 (XO K) ta tb):=by subst hK;exact aQ a6 ha hb hs
universe L2
namespace K31.Ck
open PySem L2 QQ W17 W16 BP K31.M
seal PE PA PS PSs PT PW PG PI
abbrev lJ:JL:=top 106
abbrev fV:JL:=top 107
inductive Vz (R W:Fr):xhD (Fr->Ψ Nat)
 |raw:Vz R W 0 R.length R Γ
 |run {v t:Nat} {T:Fr}:XE R v 0 [] t T->Vz R W 1 v T t
 |cpy {v t:Nat} {S:Fr}:xnU (xDD v) 0 W t S->Vz R W 2 v xId t
 |shr {v t:Nat} {L S:Fr} {b1:xaA}:xzT 0 xtH L b1->xlk->xuC->xnV (xDD v) W b1 S xzd->t≤Γ->Vz R W 3 v xId t
inductive WG (C:JB) (u:Nat) (vs:KB) (H:Hp) (Q:VK) (JT:XK):Prop
 |mk (o r d x:JB) (R W T:Fr) (n t:Nat) (h0:vs=[xfU,xjM,xd0,xcy]) (h1:xiY H 0) (h2:xgZ=xj1) (h5:xfr n) (h6:xm4) (h7:Vz R W u n T t) (h8:∀l H',Θ->xaq=xbJ->xiY H' t->xit->xak):WG C u vs H Q JT
structure RdG (P:JE)(w:JF)(K:Frag)(mg:W1)(base:JI)(C Cu:JB)(u:Nat):Prop where
 cl:xt3 Cu
 read:∃f fd,Meth K Cu "read" f/\xjK Jad/\Α 37 Jad (WG C u)
structure SI (K:Frag)(mg:W1)(C G C0 C1 C2 C3:JB):Prop where
 D:XC K mg C G
 r0:∃f fd,xHi C0 "RawWay.read" iX Jad f fd
 r1:∃f fd,xHi C1 "RunWay.read" jM Jad f fd
 r2:∃f fd,xHi C2 "CopyWay.read" gL Jad f fd
 r3:∃f fd,xHi C3 "ShareWay.read" k7 Jad f fd
def SI.ok (Z:SI K mg C G C0 C1 C2 C3)(c0:xt3 C0)(c1:xt3 C1)(c2:xt3 C2)(c3:xt3 C3)(hu:u<4):RdG P w K mg base C (cs C0 C1 C2 C3 u) u:=by
 have D:=Z.D;show xBe u
 ·show xma M Z.r0 ⟨c0,_,_,M.m,M.b,((qZ M.F D.Z).mono Z9).imp λ vs H Q E h=>?_⟩;obtain⟨o,r,d,x,R,W,T,n,t,rfl,hR,hx,Kx,hW,hk,k⟩:=h;cases hk;exact⟨o,r,d,_,R,_,rfl,hR,Kx,P3,λ l H' nl hl OX kp=>xdE H' nl (by show UV DV hl hl) OX kp⟩
 ·show xma M Z.r1 ⟨c1,_,_,M.m,M.b,((qG M.F D.Y D.Z).mono Z9).imp λ vs H Q E h=>?_⟩;obtain⟨o,r,d,x,R,W,T,n,t,rfl,hR,hx,Kx,hW,hk,k⟩:=h;cases hk with
  |run q=>exact⟨o,r,d,_,R,T,n,t,rfl,hR,q,Kx,k⟩
 ·show xma M Z.r2 ⟨c2,_,_,M.m,M.b,((oK M.F D.Y D.Z).mono Z9).imp λ vs H Q E h=>?_⟩;obtain⟨o,r,d,x,R,W,T,n,t,rfl,hR,hx,Kx,hW,hk,k⟩:=h;cases hk with
  |cpy q=>exact⟨o,r,d,x,R,W,_,n,_,rfl,hR,hx,q,Kx,hW,k⟩
 ·show xma M Z.r3 ⟨c3,_,_,M.m,M.b,(uj M.F D).imp λ vs H Q E h=>?_⟩;obtain⟨o,r,d,x,R,W,T,n,t,rfl,hR,hx,Kx,hW,hk,k⟩:=h;cases hk with
  | @shr _ _ L S b1 q1 q2 q3 q4 q5=>
   refine⟨o,r,d,x,W,_,_,n,L,S,b1,rfl,⟨R,0,hR,rfl⟩,hx,Kx,hW,q1,q2,q3,q4,λ l H' nl hl OX kp=>xdE H' nl hl ?_ kp⟩;obtain⟨R',t',OX,e⟩:=OX;obtain⟨dx,hp⟩:=hR.ob;have nrd:d≠r:=xpX hR.ls (by show τ);have eR:R'=R:=qd (HO.lst.inj (DK (OX.ls.symm.trans (xap hR.ls nrd))));subst eR;have e':=xeI e;rw [C6,C6,K31.C.Kp] at e';have ht:=OX.le;obtain rfl:t=t':=by lia
   exact OX
 ·lia
inductive Pj (J4:JB) (vs:KB) (H:Hp) (Q:VK) (JT:XK):Prop
 |mk (a h x dx:JB) (R W T:Fr) (u v y t:Nat) (h0:vs=[SZ,xDb,xcy]) (h1:Uf=xnl) (h2:xlR) (h3:H h=xea J4 (fH u v y)) (h4:xgZ=xj1) (h5:xm4) (h6:xfr v) (h7:u<4) (h8:Vz R W u v T t) (h9:Γ-t<8) (YX:xvX%2^(Γ-t)=0) (MO:∀l H',Θ->Β->xaq=xbJ->xak):Pj J4 vs H Q JT
def M6:Ps ["body","head","window","reader","text"] ["body","head","window"] lJ:=M2
def tV (F:Ε "text_in" lJ ["body","head","window"])(Z:SI K mg C G C0 C1 C2 C3)(W:S3 K mg B D G' CW C0 C1 C2 C3)(T:CH K mg J4):
  Α 38 ["body","head","window"] (Pj J4):=by
 have D:=Z.D.Z;have Y:=Z.D.Y;show xjf bI MI D.init;show Η N D.need Wy W.ways;show Η Ae D.atend L D.left;show Η O D.ones Ba D.bits;show xbj M6 (λ JN A outer st H vs Q E hr h=>?_);obtain⟨a,h,x,dx,R,Wn,T',u,v,y,t,rfl,ha,hb,hh,hx,hW,hv,hu,hk,h1,h2,k⟩:=h;have Vj:xan 6:=PP;have Ln:xqb:=PP;have J5:xa0:=PP;have GI:=vd (P:=P) (w:=w) (base:=base) FI N D.Y D.T;have GW:=se (P:=P) (w:=w) (base:=base) Wy.F W;have GA:=vp (P:=P) (w:=w) (base:=base) Ae.F Ba O L D.T D.Y.X;obtain⟨cl,_,_,mR,bR,GR⟩:=Z.ok (P:=P) (w:=w) (base:=base) W.raw.W.cl W.run.W.cl W.cpy.W.cl W.shr.W.cl hu;show xbf (xdj 3 M6.nd (fj MI GI Vj Z7 D.m bI .nil a7 xgA) (iH (xij 4 M6.nd (lH (zP (K:=K) rfl (m5 GW J5 Z7 Wy.m Wy.F.kp Wy.b .nil a7) (sU (K:=K) rfl KM rfl) xl6) cl mR GR hr bR .nil a7 (xdn UF (sU (K:=K) rfl KM rfl) On)))) (xmZ (xpa (bj UF D.T.cl Ae GA Ln)) υ)) (aq λ R1 g1=>xbd (λ p dp np Qe UO=>?_))
 have s0:=xh8 C np Qe;show xbI ⟨p,dp,a,R,rfl,ac,xhz ha,hb,λ d H2 nd hR kp=>xb2 χ⟩;have s2:xiq:=λ c o e=>xap xpo xo4
 refine aq λ R2 g2=>xb2 (λ l os ds H3 nl no hl ho s3=>?_)
 have hh3:=xyu hh;have KQ:xjV H3 p 0:=hR.keep λ c o e _=>xbL e
 refine⟨_,rfl,h,J4,dx,_,_,rfl,hh3,T.cl,T.nW,Bz _ _ _,l,_,_,_,rfl,rfl,xBT,aE (j:=u) (gx4 hu),?_⟩;show xfp ⟨os u,ds u,[],rfl,ho u hu,rfl,_,rfl,_,rfl,h,J4,dx,_,_,rfl,hh3,T.cl,T.nC,BU _ _ _,_,rfl,os u,p,d,x,R,Wn,T',v,t,rfl,KQ,xyu hx,hv,hW,hk,λ l' H4 nl' h4 KP MC=>xcG⟩;have s4:xcn H4:=λ c o e=>xiO (xyu e) xo4
 show xbp dp4 QT KP.ob (aq λ R1 g1=>⟨_,rfl,p,dp4,_,rfl,QT,xpK,p,d,R,t,rfl,KP,h1,h2,LE H5 s5⟩)
 refine xaT rfl;exact bd (xyH (k l' H5 (none_of (s2.trans s3) nl') (s4.trans s5) (xar h4)))
def wQ (g:xHq)(h:K' (xsP 0) xcx R):∃e,e<8/\Γ=xcx+e/\xtH=xri++xv4 e/\xvX%2^e=0:=by
 have hl:=h.len;have hle:xcx≤Γ:=by lia
 refine⟨Γ-xcx,by lia,by lia,?_,?_⟩
 ·have hn:xvX=num (xri++xv4 (Γ-xcx)):=by
   rw [df,JZ,fk,uF g,h.num,Nat.zero_mod,FG]
  have hlen:xbq xri (xv4 (Γ-xcx))=Γ:=by
   rw [CN,cX,JZ];lia
  refine C10.RQ (by rw [K31.C.Kp,hlen]) ?_;unfold K31.C.bt;show xaM JO (Lz (xri++xv4 (Γ-xcx))) hlen JO;rw [fk,hn];exact FN JO
 ·rw [h.num,Nat.mul_mod_left]
def dZ (hb:xlR)(hn:n<2^s)(e:xzd=xsx s++r)(ht:t≤Γ):t+s≤Γ/\xy3 s=n/\(xtH).drop (t+s)=r:=by
 have hl:=xeI e;rw [C6,K31.C.Kp,CN,JZ] at hl;have h1:t+s≤Γ:=by lia
 refine xac h1 ?_
 ·rw [vq hb h1,e,gM hn]
 ·rw [<-EB,e,dF]
theorem nJ (hb:xlR):∀{rs} {t} {S},(∀q∈rs,Δ xbh/\xfr xbh/\xbN xaZ)->t≤Γ->xzd=xpU (pR rs) z->XE R (xqU (xG6).length) t S (t+xk2 rs) (S++xG6)
 | [],t,S,_,_,_=>by
  rw [xdw (exp []) [],DM];exact .done rfl
 |q::rs,t,S,hq,ht,e=>by
  obtain⟨h1,h2,h3⟩:=hq q Do;rw [iJ,bE,bE,CQ,CQ] at e;obtain⟨a1,a2,a3⟩:=xv5 (show xbh-1<2^6 by show _<64;lia) e ht;obtain⟨b1,b2,b3⟩:=xv5 (show xaZ<2^8 from h3) a3 a1;have ee:exp (q::rs)=xDS xaZ++xG6:=rfl;have e6:xzA+1=xbh:=by show xam a2
  have ih:=nJ hb (S:=S++xDS xaZ) (λ x hx=>hq x xCp) b1 b3;rw [CN,DI,CQ] at ih;rw [ee,iJ,bX,bX,CN,DI];refine .run (by lia) b1 (by show xam e6) ?_;rw [e6,b2,show t+(6+(8+xk2 rs))=t+14+xk2 rs by lia,<-D4];exact ih
theorem qq (B)(b):∀n,K31.Ck.cpy B b n=K31.cpy B b n
 |0=>rfl
 |n+1=>by rw [K31.Ck.cpy,K31.cpy,qq B b n]
theorem ic (hb:xlR):∀{Pp} {t} {S},GR S Pp->t≤Γ->xzd=xpU (pP Pp) z->xnU (xE9 S Pp) t S (t+xwd) (runP S Pp)
 | [],t,S,_,_,_=>.done rfl
 |x::Pp,t,S,g,ht,e=>by
  obtain⟨gx,gr⟩:=g;show xaM hl gr.len fK hl;have er:runP S (x::Pp)=runP (app S x) Pp:=rfl;cases x with
  |sg s=>
   rw [d5,xdw (pcP xjx) [(0,1),(s,8)],Fw,Fw,D3,bE,bE,CQ,CQ] at e;obtain⟨a1,a2,a3⟩:=xv5 (show 0<2^1 by decide) e ht;obtain⟨b1,b2,b3⟩:=xv5 (show s<2^8 from gx) a3 a1;have ih:=ic hb gr b1 b3;rw [er,d5,aP];refine .sg (by show xrL _;have:(Pc.sg s).size=1:=rfl;lia) b1 a2 ?_;rw [b2,show t+(xms xjx+xwd)=t+1+8+xwd by show xam (xdw (xms xjx) 9)];exact ih
  |cp b y=>
   obtain⟨g1,g2,g3,g4,g5⟩:=gx;rw [d5,xdw (pcP (xvW y)) [(1,1),(b,8),(y-3,4)],Fw,Fw,Fw,D3,bE,bE,bE,CQ,CQ,CQ] at e;obtain⟨a1,a2,a3⟩:=xv5 (show 1<2^1 by decide) e ht;obtain⟨b1,b2,b3⟩:=xv5 (show b<2^8 by show xbN _;lia) a3 a1;obtain⟨c1,c2,c3⟩:=xv5 (show y-3<2^4 by show _<16;lia) b3 b1;have ih:=ic hb gr c1 c3;have ey:y-3+3=y:=by lia
   have e9:xed (t+9) 4=y-3:=c2;have hsz:xKm b y=y:=rfl;rw [er,d5,aP];refine .cp (by lia) (by show t+1+8+4≤_;exact c1) a2 (by rw [e9,ey];lia) (by show IO b2 g1) (by show IO b2 g3) ?_;rw [b2,e9,ey,qq,show t+(xms (xvW y)+xwd)=t+1+8+4+xwd by show xam (xdw (xms (xvW y)) 13)];exact ih
theorem f8:∀{It:xqW} {L:Fr} {a:Nat},(xF4 It x)->xip L.length (xoB a)≤272->Qm (L++xoB a) (W13.nxtS a It) r L' b'->Qm L a (xpU xi8 r) L' b'
 | [],L,a,_,_,h=>by rwa [xdw (xGy []) [],DM] at h
 |x::It,L,a,hk,hl,h=>by
  have hx:=hk x Do;have ep:W13.puts (x::It)=x.puts++xi8:=by simp [W13.puts]
  rw [ep,dX,CQ];cases x with
  |one l=>
   have h6:l≤6:=hx;have h8:l<2^3:=by show _<8;lia
   rw [xdw (xGy (.one l::It)) (l::xoB l)] at h hl;rw [Df] at hl;show Tm (xae (xMi (.one l)) (dig l 3) (by simp [W13.Itm.puts,bitsP])) (.one (by lia) (by rw [CN,JZ];lia) (by show xam (gM h8)) ?_);rw [gM h8,dF];show xfW (f8 (λ y hy=>hk y xuY) (by rw [CN];show _+1+_≤_;lia) ?_) CQ h
  |rep n=>
   obtain⟨h3,h66⟩:xbx 3/\n≤66:=hx;rw [xdw (xGy (.rep n::It)) (xox n++xoB a)] at h hl;rw [CN,DI] at hl;rw [xae (xMi (.rep n)) (dig 7 3++dig (n-3) 6) (by simp [W13.Itm.puts,bitsP]),CQ];have e1:num ((dig 7 3++(dig (n-3) 6++(xpU xi8 r))).take 3)=7:=gM (by decide) _;have e2:num (xzW (dig 7 3++(dig (n-3) 6++(xpU xi8 r))) 3 6)=n-3:=by rw [dF,gM (show n-3<2^6 by show _<64;lia)]
   refine .rep (by lia) (by rw [CN,CN,JZ,JZ];lia) e1 ?_;rw [e2,xdw (xkx 9) (3+6),<-EB,dF,dF,show n-3+3=n by lia];show xfW (f8 (λ y hy=>hk y xuY) (by rw [CN,DI];lia) ?_) CQ h
def wH (g:xuC)(hq:xoc)(hs:xqf)(c):C10.Due L (xu4 q s s++c) (.thing q s):=by
 have hl:xat (xu4 q s s) s:=JZ _ _;have hn:num (xu4 q s s)=xtO q s:=C10.Ye g hq hs;refine⟨by rw [CN,hl];lia,?_,xte⟩
 ·show IO (List.take_left' hl) ⟨by show IO hl hq,by show IO hl hs,by rw [hl,hn]⟩
 ·rw [Ed (by show IO hl (Dr hj))];have elj:xat ((xu4 q s s).take j) j:=by rw [Dd,hl];lia
  refine⟨q,s,hq,by show IO elj hj,?_⟩;rw [elj,C10.P7 _ (by show IO hl (Dr hj)),hl,hn]
theorem jo:∀{Pp} {S},XD L Pp->GR S Pp->xnV (xE9 S Pp) S (xpU xr1 z) (runP S Pp) z
 | [],S,_,_=>.done rfl
 |x::Pp,S,k,g=>by
  obtain⟨gx,gr⟩:=g;show xaM hl gr.len fK hl;have er:runP S (x::Pp)=runP (app S x) Pp:=rfl;obtain⟨k1,k2,_⟩:=k.at Do gx;have ih:=jo (z:=z) (⟨k.good,k.len,k.six,λ y hy=>k.has y xuY⟩:XD L Pp) gr;rw [er,rP,dX,CQ];cases x with
  |sg s=>
   show Tm (xae (bitsP (cP L xjx)) (xu4 s xvG xvG) (by simp [cP,bitsP])) (.sg (by have:(Pc.sg s).size=1:=rfl;lia) (wH k.good k1 k2 _) gx ?_);rw [xdw (th xjx) s,dF];exact ih
  |cp b y=>
   obtain⟨g1,g2,g3,g4,g5⟩:=gx;rw [xae (bitsP (cP L (xvW y))) (xu4 (253+y) (xe1 (253+y)) (xe1 (253+y))++dig b 8) (by simp [cP,bitsP]),CQ];have hsz:xKm b y=y:=rfl;have e1:num (xzW (xu4 (253+y) (xe1 (253+y)) (xe1 (253+y))++(dig b 8++(xpU xr1 z))) (xe1 (253+y)) 8)=b:=by rw [dF,gM (show b<2^8 by show xbN _;lia)]
   have e2:253+y-256+3=y:=by lia
   refine .cp (q:=253+y) (s:=xe1 (253+y)) (by lia) (wH k.good k1 k2 _) (by lia) (by rw [dF,CN,JZ];lia) (by show IO e1 g1) (by show IO e1 g3) (by show xam e2) ?_;rw [e1,e2,qq,dF,dF];exact ih
theorem o8:∀T N,cz (xG5 s (s,8)) N=N*256^T.length+val T
 | [],N=>by show N=_;rw [sH,IN,Nat.pow_zero];lia
 |s::T,N=>by
  show cz (xG5 s (s,8)) (N*2^8+s)=_;rw [o8 T,eN,Df];show(N*256+s)*256^T.length+val T=_;rw [Gu,Ew,Em 256,D4,<-EI]
def yk (h:xod)(t:xkv)(r:K' (xsP 0) xcx R):Vz R W u T.length T xcx/\Γ-xcx<8/\xvX%2^(Γ-xcx)=0:=by
 obtain⟨gd,_⟩:=h.good t;obtain⟨e,he,hl,hbt,hv⟩:=wQ gd r;have ee:Γ-xcx=e:=by lia
 refine⟨?_,by show IO ee he,by show IO ee hv⟩;have h0:0≤Γ:=Ω;show xBe u
 ·obtain rfl:ps=xnH:=h;have ht:=du T;have hlen:xzc T.length:=by show xaR r.len
  have hv':xvX=val T:=by
   rw [r.num,show Γ-tots xnH=0 by lia,Nat.pow_zero,Nat.mul_one];show cz (xG5 s (s,8)) 0=_;rw [o8,Nat.zero_mul,Er]
  obtain rfl:R=T:=li r.byt t.tb hlen hv';show IO ht .raw
 ·obtain rfl:ps=pf true T:=h;have q:=nJ r.byt (S:=[]) (vF t.le t.tb) h0 hbt;rw [lB,D3,Er,IN,Er] at q;exact .run q
 ·show xeJ Pp w h;obtain⟨g,er,_⟩:=xHw t.tb w;have q:=ic r.byt g h0 hbt;rw [er,Er,CN] at q;have:=Vz.cpy q
  rwa [Hs] at this
 ·obtain⟨Pp,L,It,b,w,sl,wi,rfl⟩:=h;obtain⟨g,er,_⟩:=xHw t.tb w;have h1:xEG:=by
   cases Pp with
   |nil=>
    show xc6 (xeI (xae W (W++T) er)) CN;show xaR t.one
   |cons=>exact FQ Ω
  have k:=sl.tok g h1;have hd:=W13.M3 wi;rw [F9,D3,<-k.len,DV] at hd;have q:=jo (z:=xv4 e) k g;rw [er,CN] at q;have hI:xzT 0 xtH L (xpU xr1 (xv4 e)):=by
   rw [hbt,dX,CQ];refine f8 (W13.MQ k.six wi) (by rw [<-hd,k.len];exact Di rfl) ?_;rw [D3,<-hd];exact .done (Di k.len.symm)
  have ez:(xtH).drop (tots (xi8++xr1))=xv4 e:=by rw [hbt,<-cX,Hs]
  have:=Vz.shr (W:=W) (v:=T.length) hI k.len k.good (by show IO ez q) (by lia)
  rwa [Hs] at this
 ·exact h.elim
inductive Mt (vs:KB) (H:Hp) (Q:VK) (JT:XK):Prop
 |mk (x z:JB) (W T R:Fr) (h0:vs=[xcy,xuU]) (h1:xgZ=xnl) (h2:H z=xj1) (h3:PB W T R) (h4:xkv) (h5:∀l H',Θ->Β->xaq=xbJ->xak):Mt vs H Q JT
def KN:Ps ["row","before","block","window","head"] ["row","before"] fV:=M2
structure Tbk (K:Frag)(mg:W1)(CK J4 C G C0 C1 C2 C3:JB):Prop where
 H:WA K mg CK J4
 Z:SI K mg C G C0 C1 C2 C3
 ahead:TD "need_ahead" di xjj
 win:TD "need_window" dJ xtW
 nhead:TD "need_head" im xFM
 headof:TD "head_of" gB Jam
 bsize:TD "block_size" dn xuQ
 ends:TD "ends_in_check" k5 Jam
 wcheck:TD "with_check" dv Jam
 textin:TD "text_in" lJ ["body","head","window"]
theorem qV:∀(It:xqW) (a:Nat),(xF4 It x)->9*xE4 a≤66*xo8
 | [],_,_=>Ω
 |x::It,a,hk=>by
  have hx:=hk x Do;have ep:W13.puts (x::It)=x.puts++xi8:=by simp [W13.puts]
  rw [ep,aP];cases x with
  |one l=>
   have ih:=qV It l λ y hy=>hk y xuY
   show 9*(xE4 l+1)≤66*(3+_);lia
  |rep n=>
   obtain⟨_,h66⟩:xbx 3/\n≤66:=hx;have ih:=qV It a λ y hy=>hk y xuY
   rw [xdw (xGy (.rep n::It)) (xox n++xoB a),CN,DI];show _≤66*(9+_);lia
def K8.low (h:xod)(t:xkv):8≤xcx/\(xgw 2->9≤xcx):=by
 have h1:=t.one;show xBe u
 ·obtain rfl:ps=xnH:=h;show IO du ⟨by lia,λ _=>by lia⟩
 ·obtain rfl:ps=pR xjy:=h
  suffices 14≤xk2 xjy from⟨by lia,λ _=>by lia⟩
  have e:=lB T;cases z:xjy with
  |nil=>rw [z] at e;rw [<-xae [] T e] at h1;cases h1
  |cons q rs=>rw [iJ,bX,bX];lia
 ·show xeJ Pp w h;have Wm:=lR w (by show IO CN (EN h1))
  suffices 9≤xwd from⟨by lia,λ _=>this⟩
  cases Pp with
  |nil=>cases Wm
  |cons x Pp=>
   rw [d5,aP];cases x with
   |sg s=>exact DD 9 _
   |cp b y=>show 9≤13+_;lia
 ·obtain⟨Pp,L,It,b,w,sl,wi,rfl⟩:=h;obtain⟨_,_,_,_,tok,hk,hd⟩:=oE t w sl wi;have hl:=qV It 0 hk;rw [hd,tok.len] at hl;show IO aP ⟨by lia,λ _=>by lia⟩
 ·exact h.elim
def PB.parts (h:PB W T R)(t:xkv):∃i ps Rb,i<4/\K8 i W T ps/\K' (xsP 0) xcx Rb/\R=sld (xjg (xjQ (64*i)-1)++Rb)/\Δ Rb.length/\xfr Rb.length:=by
 have hf:=(h.facts t).2;obtain⟨i,ps,Rb,hi,hm,hp,hr,rfl⟩:=h;refine⟨i,ps,Rb,hi,hp,hr,rfl,?_,?_⟩
 ·have h1:=hr.len;have h2:=(K8.low hp t).1;lia
 ·rw [f9,CN] at hf;have:xat (xjg (xjQ (64*i)-1)) 3:=rfl;lia
def mh (F:xlI "take_block" "take_block" fV dV f fd)(Z:Tbk K mg CK J4 C G C0 C1 C2 C3)(Wa:S3 K mg B D G' CW C0 C1 C2 C3):
  Α 39 ["row","before"] Mt:=by
 show xgo N Z.H.need GN (bG (P:=P) (w:=w) (base:=base) N Z.H.N);show Η Ah Z.ahead Wn Z.win;show Η Nh Z.nhead Ho Z.headof;show Η Bs Z.bsize En Z.ends;show Η Wc Z.wcheck Ti Z.textin;obtain⟨t3,h3⟩:=Z.H.three;show xbp t2 h2 Z.H.twoB (F.ok KN λ JN A outer st H vs Q E hr h=>?_)
 intro _;obtain⟨x,z,W,T,R,rfl,hB,hW,pb,tw,k⟩:=h;have hb:=xEr.1;obtain⟨i,ps,Rb,hi,hp,WU,rfl,Mn,Kg⟩:=xJJ;have ht1:=tw.one;have ht2:=tw.le;have QB:xan 33:=PP;have Vj:xan 6:=PP;have OP:xan 4:=PP;have Zw:xan 8:=PP;refine xfV 2 KN.nd (xbQ GN OP N Os) (xaz 3 KN.nd (xbQ (gD Ah Wn N Z.H.N) Vj Ah KM) (xaU 4 KN.nd (xbQ (pj Nh Ho Bs Z.H) QB Nh On) (xpa (xbQ (tT En Wc Z.H.Y) Zw En On)) (xnJ (tV Ti Z.Z Wa Z.H.T) Ti (xsr On (xaF 3 h3 t3) (wG qi (xaF 2 h2 t2))) υ UF)))
 generalize hX:xjg (xjQ (64*i)-1)++Rb=X at*;have hXl:X.length=xHc 3:=by rw [<-hX,CN];exact Hc 3 _
 show xcg g ⟨_,rfl,x,_,rfl,hB,hb,λ l hn=>xbw⟩ g;have s1:=xbG xyg hn;have SU:xct H l xyg l=ω xyg:=ac;show xdS H l xyg H1;show xcg g ⟨_,rfl,_,W,rfl,.inr (xnc z (xch hW)),tw.wb,tw.wl,λ lw H2 s2 nw Wf=>xbw⟩ g;have hl2':=xca SU;have Lv:=xe4;have eR:xyg=xjg (xjQ (64*i)-1)++(Rb++xrx X):=by unfold sld;rw [<-hX,CQ]
 show xcg g ⟨_,rfl,l,_,Rb.length,_,rfl,eR▸hl2',by omega,Kg,Mn,by rw [CN];rfl,λ p dx H3 np s3 Kz=>xbw⟩ g;have OH:=Lv.trans s3;have Lo:=xbL hl2';show xcg g ⟨_,rfl,l,X,rfl,Lo,λ b q=>xhG (xnQ q),by lia,λ H4 s4=>xyt xbw⟩ g;have Qc:=OH.trans s4;refine⟨_,rfl,_,rfl,_,rfl,_,rfl,l,_,rfl,JS.of (xdg Lo),LE l5 n5⟩;have ec:xou (Wp xyg) (some 3) (-2)=xxq:=by
  rw [xR _ (by show xam f9),sC,<-hX];rfl
 rw [ec];have s5:=xas xxq n5;have hx:=yk hp tw WU;rw [show(xjQ (64*i)-1)/64=i by lia,show(xjQ (64*i)-1)%64+1=T.length by lia] at Kz;exact⟨_,rfl,_,rfl,l5,p,lw,dx,Rb,W,T,i,T.length,_,_,rfl,ac,WU.byt,xar (xdg Kz),xar (xdg (xbL Wf)),tw.wl,ht2,hi,hx.1,Μ hx,xaY hx,λ l' H' n' s6 h'=>k l' _ (none_of (Qc.trans s5) n') ((Qc.trans s5).trans s6) h'⟩
universe K31.Ck
namespace K31.Ck
open PySem L2 QQ W17 W16 BP
seal PE PA PS PSs PT PW PG PI
abbrev wB:JL:=top 112
abbrev lD:JL:=top 113
abbrev qH:JL:=xDd 0
abbrev wp:JL:=xDd 1
abbrev zH:JL:=xDd 2
abbrev qW:JL:=xDd 4
noncomputable def four (n:Nat):Fr:=xol (n/65536)++xol n
def tailR (n c:Nat):Fr:=sld (xqr++xlf++xpk)
def oH (n):xdo xlf:=λ b h=>xml h (gu xnx b) (gu xnx b)
def zm:¬(xBf xfz):=Z8
def Av:¬(xqZ xfz):=Z8
def z7:¬(xle xfz):=Z8
def Af:¬(xqZ xkQ):=Z8
def Ai:¬(xle xkQ):=Z8
def Aq:¬(xle xwS):=Z8
noncomputable def fO (b m:Nat) (ck g:JB):xex:=[("blocks",xdz),("many_signs",xiH),("signs_check",.ref ck),("group",.ref g)]
def kA (b m)(ck g):xGf g (xqM ck (xsq m b []))=xkD:=by
 show(xGf g (xqM ck (xc2 (xBf xfz) (xfz,xdz) [("many_signs",xiH)])))=_;rw [Dc zm];show(xGf g (xc2 (xqZ xfz) (xfz,xdz) (xc2 (xqZ xkQ) (xkQ,xiH) [("signs_check",.ref ck)])))=_;rw [Dc Av,Dc Af];show(xc2 (xle xfz) (xfz,xdz) (xc2 (xle xkQ) (xkQ,xiH) (xc7 (xle xwS) xwS ck [xt4 "group" g])))=_;rw [Dc z7,Dc Ai,Dc Aq];rfl
def AJ (b m)(ck g):xcM xkD "blocks"=xkp:=by
 rw [<-kA,ao,Dc z7,ao,Dc Av,ao,Dc zm,ao,Τ]
def vv (b m)(ck g):xcM xkD "many_signs"=xqa:=by
 rw [<-kA,ao,Dc Ai,ao,Dc Af,ao,Τ]
def zr (b m)(ck g):xcM xkD "signs_check"=ST ck:=by
 rw [<-kA,ao,Dc Aq,ao,Τ]
def BW (b m)(ck g):xcM xkD "group"=ST g:=by rw [<-kA,ao,Τ]
def iw (b m)(ck g){x:Str}(h1:xdA (xle x))(h2:xdA (xqZ x))(h3:xdA (xBf x))(h4:xdA (x="blocks")):xkW xkD x:=by
 rw [<-kA,ao,xng,ao,xlt,ao,Dc h3,ao,Dc h4];rfl
def eF (b m)(ck g):(xkD).length<1000:=by show xcC 4
def y4 (b m b')(ck g):xHJ b' xkD=xvr b' m:=by
 show(xgL (xfz="blocks"))=_;rw [Τ];rfl
def yX (b m m')(ck g):xd8 "many_signs" m' xkD=xvr b m':=by
 show(xc2 (xBf xfz) (xfz,xdz) (xgL (xBf xkQ)))=_;rw [Dc zm,Τ];rfl
def vm (b m)(ck g g'):xGf g' xkD=fO b m ck g':=by
 show(xc2 (xle xfz) (xfz,xdz) (xc2 (xle xkQ) (xkQ,xiH) (xc7 (xle xwS) xwS ck (xgL (xle (xck "group"))))))=_;rw [Dc z7,Dc Ai,Dc Aq,Τ];rfl
structure Kr (C CK:JB)(H:Hp)(p ck g:JB)(S:Fr)(b:Nat)(G:Fr):Prop where
 ob:∃dx,xa2=xbT (xtG b ck g)
 ch:∃dk,H ck=xi4 CK dk (fC 16 (xt0 S))
 gr:H g=Ι xjk
 byt:xgH S
def Kr.keep (h:Kr C CK H p ck g S b G)(s:∀c o,WF=Id->c=p\/c=ck\/c=g->xaB=Id):Kr C CK H' p ck g S b G:=
 ⟨h.ob.elim λ dx z=>xdr (xgi z xbZ),h.ch.elim λ dx z=>xdr (xhm _ _ z xbZ),xhm _ _ h.gr xFe,h.byt⟩
structure S4 (K:Frag)(mg:W1)(CK CO:JB):Prop where
 Y:TL K mg CK
 initd:∃f fd t,(∃dV,xI4 sCInit dV f fd)/\xww K xAV [xb1 16]/\xCK CK
 cl:xt3 CO
 nB:xz1 CO "blocks"
 nM:xz1 CO "many_signs"
 nC:xz1 CO "signs_check"
 nG:xz1 CO "group"
 m:mg "Course"=ST CO
 gb:∃t,mg "GROUP_BLOCKS"=xcf 4
 four:TD "in_four_bytes" wB xmr
 tailof:TD "tail_of" lD xA0
 init:∃f fd,xfx K "Course.__init__" qH f/\xy7/\xCK CO
 win:∃f fd,xpn CO "window" "Course.window" wp
 go:∃f fd,xjh CO "go_on" "Course.go_on" zH xud f fd
 tail:∃f fd,xpn CO "tail" "Course.tail" qW
inductive Uq (vs:KB) (H:Hp) (Q:VK) (JT:XK):Prop
 |mk (n:Nat) (h0:vs=[xd0]) (h1:∀l H',Θ->Β->xaq=ω xlf->xak):Uq vs H Q JT
def zO:Ps xmr xmr wB:=M2
def yi (F:Ε "in_four_bytes" wB xmr)(Z:xtv K):Α 2 xmr Uq:=by
 show xgo Tw Z.Y.two GT (qC (P:=P) (w:=w) (base:=base) Tw);show xbj zO (λ JN A outer st H vs Q E hr h=>?_);show xa8 n rfl k h (xee (xcB (xdy GT Tw (xfu gP (xfu gU Os))) (xdy GT Tw (xfu gP Os))));have e1:xaf/2^Int.toNat 16=KF (n/65536):=by
  show xaf/65536=_;exact F1 (Nat.ToInt.div_congr rfl rfl)
 have e2:∀m:Nat,Builtin.bitAnd xfm 65535=KF (m%65536):=λ m=>dP m 16
 refine⟨_,rfl,_,_,rfl,rfl,(by show xcQ≤16;decide),_,_,rfl,rfl,?_⟩
 try dsimp only
 rw [e1,e2];refine xdK rfl xnx (LE l1 n1);have s1:=xbG (xol (n/65536)) n1;have MO:xct H l1 (xol (n/65536)) l1=ω (xol (n/65536)):=ac;show xdS H l1 (xol (n/65536)) H1;refine⟨_,rfl,_,_,rfl,rfl,?_⟩
 try dsimp only
 show Tm e2 (xdK rfl xnx (LE l2 n2));have s2:=xbG (xol n) n2;have Oz:xct H1 l2 (xol n) l2=ω (xol n):=ac;have h21:=xca MO;have Lv:=xe4;show xdS H1 l2 (xol n) H2;refine⟨l1,l2,_,_,rfl,rfl,h21,Oz,(by show xcR 4),xf7⟩;exact xql (xoM Lv) (Lv.trans xfY) (by rw [ac,<-C8];rfl)
inductive Pk (vs:KB) (H:Hp) (Q:VK) (JT:XK):Prop
 |mk (n c:Nat) (h0:vs=[xd0,xgR]) (h1:c<65536) (h2:∀l H',Θ->Β->xaq=ω (tailR n c)->xak):Pk vs H Q JT
def we:Ps xA0 xA0 lD:=M2
def tQ (F:Ε "tail_of" lD xA0)(Z:xtv K):Α 8 xA0 Pk:=by
 show Η Tw Z.Y.two Fo Z.four;show Η Hr Z.Y.headrow Wc Z.Y.withcheck;show xbj we (λ JN A outer st H vs Q E hr h=>?_);show xcN n c hc k h;have J5:xa0:=PP;have L4:xqc:=PP;show xs0 (xdy (d6 Wc Z.Y) Wc (xcB (xcB (xbe (fJ Hr Z.Y) hr Hr aj aj) (xbQ (yi Fo Z) L4 Fo Os)) (xbQ (qC Tw) J5 Tw KM))) ⟨0,0,rfl,Z9,Z9,λ l1 H1 n1 s1 MO=>?_⟩;show SC (xc4 _ rfl n (λ l2 H2 n2 s2 Oz=>?_)) ⟨l1,l2,_,_,rfl,rfl,xca MO,Oz,(by show xcR 7),LE l3 n3⟩;rw [<-C8];have s3:=xbG (xqr++xlf) n3;have h33:xct H2 l3 (xqr++xlf) l3=ω (xqr++xlf):=ac;have QO:=xxI s3;show xdS H2 l3 (xqr++xlf) H3;refine xeZ c hc (LE l4 n4);have s4:=xbG xpk n4;have Qy:xct H3 l4 xpk l4=ω xpk:=ac;have h43:=xdg h33;have U6:=xIX;show xdS H3 l4 xpk H4;refine⟨l3,l4,_,_,rfl,rfl,h43,Qy,(by show xcR 9),LE l5 n5⟩;rw [<-C8];have s5:=xbG (xqr++xlf++xpk) n5;have Wq:xct H4 l5 (xqr++xlf++xpk) l5=ω (xqr++xlf++xpk):=ac;have UN:=U6.trans s5;show xdS H4 l5 (xqr++xlf++xpk) H5;refine⟨l5,_,rfl,Wq,xfn,(by show xbH 9;decide),λ l H6 nl s6 hl=>xdE H6 (xoM UN) (UN.trans s6) hl⟩;show xbR hb hb hb
 ·show xbR hb hb hb
  ·exact eI Z9 Z9 b hb
  ·exact oH n b hb
 ·exact gu hc b hb
def xQ (S T):xt0 (S++T)=crc 16 45 (xt0 S) T:=by
 unfold chk crc;rw [Gd]
theorem cj (x)(v):∀l,xbz (putF x v l) (l.length+1)
 | []=>P3
 |(y,u)::l=>by
  unfold putF
  split
  ·simp
  ·have:=cj x v l;show xBS
def fOC:HO.ins CO dx xkD≠HO.ins CK dk xwu:=by
 intro z;injection z with _ _ z
 have:=xeI z;simp [fO,fC] at this
def Kr.ne (h:xoZ H p g S b G):p≠ck/\xaP g/\g≠ck:=by
 obtain⟨dx,hp⟩:=h.ob;show xa4 dk hk h.ch ⟨aF hp hk fOC,xpX h.gr (by show τ),aF h.gr hk (by show τ)⟩
inductive Rw (CO CK:JB) (vs:KB) (H:Hp) (Q:VK) (JT:XK):Prop
 |mk (p dx:JB) (h0:vs=xaO) (h1:xa2=xea CO []) (h2:∀(ck g:JB) (H':Hp),XV ck->XV g->xoZ H' p g [] 0 []->xcT (∀b o,xal=Id->xgd->xdV=Id)):Rw CO CK vs H Q JT
def yG:xc3 qH:=M2
def iU (F:xfx K "Course.__init__" qH f)(Z:xtv K):xfF 4 (Rw CO CK):=by
 obtain⟨_,_,W⟩:=Z.Y.Z.whole;obtain⟨_,_,t16,⟨_,FI⟩,B16,MI⟩:=Z.initd;show xau yG (λ JN A outer st H vs Q E hr h=>?_);show xcN p dx hp k h;show xlq (xdu aj (xdu aj (xse (bL MI (xJH W Z.Y.Z.T Z.Y.Z.X) PP Z7 Z.Y.Z.T.m B16 (.cons (a:=V.int 16) xbg .nil) a7) xdM))) ⟨_,rfl,p,CO,dx,[],rfl,hp,Z.cl,Z.nB,(by show xcC 0),?_⟩ ⟨_,rfl,p,CO,dx,_,rfl,ac,Z.cl,Z.nM,(by show xcC 1),?_⟩;have J9:(xer (xer H xsJ) (xDR xmd xsJ)) p=xea CO (xsq 0 0 []):=ac;have NC:∀c o,WF=Id->xai->(xer (xer H xsJ) (xDR xmd xsJ)) c=Id:=λ c o e n=>by rw [xnM,xnM];exact e
 show xbB no2 (∀c,Ζ ((xer (xer H xsJ) (xDR xmd xsJ)) c)->XV c) (λ c e=>by
  by_cases n:c=p
  ·show xba n ac e e
  ·rw [xnM,xnM] at e;exact e) (xer (xer H xsJ) (xDR xmd xsJ)) H2;intro x dk nx Qo V7;have s0:=xti CK Qo;have QP:p≠x:=ad J9 nx;refine⟨x,dk,16,45,rfl,mf,ac,λ H3 hx Kc=>xgB⟩;have Kz:=xaK (xhz J9) QP;have k13:∀c o,WF=Id->xai->H3 c=Id:=λ c o e n=>xaK (xhz (xqq e n)) (ad (xqq e n) nx)
 clear Kc s0;have Kg:=cj "many_signs" xx0 (xHJ 0 []);have Mn:=cj "blocks" xx0 [];have Lo:=cj "signs_check" xcy (xsq 0 0 []);have Xk:xat ([]:xex) 0:=rfl;refine⟨_,rfl,p,CO,dx,_,rfl,Kz,Z.cl,Z.nC,Z5,?_⟩;have QT:(xer H3 (xqM x (xsq 0 0 []))) p=xea CO (xqM x (xsq 0 0 [])):=ac;have Yr:(xer H3 (xqM x (xsq 0 0 []))) x=xi4 CK dk (fC 16 (2^16-1)):=by show Ty QP.symm hx
 show xbB k14 (∀c o,WF=Id->xai->(xer H3 (xqM x (xsq 0 0 []))) c=Id) (λ c o e n=>by show Ty n (k13 _ _ e n)) (xer H3 (xqM x (xsq 0 0 []))) H4;refine xem (by show xcR 0) g ng;have s5:=xj0 ng;have hg5:xbC H4 g [] g=xzV:=ac;have Sg:=xar QT;have hx5:=xar Yr;have Vc:xaP g:=xbP QT ng;have hgH:XV g:=by
  cases e:H g with
  |none=>rfl
  |some o=>show Tl (k14 _ _ e Vc) ng ng
 show xbb H4 g [] H5;show SC ⟨_,rfl,p,CO,dx,_,rfl,Sg,Z.cl,Z.nG,Z5,?_⟩ (k x g _ (no2 x nx) hgH ⟨xdr (xFE ac (λ l=>xFu CO dx l) (kA 0 0 x g)),⟨dk,by show Ty QP.symm hx5⟩,by show Ty Vc hg5,λ z hz=>by simp at hz⟩ λ c o e n=>?_)
 show Ty n (xar (k14 _ _ e n))
inductive Uh (CO CK:JB) (vs:KB) (H:Hp) (Q:VK) (JT:XK):Prop
 |mk (p ck g:JB) (S G:Fr) (b:Nat) (h0:vs=xaO) (h1:xoZ H p g S b G) (h2:∀l,Θ->Q xah (xiZ xjk)):Uh CO CK vs H Q JT
def zc:xc3 wp:=M2
def mr (F:Υ "window" "Course.window" wp)(Z:xtv K):xgS (Uh CO CK):=by
 have T:=Z.Y.Z.X.R.X;show xau zc (λ JN A outer st H vs Q E hr h=>?_);obtain⟨p,ck,g,S,G,b,rfl,⟨⟨dx,hp⟩,_,hg,_⟩,k⟩:=h;refine xee (xGC EU xCj);exact⟨_,rfl,p,CO,dx,_,_,rfl,hp,Z.cl,Z.nG,BW _ _ _ _,g,_,rfl,Ο hg,k⟩
inductive Rv (CO CK:JB) (vs:KB) (H:Hp) (Q:VK) (JT:XK):Prop
 |mk (p ck g:JB) (S G:Fr) (b:Nat) (h0:vs=xaO) (h1:xoZ H p g S b G) (h2:∀l H',Θ->Β->xaq=ω (xAh S.length S)->xak):Rv CO CK vs H Q JT
def xJ:xc3 qW:=M2
def oV (F:Υ "tail" "Course.tail" qW)(Z:xtv K):xfF 9 (Rv CO CK):=by
 show Η To Z.tailof Va Z.Y.Z.value;have CT:=Z.Y.Z.T;show xau xJ (λ JN A outer st H vs Q E hr h=>?_);obtain⟨p,ck,g,S,G,b,rfl,⟨⟨dx,hp⟩,⟨dk,hk⟩,hg,hb⟩,k⟩:=h;have J5:xa0:=PP;show xs0 (xbe (tQ To Z) hr To XL (xh0 XL CT.cl Va (nA Va.F CT))) ⟨_,rfl,p,CO,dx,_,_,rfl,hp,Z.cl,Z.nM,vv _ _ _ _,_,rfl,p,CO,dx,_,_,rfl,hp,Z.cl,Z.nC,zr _ _ _ _,ck,dk,_,rfl,hk,xyf _,ck,dk,16,_,rfl,hk,?_⟩;exact xay _ _ (gO mf hb) k
noncomputable def Wr (b:Nat) (G T:Fr):Fr:=xbV ((b+1)%4) 0 [] (G++T)
inductive WJ (CO CK:JB) (vs:KB) (H:Hp) (Q:VK) (JT:XK):Prop
 |mk (p ck g a:JB) (S G T:Fr) (b:Nat) (h0:vs=[Φ,SZ]) (h1:xoZ H p g S b G) (h2:Uf=xbJ) (h3:(xkt)) (h4:xbH (xjQ G.length)) (h5:∀(g':JB) (H':Hp),XV g'->xoZ H' p g' (S++T) (b+1) (Wr b G T)->xcT (∀c o,WF=Id->xai->xsG->xaB=Id)):WJ CO CK vs H Q JT
def A4:Ps xud xud zH:=M2
def wx (F:Υ "go_on" "Course.go_on" zH)(Z:xtv K):Α 6 xud (WJ CO CK):=by
 have T:=Z.Y.Z.X.R.X;obtain⟨X,CT,⟨_,_,W⟩,⟨_,_,R⟩,⟨_,_,N⟩,⟨_,_,Yw⟩,_,⟨_,_,Ad⟩,_⟩:=Z.Y.Z;show xbp tg hgb Z.gb (F.ok A4 λ JN A outer st H vs Q E hr h=>?_)
 intro _;obtain⟨p,ck,g,a,S,G,T',b,rfl,hC,ha,hT,hl,k⟩:=h;obtain⟨S7,Vc,ngk⟩:=hC.ne;obtain⟨⟨dx,hp⟩,⟨dk,hk⟩,hg,hb⟩:=hC;have Xb:xaP a:=xpX ha (by show τ);have nak:a≠ck:=aF ha hk (by show τ);refine xaT (xdu (xhy XL) (xdu (xbA XL (xwB KM)) (xcz (aX XL CT.cl Ad (u9 Ad.F N R W Yw CT X) hr xCi) (ae (xgs bK (ap bA XL (xaF 4 hgb tg)) aj (xqA Os xdM) (xxU (xcB XL KM)))))))
 have e1:xnv+1=xjL b:=Iq _;have e2:SL S.length+xmt (T'.map vN)=KF xtT:=by show xcS
 show xds ⟨_,rfl,p,CO,dx,_,_,rfl,hp,Z.cl,Z.nB,AJ _ _ _ _,_,_,rfl,rfl,_,rfl,p,CO,dx,_,rfl,hp,Z.cl,Z.nB,eF _ _ _ _,χ⟩
 try dsimp only
 rw [e1,y4];have Kq:(xer H (xtG (b+1) ck g)) p=xea CO (xtG (b+1) ck g):=ac;show xbB k1 (∀c o,WF=Id->xai->(xer H (xtG (b+1) ck g)) c=Id) (λ c o e n=>by show xgj n) (xer H (xtG (b+1) ck g)) H1;show xds ⟨_,rfl,p,CO,dx,_,_,rfl,Kq,Z.cl,Z.nM,vv _ _ _ _,_,rfl,a,_,rfl,Ο (k1 _ _ ha Xb),_,_,rfl,rfl,_,rfl,p,CO,dx,_,rfl,Kq,Z.cl,Z.nM,eF _ _ _ _,χ⟩
 try dsimp only
 rw [e2,yX];have J9:(xer H1 (xvr (b+1) xtT)) p=xea CO (xvr (b+1) xtT):=ac;show xbB k2 (∀c o,WF=Id->xai->(xer H1 (xvr (b+1) xtT)) c=Id) (λ c o e n=>by show Ty n (k1 _ _ e n)) (xer H1 (xvr (b+1) xtT)) H2;clear k1 Kq;refine xbu
 have OR:=k2 _ _ hk S7.symm;show xbI ⟨_,rfl,p,CO,dx,_,_,rfl,J9,Z.cl,Z.nC,zr _ _ _ _,ck,dk,_,rfl,OR,xyf _,_,rfl,ck,dk,a,16,45,_,T',rfl,mf,gO mf hb,OR,k2 _ _ ha Xb,hT,λ H3 Xm Kc=>χ⟩;rw [<-xQ] at Xm;have Kz:=xaK J9 S7;have k3:∀c o,WF=Id->xai->xsG->H3 c=Id:=λ c o e n m=>xaK (k2 _ _ e n) m
 clear Kc OR J9 k2;have hg3:=xiP hg Vc ngk;have ha3:=xiP ha Xb nak;have hbb:xgH (S++T'):=λ x hx=>xml hx xnL (hT x)
 have eL:xbq S T'=xtT:=CN;have hgH:∀l,Ζ (H3 l)->Θ:=λ l nl=>by
  cases e:H l with
  |none=>rfl
  |some o=>
   by_cases n:l=p
   ·show xba n Kz nl nl
   ·by_cases m:l=ck
    ·show xba m Xm nl nl
    ·show Tl (xiP e n m) nl nl
 have fin:∀l L H4,Ζ (H3 l)->H4=xer (xej H3 xz5) (fO (b+1) xtT ck l)->L=Wr b G T'->xjN H4:=λ l L H4 nl e4 eL'=>by
  subst e4 eL';have K9:xqg:=xeT Kz;have nlk:xeG ck:=xeT Xm;refine xql (hgH l nl) ⟨xdr (by rw [ac,eL]),⟨dk,by rw [ag S7.symm,ag nlk.symm];exact Xm⟩,by rw [ag K9,ac],hbb⟩ λ c o e n m=>?_
  rw [xnM,xkM (xiP e n m) nl];exact xiP e n m
 have e4:xjL b%4=KF ((b+1)%4):=F1 (xLC rfl);refine⟨_,rfl,p,CO,dx,_,_,rfl,Kz,Z.cl,Z.nB,AJ _ _ _ _,_,_,rfl,rfl,(by show xet 4),?_⟩
 try dsimp only
 show Tm e4 (xdm rfl _ (xec h h))
 ·have h0:(b+1)%4=0:=by
   have:V.int (KF ((b+1)%4))=xtM:=xbK;injection this with this
   exact Int.ofNat_eq_zero.mp this
  refine xem (by show xcR 0) l nl;have L0:(xej H3 []) p=_:=(xkM Kz nl).trans Kz;show xfW ⟨_,rfl,p,CO,dx,_,rfl,L0,Z.cl,Z.nG,eF _ _ _ _,?_⟩ vm (fin l [] _ nl rfl (by show xbk Wr (Dq h0)))
 ·have h0:¬(b+1)%4=0:=LT (h (CY (by rw [z];rfl)))
  refine⟨_,rfl,p,CO,dx,_,_,rfl,Kz,Z.cl,Z.nG,BW _ _ _ _,_,rfl,g,a,_,_,rfl,rfl,hg3,ha3,a9 (by rw [CM,CM];exact xc9 hl),xf7⟩;have L0:(xej H3 (xjk++T'.map vN)) p=_:=(xkM Kz nl).trans Kz;refine⟨_,rfl,p,CO,dx,_,rfl,L0,Z.cl,Z.nG,eF _ _ _ _,?_⟩;rw [vm,<-C8];exact fin l (G++T') _ nl rfl (by show xbk Wr (Dc h0))
abbrev qh:JL:=xy1 0
abbrev AM:JL:=xy1 1
abbrev qk:JL:=xy1 2
abbrev p7:JL:=xy1 3
abbrev pS:JL:=xy1 4
abbrev u6:JL:=xy1 5
abbrev jD:JL:=top 127
def Ab:¬(xB7 xfA):=Z8
def zn:¬(xrW xfA):=Z8
def ze:¬(xk5 xfA):=Z8
def y9:¬(xrW xkS):=Z8
def zV:¬(xk5 xkS):=Z8
def AQ:¬(xk5 xw5):=Z8
noncomputable def fP (co wt:JB) (bg fn:Bool):xex:=[("course",.ref co),("waiting",.ref wt),("begun",.bl bg),("finished",.bl fn)]
def jL (co wt)(bg fn):xET fn (xD5 "begun" bg (xFl wt (xi5 "course" co [])))=xhl:=by
 show(xET fn (xD5 "begun" bg (xc7 (xB7 xfA) xfA co [xt4 "waiting" wt])))=_;rw [Dc Ab];show(xET fn (xc7 (xrW xfA) xfA co (xc7 (xrW xkS) xkS wt [("begun",V.bl bg)])))=_;rw [Dc zn,Dc y9];show(xc7 (xk5 xfA) xfA co (xc7 (xk5 xkS) xkS wt (xc2 (xk5 xw5) (xw5,V.bl bg) [("finished",V.bl fn)])))=_;rw [Dc ze,Dc zV,Dc AQ];rfl
def mw (co wt)(bg fn):xcM xhl "course"=ST co:=by
 rw [<-jL,ao,Dc ze,ao,Dc zn,ao,Dc Ab,ao,Τ]
def gh (co wt)(bg fn):xcM xhl "waiting"=ST wt:=by
 rw [<-jL,ao,Dc zV,ao,Dc y9,ao,Τ]
def tO (co wt)(bg fn):Re (xcM xhl "begun") (.bl bg):=by
 rw [<-jL,ao,Dc AQ,ao,Τ]
def rg (co wt)(bg fn):Re (xcM xhl "finished") (.bl fn):=by rw [<-jL,ao,Τ]
def cW (co wt)(bg fn){x:Str}(h1:xdA (xk5 x))(h2:xdA (xrW x))(h3:xdA (xB7 x))(h4:xdA (x="course")):xkW xhl x:=by
 rw [<-jL,ao,xng,ao,xlt,ao,Dc h3,ao,Dc h4];rfl
def cT (co wt)(bg fn):(xhl).length<1000:=by show xcC 4
def oJ (co wt Qn)(bg fn):xFl Qn xhl=xwz Qn bg fn:=by
 show(xc7 (xB7 xfA) xfA co (xgL (xB7 xkS)))=_;rw [Dc Ab,Τ];rfl
def vE (co wt)(bg fn U2):xD5 "begun" U2 xhl=xwz wt U2 fn:=by
 show(xc7 (xrW xfA) xfA co (xc7 (xrW xkS) xkS wt (xgL (xrW xw5))))=_;rw [Dc zn,Dc y9,Τ];rfl
def uO (co wt)(bg fn fn'):xET fn' xhl=xDE fn':=by
 show(xc7 (xk5 xfA) xfA co (xc7 (xk5 xkS) xkS wt (xc2 (xk5 xw5) (xw5,V.bl bg) (xgL (xk5 (xck "finished"))))))=_;rw [Dc ze,Dc zV,Dc AQ,Τ];rfl
structure CP (K:Frag)(mg:W1)(C:JB):Prop where
 cl:xgc
 nC:xcE "course"
 nW:xcE "waiting"
 nB:xcE "begun"
 nF:xcE "finished"
 m:mg "Presser"=xhM
 mark:∃d,mg "MARK"=xlJ/\∀H,xkw d [xyZ,xzU,vN 1]
inductive spUn (C:JB) (vs:KB) (H:Hp) (Q:VK) (JT:XK):Prop
 |mk (p dx co wt:JB) (bg:Bool) (h0:vs=xaO) (h1:xa2=xbT xJT) (h2:xjN H):spUn C vs H Q JT
def Bg:xc3 AM:=M2
def yW (F:Υ "need_unfinished" "Presser.need_unfinished" AM)(T:CP K mg C):xgS (spUn C):=by
 show xau Bg (λ JN A outer st H vs Q E hr h=>?_);obtain⟨p,dx,co,wt,bg,rfl,hp,k⟩:=h;refine xaT (ae (xDQ xGR));exact⟨_,rfl,p,C,dx,_,_,rfl,hp,T.cl,T.nF,rg _ _ _ _,false,rfl,bd k⟩
noncomputable def mk (bg:Bool):Fr:=xbS bg [] [184,66,1]
inductive Ul (C:JB) (vs:KB) (H:Hp) (Q:VK) (JT:XK):Prop
 |mk (p dx co wt:JB) (bg fn:Bool) (h0:vs=xaO) (h1:xa2=xbT xhl) (h2:∀l H',Θ->H' p=xbT (xxJ fn)->xaq=ω xm7->(∀c o,WF=Id->xai->xaB=Id)->xak):Ul C vs H Q JT
def ya:xc3 qk:=M2
def rK (F:Υ "mark_once" "Presser.mark_once" qk)(T:CP K mg C)(X:xgT):xgS (Ul C):=by
 show xa8 dM mM hM T.mark (F.ok ya λ JN A outer st H vs Q E hr h=>?_)
 intro _;obtain⟨p,dx,co,wt,bg,fn,rfl,hp,k⟩:=h;show xbf (ab (aH xGR (xcc xdM) az)
  (xdu dl (xcc (xGB X.list EU (xa7 (xvE dM Z7 mM)))))) ⟨_,rfl,p,C,dx,_,_,rfl,hp,T.cl,T.nB,tO _ _ _ _,bg,rfl,?_⟩;cases bg with
 |true=>
  refine d8 (xem (by show xcR 0) l nl);exact xql nl (by show xh3 hp nl hp) ac λ c o e _=>xfY _ _ e
 |false=>
  refine bd ⟨_,rfl,p,C,dx,_,rfl,hp,T.cl,T.nB,xkC,?_⟩;rw [vE];have Kq:(xdh H (xxJ fn)) p=xbT (xxJ fn):=ac;refine xay dM _ (.inr (hM _)) xf7;have K9:p≠l:=ad Kq nl;refine xql (by show UV (ag K9.symm) nl nl) (by show Ty K9 Kq) ac λ c o e n=>?_
  rw [xkM (by show xgj n) nl,xnM];exact e
def nb (A:Fr):Nat:=A.length/64
noncomputable def wn (A:Fr) (i:Nat):Fr:=(A.take (64*i)).drop (i/4*256)
structure NQ (C CO CK:JB)(H:Hp)(p co ck:JB)(A:Fr)(bg:Bool):Prop where
 ob:∃dx wt g,xa2=xbT xJT/\H wt=ω (A.drop (64*xnu))/\xlE H g (A.take (64*xnu)) xnu (wn A xnu)
 byt:xgH A
def dD (t:xlQ)(kp:∀c o,WF=Id->(∀C dx fs,o≠ .ins C dx fs)->(∀xs,o≠ xrm)->xaB=Id):xnp:=by
 show xa8 ps h z t ⟨ps,xap h (by intro _ _ _ z;cases z) (by intro _ z;cases z),z.imp id λ z9=>by obtain⟨c',oc,vs,t,e,hc,r⟩:=z9;exact⟨c',oc,vs,t,e,xap hc (by intro _ _ _ z;cases z) (by intro _ z;cases z),r⟩⟩
structure VB (K:Frag)(mg:W1)(B D G CW C0 C1 C2 C3 c CK J4 CO C:JB):Prop where
 Bk:Bks K mg B D G CW C0 C1 C2 C3 c CK J4
 Cr:xtv K
 T:CP K mg C
 bs:∃t,mg "BLOCK_SIGNS"=xcf 64
 putblock:∃f fd,XI K mg "put_block" ii Jae f fd
 init:∃f fd,xfx K "Presser.__init__" qh f/\xy7/\xqo
 un:∃f fd,xg2 "need_unfinished" "Presser.need_unfinished" AM
 mark:∃f fd,xg2 "mark_once" "Presser.mark_once" qk
 next:∃f fd,xsX "next_block" "Presser.next_block" p7 xI0 f fd
 feed:∃f fd,xsX "feed" "Presser.feed" pS xud f fd
 finish:∃f fd,xg2 "finish" "Presser.finish" u6
inductive Rr (C CO CK:JB) (vs:KB) (H:Hp) (Q:VK) (JT:XK):Prop
 |mk (p dx:JB) (h0:vs=xaO) (h1:xa2=xwc) (h2:∀(co ck:JB) (H':Hp),XV co->XV ck->xtu C H' p co ck [] false->xcT (∀b o,xal=Id->xgd->xdV=Id)):Rr C CO CK vs H Q JT
def yt:xc3 qh:=M2
def on (F:xfx K "Presser.__init__" qh f)(Z:VB K mg B D G' CW C0 C1 C2 C3 c CK J4 CO C):xfF 6 (Rr C CO CK):=by
 have T:=Z.T;show xjf bI MI Z.Cr.init;show xau yt (λ JN A outer st H vs Q E hr h=>?_);show xcN p dx hp k h;refine xaT (xdu (xp2 (iU FI Z.Cr) hr Z.Cr.m bI a7) (xdu xdM (xse dl dl)))
 intro x dk nx Qo V7;have s0:=xti CO Qo;have QP:p≠x:=xpB nx;refine xay x dk ac (λ ck g H1 OJ ng hC Lm=>xgB);have Kq:=Lm _ _ (xhz hp) QP;have k1:∀b o,xal=Id->H1 b=Id:=λ b o e=>Lm _ _ xpo xrG
 have OA:XV ck:=xgu OJ;clear Lm s0;refine⟨_,rfl,p,C,dx,[],rfl,Kq,T.cl,T.nC,(by show xcC 0),?_⟩;have J9:(xdh H1 xkb) p=xbT xkb:=ac;show xbB k2 (∀b o,H1 b=Id->xgd->(xdh H1 xkb) b=Id) (λ b o e n=>by show xgj n) (xdh H1 xkb) H2;refine xem (by show xcR 0) wt Zg;have s3:=xj0 Zg;have Ve:xbC H2 wt [] wt=xzV:=ac;have Kz:=xbL J9;have W6:xaP wt:=xbP J9 Zg;show xbb H2 wt [] H3;refine⟨_,rfl,p,C,dx,_,rfl,Kz,T.cl,T.nW,(by show xcC 1),?_⟩;have Mn:=cj "course" xcy [];have Kg:=cj "waiting" (.ref wt) xkb;have Lo:=cj "begun" xE3 (xFl wt xkb);have Xk:xat ([]:xex) 0:=rfl;show SC ⟨_,rfl,p,C,dx,_,rfl,ac,T.cl,T.nB,Z5,?_⟩ ⟨_,rfl,p,C,dx,_,rfl,ac,T.cl,T.nF,Z5,?_⟩;rw [dz,dz,jL];obtain⟨S7,Vc,ngk⟩:=hC.ne;have OS:xaP ck:=LT (by show xbY hp OA OA)
 have hgp:xaP g:=LT (by
  have:=hC.gr;show xbY Kq this this)
 have k3:∀b o,H1 b=Id->xgd->(xdh H3 (xvl x wt)) b=Id:=λ b o e n=>by show Ty n (xbL (k2 _ _ e n))
 refine k x ck _ nx OA ⟨⟨dx,wt,g,ac,by show Ty W6 Ve,hC.keep λ c o e hc=>xiP e ?_⟩,λ z hz=>by simp at hz⟩ λ b o e n=>xiP (k1 _ _ e) n
 show xp1 hc rfl rfl
 ·exact QP.symm
 ·exact OS
 ·exact hgp
inductive Uj (Tb C CO CK:JB) (vs:KB) (H:Hp) (Q:VK) (JT:XK):Prop
 |mk (p dx co wt ck g a:JB) (bg fn:Bool) (S G T:Fr) (b:Nat) (h0:vs=[Φ,SZ]) (h1:xa2=xbT xhl) (h2:xlE H g S b G) (h3:Uf=xbJ) (h4:TW T G) (h5:xlQ) (h6:∀(l g':JB) (R:Fr) (H':Hp),Θ->XV g'->PB G T R->xaq=xnl->xlE H' g' (S++T) (b+1) (Wr b G T)->(∀c o,Ν Tb->WF=Id->Ν co->xsG->xaB=Id)->xnp->xak):Uj Tb C CO CK vs H Q JT
def RI:Ps (xmC "signs" "block") xI0 p7:=M2
def rX (F:Υ "next_block" "Presser.next_block" p7)(Z:VB K mg B D G' CW C0 C1 C2 C3 c CK J4 CO C)(hC:xlV)(Qh:xj3)(hK:xlz):Α 41 xI0 (Uj Tb C CO CK):=by
 have T0:=Z.T;obtain⟨_,_,Pb⟩:=Z.putblock;obtain⟨_,FP⟩:=Pb.F;show Η Wi Z.Cr.win Go Z.Cr.go;show xau RI (λ JN A outer st H vs Q E hr h=>?_);obtain⟨p,dx,co,wt,ck,g,a,bg,fn,S,G,T,b,rfl,hp,Qx,ha,tw,hT,k⟩:=h;have J5:xa0:=PP;have Vj:xan 6:=PP;show xbf (xaU 2 RI.nd (xtr (nZ FP Z.Bk hC Qh hK) Pb.m Pb.kp Pb.b .nil a7 (xbo KM (xh0 XL Z.Cr.cl Wi (mr Wi.F Z.Cr)))) (aB (aX XL Z.Cr.cl Go (wx Go.F Z.Cr) Vj xCi)) On) xbu
 show xbp Sq L6 Qx.ob ⟨_,rfl,_,rfl,p,C,dx,_,_,rfl,hp,T0.cl,T0.nC,xqu,co,Sq,_,rfl,L6,iw _ _ _ _,co,ck,g,S,G,b,rfl,Qx,LE lw W8⟩;have s1:=xas xjk W8;have Zs:xbC H lw xjk lw=Ι xjk:=ac;show xbb H lw xjk H1;have Oy:=xBj;show xbI ⟨a,xHB,T,G,rfl,xln,.inr (xnc lw Zs),tw,Oy,λ l R H2 nl pb hl sT Sl=>χ⟩;have k2:∀{e} {o},H e=Id->(∀ps,o≠ xxN)->H2 e=Id:=λ h hn=>xoe (Oy.ne (xch h) hn) (xch h)
 have J9:=k2 hp (by intro ps z;cases z);have O4:xlE H2 g S b G:=by
  show xa4 dk hk Qx.ch ⟨⟨Sq,k2 L6 (by intro ps z;cases z)⟩,⟨dk,k2 hk (by intro ps z;cases z)⟩,k2 Qx.gr (by intro ps z;cases z),Qx.byt⟩
 have OL:=k2 ha (by intro ps z;cases z);have S9:=tw.le;have Ys:=tw.wl;refine xbu
 show xbp Yc MX O4.ob ⟨_,rfl,p,C,dx,_,_,rfl,J9,T0.cl,T0.nC,xqu,co,Yc,_,rfl,MX,iw _ _ _ _,_,rfl,co,ck,g,a,S,G,T,b,rfl,O4,OL,tw.tb,Z5,λ g' H3 ng' SX Kc=>χ⟩;clear g1;obtain⟨dk2,OR⟩:=O4.ch;have hTb3:xwO H3:=dD Sl λ e o h hn _=>xaK h (aF h MX (xnD _ _)) (aF h OR (xnD _ _))
 have Lo:=xaK hl (aF hl MX (by show τ)) (aF hl OR (by show τ));exact xbd (xdE g' R H3 (xh7 nl) (xh7 (iW Sl sT ng')) pb Lo SX (λ c o n e n1 n2=>xaK (xoe n xb5) n1 n2) hTb3)
noncomputable def blk (F:Fr) (i:Nat):Fr:=(F.drop (64*i)).take 64
def Bl (F:Fr)(i:Nat)(R:Fr):Prop:=PB (wn F i) xvP R
def gc (F:Fr)(i):F.take (64*i)++xvP=F.take (64*(i+1)):=by
 unfold blk;rw [xae (64*(i+1)) (64*i+64) (Nat.mul_succ 64 _),IH]
def p8 (h:64*i≤F.length):xbz (wn F i) 192:=by
 unfold wn;rw [C6,Dd];lia
def rZ {F:Fr}(h:64*(i+1)≤F.length):Wr i (wn F i) xvP=wn F (i+1):=by
 unfold Wr wn;by_cases z:(i+1)%4=0
 ·rw [Dq z,ED];show xam Dd
 ·rw [Dc z,<-gc,ES (by show xam Dd),xae ((i+1)/4) (i/4) (Nat.succ_div_of_mod_ne_zero z)]
def rq {F:Fr}(h:64*(i+1)≤F.length):xat xvP 64:=by
 unfold blk;rw [Dd,C6];lia
def vc {F:Fr}(h:64*(i+1)≤F.length)(hb:xgH F):TW xvP (wn F i):=
 ⟨λ x hx=>xnL xGX,by rw [rq h];decide,by rw [rq h];decide,λ x hx=>xnL (DN xCg),p8 (Nat.le_of_add_right_le h)⟩
inductive Ur (Tb C CO CK:JB) (vs:KB) (H:Hp) (Q:VK) (JT:XK):Prop
 |mk (p a co ck:JB) (A:Fr) (bg:Bool) (T:Fr) (h0:vs=[Φ,SZ]) (h1:xtu C H p co ck A bg) (h2:Uf=xbJ) (h3:(xkt)) (h4:xbH (xbq A T)) (h5:xlQ) (h6:∀(l:JB) (Rs:xfP) (H':Hp),Θ->xnu+Rs.length=nb (A++T)->(∀j R,xaH Rs j R->Bl (A++T) (xnu+j) R)->xaq=ω (xxR xm7)->xtu C H' p co ck (A++T) true->(∀e o,xdB e->H e=Id->xn5->e≠co->e≠ck->H' e=Id)->xnp->xak):Ur Tb C CO CK vs H Q JT
def LN:Ps ["self","text","signs","told","begin"] xud pS:=M2
def sR (F:Υ "feed" "Presser.feed" pS)(Z:VB K mg B D G' CW C0 C1 C2 C3 c CK J4 CO C)(hC:xlV)(Qh:xj3)(hK:xlz):Α 42 xud (Ur Tb C CO CK):=by
 have T0:=Z.T;have X:=Z.Cr.Y.Z.X.R.X;show Η Un Z.un Mo Z.mark;obtain⟨_,_,Nx⟩:=Z.next;obtain⟨tb,Xq⟩:=Z.bs;show Η W Z.Cr.Y.Z.whole Ri Z.Cr.Y.Z.isrow;show xmQ Nr Z.Cr.Y.Z.needrow LN (λ JN A outer st H vs Q E hr h=>?_)
 intro _;obtain⟨p,a,co,ck,A',bg,T,rfl,hP,ha,MU,hlen,hT,k⟩:=h;have J5:xa0:=PP;have OP:xan 4:=PP;refine xaT (xcz (xo2 Os Un (yW Un.F T0) J5) (xaz 2 LN.nd (xcB XL (xbQ (bG Nr Z.Cr.Y.Z.X.R) OP Nr KM)) (xaz 3 LN.nd (xo2 Os Mo (rK Mo.F T0 X) J5) (xdj 4 LN.nd aj (xpu oM (xf2 xGM υ) (xaF 64 Xq tb) (xcz (xfj Fm FM dI UF (xGA Nx (rX Nx.F Z hC Qh hK) hr (xa7 (xsr On υ (xbA υ (xaF 64 Xq tb)))))) (xij 4 LN.nd (xbA υ (xaF 64 Xq tb))))) (xdu (xq8 On υ bF) (xcc UF))))))
 obtain⟨⟨dx,wt,g,hp,hw,Qx⟩,hA⟩:=id hP;show xds ⟨_,rfl,p,dx,_,rfl,hp,xgh,p,dx,co,wt,bg,rfl,hp,χ⟩;refine xeq ⟨_,rfl,p,C,dx,_,_,rfl,hp,T0.cl,T0.nW,xhX,_,rfl,a,T,rfl,ha,MU,LE l1 n1⟩
 have s1:=xas xg5 n1;have MO:xbC H l1 xg5 l1=xbJ:=ac;show xbb H l1 xg5 H1;have hn64:64*xdv≤A'.length:=by unfold nb;exact Jz _ 64
 show xbI ⟨wt,l1,_,_,rfl,rfl,xch hw,MO,a9 (by rw [CM,CM,C6];rw [CN] at hlen;omega),xdX l2 n2⟩;have e2:Wp (A'.drop (64*xdv))++xg5=Wp (xr9 A' T (64*xdv)):=by rw [<-C8,ES hn64]
 rw [e2];have s2:=xbG (xr9 A' T (64*xdv)) n2;have Oz:xct H1 l2 (xr9 A' T (64*xdv)) l2=ω (xr9 A' T (64*xdv)):=ac;have V6:=xe4;show xdS H1 l2 (xr9 A' T (64*xdv)) H2;clear s1 s2 n1 n2 MO;have J9:=V6 _ _ hp;have O4:xlE H2 g ((xpW).take (64*xdv)) xdv (wn xpW xdv):=by
  have e:(xpW).take (64*xdv)=A'.take (64*xdv):=Ed hn64;have e':wn xpW xdv=wn A' xdv:=by show xbk wn e
  rw [e,e'];exact Qx.keep λ c o z _=>V6 _ _ z
 have hF:∀y∈xpW,xbN y:=λ y hy=>xml hy (hA y) (MU y)
 have hnF:xdv≤nb xpW:=by unfold nb;show xam CN
 have hFl:64*nb xpW≤xbq A' T/\xbq A' T<64*nb xpW+64:=by unfold nb;show xaI (Jz _ _) (Nat.lt_mul_div_succ _ Z9)
 show xqI xpW F' xdv n0;show xds ⟨_,rfl,p,dx,_,rfl,J9,xgh,p,dx,co,wt,bg,false,rfl,J9,λ l3 H3 n3 Kz Lo Kc=>χ⟩;show xvu;obtain⟨Sq,MX⟩:=O4.ob;obtain⟨dk,SE⟩:=O4.ch;have Ym:xaP co:=LT (by show xyn z J9 MX MX MX;injection MX with _ _ z;cases(xJV z))
 have S7:xaP ck:=LT (by show xyn z J9 SE SE SE;injection SE with _ _ z;have:=xeI z;cases this)
 have Vc:xaP g:=aF O4.gr J9 (by show τ);have nl2p:xaP l2:=aF Oz J9 (by show τ);have nH3:XV l3:=none_of V6 n3;refine xeq (xac (λ m σ H4=>∃j Rs g4,m=xrJ-(n0+j)/\σ=[xeV,xbv,ST l2,ST l3,SB (64*j)]/\n0+j≤xrJ/\Rs.length=j/\xIG (69*j)/\(∀i R,xad Rs R->Bl F' (n0+i) R)/\H4 l3=ω (xxR xm7)/\H4 l2=ω (xGj n0)/\
   H4 p=xbT xJX/\xlE H4 g4 (F'.take (64*(n0+j))) (n0+j) (wn F' (n0+j))/\(∀e o,xdB e->H e=Id->xn5->e≠co->e≠ck->H4 e=Id)/\xwO H4) ⟨xrJ-n0,0,[],g,rfl,rfl,hnF,rfl,Ω,λ i R e=>by simp at e,by show xbD Lo,xaK Oz nl2p,Kz,O4.keep λ e o z hz=>xaK z (by show xp1 hz rfl rfl;exact Ym;exact S7;exact Vc),
   λ e o _ z n _ _=>xaK (V6 _ _ z) n,dD (hT.same V6) λ e o z hn _=>xaK z (xkm J9 (xnD _ _))⟩)
 rintro m σ H4 ⟨j,Rs,g4,rfl,rfl,hj,QZ,hR69,QY,XZ,VX,QT,SF,fr4,YQ⟩;refine⟨_,rfl,l2,_,rfl,Ο VX,_,rfl,_,_,rfl,rfl,_,_,rfl,rfl,_,rfl,xec hc hc⟩
 ·clear g1;have YI:64*(n0+j+1)≤F'.length:=by
   show xeo (C5 hc) CM C6;lia
  have hjb:n0+j+1≤xrJ:=Z5;refine xDg;have tw:=vc (i:=n0+j) YI hF;have e64:KF (64*j)+64=KF (64*j+64):=Z5;refine xon g2 ⟨_,rfl,xeD XZ,_,rfl,p,dx,_,rfl,QT,xgh,_,rfl,_,rfl,_,rfl,_,rfl,_,_,rfl,rfl,_,rfl,l2,_,rfl,JS.of VX,LE ls nls⟩
  try dsimp only
  rw [e64,lz _ Z5 (by rw [CM,C6];lia),xae (64*j+64-64*j) 64 (FJ _ 64),<-Fa,EB,<-E1,show 64*n0+64*j=64*(n0+j) by lia];have s5:=xbG (xDc (n0+j)) nls;have hls:xct H4 ls (xDc (n0+j)) ls=ω (xDc (n0+j)):=ac;have e5:xfv H4 ls ((xGj (n0+j)).take 64)=xfv H4 ls (xDc (n0+j)):=rfl;rw [e5];clear e5;show xdS H4 ls (xDc (n0+j)) H5;have Tq:=YQ.same s5;refine⟨p,dx,co,wt,ck,g4,ls,true,false,_,_,_,n0+j,rfl,xar QT,SF.keep λ e o z _=>xar z,hls,tw,Tq,λ l6 g6 R H6 n6 ng6 pb Vq Xx Xd hT6=>?_⟩;have hR:=xEr;have SA:=xar XZ;have X0:=xar VX;show xmL Sg (xar QT) dxo4 X6 SF.ob;obtain⟨dk4,hck4⟩:=SF.ch;have nlst:∀{e} {xs},H5 e=xb8->H6 e=xb8:=LT (Xd _ _ (Tq.ne z (by intro ps y;cases y)) z (xkm (xar X6) (by show xgp y y)) (xkm (xar hck4) (by show xgp y y)))
  have MW:=nlst SA;have hl26:=nlst X0;have Xf:=Xd _ _ (Tq.ne Sg (by intro ps y;cases y)) Sg Ym.symm S7.symm;show xfp ⟨l3,l6,_,_,rfl,rfl,MW,Vq,a9 (by
   have Vm:xbz xm7 3:=by cases bg<;>decide
   rw [CM,CM,CN];lia),xcG⟩;have n36:l3≠l6:=ad SA n6;have nl23:l2≠l3:=by
   intro z;show xba z Oz n3 n3
  have e66:KF (64*j)+64=KF (64*(j+1)):= xeg;refine⟨_,rfl,_,_,rfl,rfl,xrJ-(n0+(j+1)),xFs hjb,j+1,Rs++[R],g6,rfl,?_,hjb,by show xBS,?_,xda i R',?_,?_,?_,?_,λ e o n z n1 n2 n3'=>?_,?_⟩
  ·try dsimp only
   rw [e66];rfl
  ·rw [Gy,CN,show [R].flatten=R by simp];have:=hR.2;exact G2 hR69 hR.2
  ·show xaX i Rs.length h h
   ·show UV (DW h) e (QY i R' e)
   ·rw [DC h] at e;have ZH:i-Rs.length=0:=by
     rcases FL (i-Rs.length) with q|q
     ·exact q
     ·show xnZ (DH (by show xBS))
    show xnZ ZH;have:i=j:=(Dy (xwA ZH) h).trans QZ;show IO this pb
  ·rw [ac,Gy,<-CQ,C8 (l₁:=xxR xm7)];simp
  ·show Ty nl23 hl26
  ·show Ty (aF Xf MW (by show τ)) Xf
  ·rw [show n0+(j+1)=n0+j+1 by lia,<-gc,<-rZ YI];refine Xx.keep λ e o z hz=>?_
   show xwI X4 Xx.ob X9 Xx.ch;show Ty (by
    show xp1 hz rfl rfl
    ·exact aF X4 MW (by show xgp y y)
    ·exact aF X9 MW (by show xgp y y)
    ·exact xbP SA ng6) z
  ·show xh3 z nH3 (Xd _ _ n (xar (fr4 _ _ n z n1 n2 n3')) n2 n3')
  ·exact dD hT6 λ e o z _ hn=>by
    show Ty (xkm MW xnD) z
 ·have hnb:n0+j=xrJ:=by
   have h1:¬(SL 64≤xfD (Wp (xGj n0))-KF (64*j)):=LT (hc xsf)
   rw [CM,C6] at h1;lia
  show xbI χ;refine⟨_,rfl,_,rfl,_,rfl,l2,_,rfl,JS.of VX,LE lw W8⟩
  try dsimp only
  rw [dm,<-Fa,EB,show 64*n0+64*j=64*xrJ by lia];obtain⟨dxo4,X6⟩:=SF.ob;show xpq dk4 hck4 SF.ch s5 (xbG xze W8);have X5:=xar X6;have hlw:xct H4 lw xze lw=ω xze:=ac;have Sg:=xar QT;have Tq:=YQ.same s5;have hCo5:=SF.keep (H':=xfv H4 lw xze) λ e o z _=>xar z
  have SA:=xar XZ;have Qj:∀e o,xdB e->H e=Id->xn5->e≠co->e≠ck->xct H4 lw xze e=Id:=λ e o n z n1 n2 n3=>xar (fr4 _ _ n z n1 n2 n3)
  show xdS H4 lw xze H5;refine⟨_,rfl,p,C,dx,_,rfl,Sg,T0.cl,T0.nW,xkC,?_⟩;rw [oJ];have K9:∀{e} {xs},H5 e=xb8->xn5:=LT (xkm Sg (by show xgp y y))
  refine xbd (k l3 Rs _ nH3 Z5 QY (by show Ty (K9 SA) SA) ⟨⟨dx,lw,g4,ac,by show Ty (K9 hlw) hlw,?_⟩,hF⟩ (λ e o n z n1 n2 n3=>by show Ty n1 (Qj _ _ n z n1 n2 n3)) (dD Tq λ e o z hn _=>by show Ty (xkm Sg (xnD _ _)) z))
  ·show xa5 hnb (hCo5.keep λ e o z hz=>by
    show Ty (by show xp1 hz rfl rfl;exact Ym;exact S7;exact K9 hCo5.gr) z)
def LB (A R:Fr):Prop:=(A.length%64=0/\R=[])\/(A.length%64≠0/\PB (wn A xnu) (A.drop (64*xnu)) R)
def sK (hb:xgH A)(h:A.length%64≠0):TW (A.drop (64*xnu)) (wn A xnu):=
 ⟨λ x hx=>xnL xCg,by rw [C6];unfold nb;exact by show xa5 G5 (HJ h),by rw [C6];unfold nb;exact by show xa5 G5 (Dr xnx),λ x hx=>xnL (DN xCg),p8 (by unfold nb;exact Jz _ 64)⟩
inductive WM (Tb C CO CK:JB) (vs:KB) (H:Hp) (Q:VK) (JT:XK):Prop
 |mk (p co ck:JB) (A:Fr) (bg:Bool) (h0:vs=xaO) (h1:xtu C H p co ck A bg) (h2:xbH A.length) (h3:xlQ) (h4:∀(l:JB) (R:Fr) (H':Hp),Θ->LB A R->xaq=ω (xm7++R++xAh A.length A)->(∀e o,xdB e->H e=Id->xn5->e≠co->e≠ck->H' e=Id)->xnp->xak):WM Tb C CO CK vs H Q JT
def Uw:xqK (xjb "told") u6:=M2
def wu (F:Υ "finish" "Presser.finish" u6)(Z:VB K mg B D G' CW C0 C1 C2 C3 c CK J4 CO C)(hC:xlV)(Qh:xj3)(hK:xlz):xfF 42 (WM Tb C CO CK):=by
 have T0:=Z.T;have X:=Z.Cr.Y.Z.X.R.X;show Η Un Z.un Mo Z.mark;show Η Nx Z.next Ta Z.Cr.tail;show xau Uw (λ JN A outer st H vs Q E hr h=>?_);obtain⟨p,co,ck,A',bg,rfl,⟨⟨dx,wt,g,hp,hw,Qx⟩,hA⟩,hlen,hT,k⟩:=h;have J5:xa0:=PP;have Vh:xan 9:=PP;show xnf (xcz (xo2 Os Un (yW Un.F T0) J5) (xdu dl (xaU 1 Uw.nd (xo2 Os Mo (rK Mo.F T0 X) J5) (xgs cB xGL aj (aB (xfj Fm FM dI KM (xGA Nx (rX Nx.F Z hC Qh hK) hr xCj))) az) (xcB KM (bj XL Z.Cr.cl Ta (oV Ta.F Z.Cr) Vh))))) ⟨_,rfl,p,dx,_,rfl,hp,xgh,p,dx,co,wt,bg,rfl,hp,χ⟩;obtain⟨Sq,L6⟩:=Qx.ob;obtain⟨dk,OS⟩:=Qx.ch;have Ym:xaP co:=LT (by show xyn z hp L6 L6 L6;injection L6 with _ _ z;cases(xJV z))
 have S7:xaP ck:=LT (by show xyn z hp OS OS OS;injection OS with _ _ z;have:=xeI z;cases this)
 have Vc:xaP g:=xpX Qx.gr (by show τ);have W6:xaP wt:=xpX hw (by show τ);show xds ⟨_,rfl,p,C,dx,_,rfl,hp,T0.cl,T0.nF,xkC,χ⟩;rw [uO];have Kq:(xdh H xBE) p=xbT xBE:=ac;have k1:∀e o,H e=Id->xn5->(xdh H xBE) e=Id:=λ e o z n=>by show Ty n z
 show xbB no1 (∀e,Ζ ((xdh H xBE) e)->XV e) (λ e z=>by
  by_cases n:e=p
  ·show xba n Kq z z
  ·show UV xnM z z) (xdh H xBE) H1;show xds ⟨_,rfl,p,dx,_,rfl,Kq,xgh,p,dx,co,wt,bg,true,rfl,Kq,λ l3 H3 n3 Kz Lo Kc=>χ⟩;have k3:∀e o,H e=Id->xn5->H3 e=Id:=λ e o z n=>xaK (k1 _ _ z n) n
 have nH3:=no1 _ n3;have VZ:xlE H3 g (A'.take (64*xdv)) xdv (wn A' xdv):=Qx.keep λ e o z hz=>xiP z (by show xp1 hz rfl rfl;exact Ym;exact S7;exact Vc)
 have Ve:=xiP hw W6;have hT3:xwO H3:=dD hT λ e o z hn _=>xiP z (xkm hp (xnD _ _))
 clear Kc k1 Kq no1;refine xbu
 have J:∀R S G b g5 H5,LB A' R->S=A'->xlE H5 g5 S b G->xxP 100->H5 l3=ω (xm7++R)->H5 p=xbT (xxJ true)->(∀e o,xdB e->H e=Id->xn5->e≠co->e≠ck->H5 e=Id)->xwO H5->R1 [xeV,ST l3] H5:=by
  intro R S G b g5 H5 YV eS hC5 hR Vr Sg Qj Tq;subst eS;refine χ;show xbp dxo5 X5 hC5.ob ⟨_,rfl,_,rfl,p,C,dx,_,_,rfl,Sg,T0.cl,T0.nC,xqu,co,dxo5,_,rfl,X5,iw _ _ _ _,co,ck,g5,_,G,b,rfl,hC5,λ lt H6 nt W5 JO=>?_⟩;refine⟨l3,lt,_,_,rfl,rfl,W5 _ _ Vr,JO,a9 (by
   have Vm:xbz xm7 3:=by cases bg<;>decide
   rw [CM,CM,CN];show xiE (_+11);lia),xf7⟩
  have s67:=xas (Wp (xm7++R)++Wp (xAh S.length S)) nl;refine xdE R _ ?_ YV (by rw [ac,<-C8]) (λ e o n z n1 n2 n3=>s67 _ _ (W5 _ _ (Qj _ _ n z n1 n2 n3))) ((Tq.same W5).same s67);have n5:Ζ (H5 l):=xoM W5;cases e:H l with
  |none=>rfl
  |some o=>
   exfalso;by_cases z1:l=p
   ·show xba z1 Sg n5 n5
   ·by_cases z2:l=co
    ·show xba z2 X5 n5 n5
    ·by_cases z3:l=ck
     ·obtain⟨_,hk5⟩:=hC5.ch;show xba z3 hk5 n5 n5
     ·by_cases z4:l=Tb
      ·obtain⟨ps,h,_⟩:=Tq;show xba z4 h n5 n5
      ·show Tl (Qj _ _ z4 e z1 z2 z3) n5 n5
 clear g1;refine⟨_,rfl,p,C,dx,_,_,rfl,Kz,T0.cl,T0.nW,xhX,wt,_,rfl,Ο Ve,_,_,rfl,rfl,_,rfl,xec hc hc⟩
 ·have h0:A'.length%64≠0:=by
   show xeo (C5 hc) CM C6;unfold nb at this;omega
  have tw:=sK hA h0;show SC ⟨_,rfl,xeD Lo,_,rfl,p,dx,_,rfl,Kz,xgh,_,rfl,p,C,dx,_,_,rfl,Kz,T0.cl,T0.nW,xhX,?_⟩ ⟨p,dx,co,wt,ck,g,wt,true,true,_,_,_,xdv,rfl,Kz,VZ,Ve,tw,hT3,λ l6 g6 R H6 n6 ng6 pb Vq Xx Xd hT6=>?_⟩;have hR:=xEr.2;have X7:=VZ.ob;have X':=VZ.ch;show xwI X7 X7 X' X';have MW:=Xd _ _ (hT3.ne Lo (by intro ps y;cases y)) Lo (aF Lo X7 (by show xgp y y)) (aF Lo X' (by show xgp y y));have Xf:=Xd _ _ (hT3.ne Kz (by intro ps y;cases y)) Kz Ym.symm S7.symm;show SC ⟨l3,l6,_,_,rfl,rfl,MW,Vq,a9 (by
   have Vm:xbz xm7 3:=by cases bg<;>decide
   rw [CM,CM];lia),?_⟩ (J R _ _ _ g6 _ (xcv h0 pb) (Dw _ _) (Xx.keep λ e o z hz=>?_) (xc9 hR) (by rw [ac,C8]) (by show Ty (aF Xf MW (by show τ)) Xf) (λ e o n z n1 n2 n3'=>?_) (dD hT6 λ e o z _ hn=>by show Ty (xkm MW xnD) z))
  ·show xwI X4 Xx.ob X9 Xx.ch;show Ty (by
    show xp1 hz rfl rfl
    ·exact aF X4 MW (by show xgp y y)
    ·exact aF X9 MW (by show xgp y y)
    ·exact xbP Lo ng6) z
  ·show xh3 z nH3 (Xd _ _ n (xiP z n1) n2 n3')
 ·have h0:A'.length%64=0:=by
   have h1:¬(xcQ<xmt (Wp (A'.drop (64*xdv)))):=LT (hc xsf)
   rw [CM,C6] at h1;unfold nb at h1;omega
  refine J [] _ _ _ g H3 (.inl (xbn h0)) (Dv (by unfold nb;lia)) VZ Z9 (by show IO DM Lo) Kz (λ e o _ z n _ _=>xiP z n) hT3
def WH (T Z:Fr):Prop:=∃(Rs:xfP) (R:Fr),Rs.length=nb T/\(∀j R,xaH Rs j R->Bl T j R)/\LB T R/\Z=xxR [184,66,1]++R++xxp T
inductive N9 (Tb:JB) (vs:KB) (H:Hp) (Q:VK) (JT:XK):Prop
 |mk (a:JB) (T:Fr) (h0:vs=xbU) (h1:Uf=xbJ) (h2:(xkt)) (h3:xxa) (h4:xlQ) (h5:∀(l:JB) (Y:Fr) (H':Hp),Θ->WH T Y->xaq=Ι xjl->(∀e o,xdB e->H e=Id->H' e=Id)->xnp->xak):N9 Tb vs H Q JT
def Ml:Ps ["text","presser","bale"] xGr jD:=M2
theorem nz (hb:xgH F):∀(Rs:xfP) i,i+Rs.length≤nb F->(∀j R,xaH Rs j R->Bl F (i+j) R)->xIG (69*Rs.length)
 | [],_,_,_=>Ω
 |R::Rs,i,h,hR=>by
  rw [Df] at h;have h1:=nz hb Rs (i+1) Z5 λ j R' e=>by
   have:=hR (j+1) R' (by show xzo);show IO (show i+1+j=i+(j+1) by lia) this
  have h0:Bl F i R:=hR 0 R rfl;have h2:=(h0.facts (vc (by unfold nb at h;lia) hb)).2;rw [Es,CN,Df];lia
def LB.len (h:LB A R)(hb:xgH A):xxP 69:=by
 rcases h with⟨_,rfl⟩|⟨h0,h⟩
 ·decide
 ·exact(h.facts (sK hb h0)).2
def qI (F:Ε "pressed" jD xGr)(Z:VB K mg B D G' CW C0 C1 C2 C3 c CK J4 CO C)(hC:xlV)(Qh:xj3)(hK:xlz):Α 43 xGr (N9 Tb):=by
 have T0:=Z.T;show xjf bI MI Z.init;show Η Fe Z.feed Fi Z.finish;show xbj Ml (λ JN A outer st H vs Q E hr h=>?_);obtain⟨a,T,rfl,ha,hb,hl,hT,k⟩:=h;have Se:xan 7:=PP;show xbf (xaz 1 Ml.nd (xp2 (on FI Z) Se T0.m bI a7) (xaz 2 Ml.nd (xwW T0.cl Fe (sR Fe.F Z hC Qh hK) hr xgA) (xcc (xcB On (xo2 KM Fi (wu Fi.F Z hC Qh hK) hr))))) xbu
 intro p dp np Qe UO;have s0:=xh8 C np Qe;show xbI (xay p dp ac (λ co ck H1 Sa OJ hP Lm=>xb2 χ));have s1:xnk:=λ e o z=>Lm _ _ (xhz z) (ad z np)
 have ncoH:=xgu Sa;have OA:=xgu OJ;clear Lm s0;refine xbu
 obtain⟨⟨LF,Yg,gg1,Kq,_,_⟩,_⟩:=id hP;show xbI ⟨_,rfl,p,LF,_,rfl,Kq,xgh,_,rfl,p,a,co,ck,[],false,T,rfl,hP,xln,hb,hl,xBj,λ l Rs H2 nl QZ QY Kg hP2 fr2 Sl=>χ⟩;obtain⟨⟨Ql,wt2,gg2,J9,_,_⟩,_⟩:=id hP2;have hRl':Rs.length=nb T:=by
  have:nb ([]:Fr)=0:=rfl;rw [this,Er] at QZ;exact QZ
 have hRs':∀j R,xaH Rs j R->Bl T j R:=λ j R e=>by
  show xgF (QY j R e) (xae (nb ([]:Fr)+j) j (Er j))
 refine⟨_,rfl,_,rfl,p,Ql,_,rfl,J9,xgh,p,co,ck,T,true,rfl,hP2,hl,Sl,λ l5 R H5 nl5 YV Vr Qj Tq=>?_⟩;have K9:∀{e} {xs},H2 e=xb8->xn5/\e≠co/\e≠ck/\xdB e:=LT (by
  obtain⟨⟨_,_,_,h,_,Qx⟩,_⟩:=hP2;show xwI L6 Qx.ob OS Qx.ch;show xaC (xkm h (by show xgp y y)) (xkm L6 (by show xgp y y)) (xkm OS (by show xgp y y)) (Sl.ne z (by intro ps y;cases y)))
 obtain⟨m1,m2,m3,m4⟩:=K9 Kg;have X0:=Qj _ _ m4 Kg m1 m2 m3;have hfl:=nz hb Rs 0 Z5 λ j R e=>by show IO Er (hRs' j R e)
 have W0:=YV.len hb;have hnb:nb T≤15:=by unfold nb;lia
 have ht11:xat (xxp T) 11:=rfl;refine⟨l,l5,_,_,rfl,rfl,X0,Vr,a9 (by
  rw [CM,CM,CN,CN,CN,ht11];show xiE (3+_+(0+_+11));lia),LE l6 n6⟩
 have s6:=xas (Wp (xxR (mk false))++Wp (mk true++R++xxp T)) n6;have frA:∀e o,xdB e->H e=Id->H5 e=Id:=λ e o n z=>by
  have n1:xn5:=ad z np;have n2:e≠co:=ad z ncoH;have n3:e≠ck:=ad z OA;exact Qj _ _ n (fr2 _ _ n (xch z) n1 n2 n3) n1 n2 n3
 refine k l6 _ _ (iW Tq frA n6) ⟨Rs,R,hRl',hRs',YV,rfl⟩ ?_ (λ e o n z=>xcj (frA _ _ n z)) (Tq.same s6);rw [ac,<-C8];show some (HO.lst (Wp (xxR [184,66,1]++([]++R++xxp T))))=_;rw [D3,<-CQ]
universe K31.Ck
namespace HT
open PySem PySem.Spec PyProof.Rows
def LZ {lo hi:xce}{Q:Κ}(ht:xAI t items)(hs:xDJ vl vu .none)(pl:xFJ lo)(pu:xFK hi)
  (hw:xfZ=0/\xlw=items.size) (h:Q xfc s):xd7 (getItem xfc xxt):=by
 show xmN os Xg Qu ZJ hs;have hTs:s.TypeIs xxt "slice":=⟨os,Xg,Qu⟩;unfold getItem
 try with_reducible refine EK ?_
 first|show xaG xdO|skip
 show xc1 (xLe Z9 ?_) (EM (name:=xLj) ht.typeIs Eu
  (FO Eu ht.typeIs entry_tuple_getitem ?_ (xLM _)))
 show xel (xK7>>= _) s;show xc1 (tupleItemsOf_ ht ?_) (wpAny_typeOf hTs ?_);show xhF (Dq Z9) (dQ hs pl pu ?_);have hyes:NE (KF xfZ==0&&xcr==1&&xFC (xlw-xfZ)):=by
  rw [hw.1,hw.2];simp
 show xpc (KF xfZ==0&&xcr==1&&xFC (xlw-xfZ)) s;show xhF (Dq hyes) ?_;show xjB Builtin.Tuple.tupleIsExact (wpAny_typeOf ht.typeIs xdO);show xhF (Dq (by rfl)) (F3 ?_)
 first|exact xDi|exact Dl (xbd h)
universe HT
namespace L2
open PySem PySem.Spec PyProof.Rows QQ
def Bj (K:Frag):V->xce->xce->Hp->xeS:=λ x lo hi H Q=>∃a xs,x=SZ/\xkw a xs/\xtg=0/\xoO xCq/\Q SZ H
def yD:VA X (Bj X.K):=by
 intro JM s σ H x v vl vu lo hi sl Q I rx hs pl pu h;obtain⟨a,xs,rfl,hx,h1,h2,q⟩:=h;cases rx;show xkT its r ht hz hx;have hlen:xMa:=by show IO Dg r.length.symm
 refine⟨"tuple",_,Eu.lookup,ht.typeIs,?_⟩;exact HT.LZ ht hs pl pu (by show IO hlen ⟨h1,h2⟩) (xc4 SZ H I q)
def yS (K:Frag):R2:=λ x y H Q=>∃(p q:JB) (ns ms:xjr),x=Φ/\y=xva/\xkw p xdk/\xkw q xAq/\ns.length=ms.length/\xeX (! xcp ns ms)
def xF {X:Cx}(hu:xmy 64<cLine):xFW (yS X.K):=by
 intro JM s σ H x y v u Q I rx ry h;obtain⟨p,q,ns,ms,rfl,rfl,ha,hb,hl,k⟩:=h;show xgk rx ry;show xkT its rv pl hz ha;show xkT K6 Qd U7 NU hb;show xo0 l1;have l2:=Qd.length;rw [CM] at l1 l2;refine SeqAt.RcNeAt.tuples (e:=xd9 j (ns[j]?=ms[j]?)) (xDU p its.toArray pl) (xDU q K6.toArray U7) (by omega) (Sc j h1 h2) _ _ _ _ ?_
 ·have j1:xxY j:=by simp at h1;omega
  have j2:j<ms.length:=by omega
  obtain⟨u1,e1,r1⟩:=xBG j (x:=V.int ns[j]) (by simp [j1]);obtain⟨u2,e2,r2⟩:=Qd.get (i:=j) (x:=V.int ms[j]) (by simp [j2]);have g1:its.toArray[j]=u1:=by
   show xFD z e1;show xmY
  have g2:K6.toArray[j]=u2:=by
   show xFD z e2;show xmY
  rw [g1,g2];have e:=vK (A:=X.A.in1) (s:=s) r1 r2 rfl rfl;have ee:eqV (V.int ns[j]) (V.int ms[j])=xcp ns[j]? ms[j]?:=by
   rw [CU j1,CU j2];show(ns[j]==ms[j])=_;show xbD Hd
  show UV ee e e
 ·refine xiU (.bl _) I ?_ k;show xED=xED;congr 1;congr 1;rw [Dg,Dg,<-l1,<-l2,<-hl,Nat.min_self,Hd];simp only [IA,List.all_eq_true,G1,decide_eq_true_eq,beq_self_eq_true,and_true];refine⟨LT (EF (xcl j)),λ z j _=>by rw [z]⟩;show xaX j ns.length q q
  ·exact z j q
  ·rw [DH q,DH (by omega)]
universe L2
namespace K31.Ck
open PySem L2 QQ W17 W16 BP
seal PE PA PS PSs PT PW PG PI
abbrev qA:JL:=xaD 35 3
abbrev qe:JL:=xDd 3
abbrev gY:JL:=top 117
abbrev hV:JL:=top 118
abbrev lX:JL:=top 119
abbrev ie:JL:=top 120
structure Wv (K:Frag)(mg:W1)(C J4 CO:JB):Prop where
 H:WA K mg C J4
 R:S4 K mg C CO
 tuple:xfQ "tuple"
 mark:∃d,mg "MARK"=xlJ/\∀H,xkw d [xyZ,xzU,vN 1]
 signs:∃t,mg "BLOCK_SIGNS"=xcf 64
 tbytes:∃t,mg "TAIL_BYTES"=xcf 11
 headof:TD "head_of" gB Jam
 bsize:TD "block_size" dn xuQ
 nmark:TD "need_mark" gY xGs
 nexth:TD "next_head" hV xFy
 partat:TD "part_at" lX xER
 nlast:TD "need_last" ie ["bale","end"]
 ctwin:∃f fd,xg2 "twin" "Check.twin" qA
 otwin:∃f fd,xpn CO "twin" "Course.twin" qe
abbrev mk3:Fr:=[184,66,1]
inductive Nj (vs:KB) (H:Hp) (Q:VK) (JT:XK):Prop
 |mk (a:JB) (B:Fr) (h0:vs=xbU) (h1:Uf=xf1) (h2:xwR=mk3.take B.length) (h3:xwr):Nj vs H Q JT
def Nv:Ps ["bale","begin"] xGs gY:=M2
def oW (F:Ε "need_mark" gY xGs)(Z:Wv K mg C J4 CO):xey xGs Nj:=by
 have X:=Z.H.N.X;show xa8 d hm hd Z.mark (F.F.ok Nv λ JN A outer st H vs Q E hr h=>?_)
 intro _;obtain⟨a,B,rfl,ha,hB,k⟩:=h;show xvt hu;show xbf (xdQ 1 Nv.nd (bO kb Z7 Z.tuple PyProof.Rows.boot_tuple (xa7 (xwf Os bF (xja (xCu xm2 Z7 hm))))) (xgW (xF hu) KM (aS (VA.or zI yD) (xCu xm2 Z7 hm) bF (aO (xja KM))))) (xiV ⟨_,rfl,d,_,rfl,.inr (hd H),_,rfl,a,_,rfl,JS.of ha,xf7⟩)
 have ec:xvI xe2 (xfD ([xyZ,xzU,vN 1]:KB))=xCD:=by rw [xdw (xmt ([xyZ,xzU,vN 1]:KB)) (KF 3),dS,E1]
 rw [ec];have s1:=xbG xwR nl;show xe6 (xdm l _ (.inl ⟨xxS,λ t nt=>xbw⟩)) g;have s2:=xth xCD;have ht:(xbE (xfv H l xwR) t xCD) t=xcd xCD:=ac;have Lv:=xe4;generalize xbE (xfv H l xwR) t xCD=H2 at*;obtain⟨n,hn,eB⟩:∃n,n<4/\xwR=mk3.take n:=⟨min B.length 3,by lia,by show IO hB (xLx (by show min _ 3=min (min _ 3) 3;lia))⟩;rw [eB] at ht;refine⟨_,rfl,_,rfl,t,_,rfl,.inr xoU,_,rfl,?_⟩;have fin:∀q H3 (R:VK),xsB H3->Kk K H3 q (Wp (mk3.take n))->R xE3 H3->yS K xfc xva H3 R:=λ q H3 R s3 hq r=>by
  have ht3:=xbL ht;rw [iV] at ht3 hq;show xfW ⟨t,q,_,_,rfl,rfl,Kk.of ht3,hq,rfl,?_⟩ xmE r
 match n,hn with
 |0,_=>show xaN ⟨d,_,rfl,hd H2,(by rintro⟨_,z⟩;show xaW z (by decide)),λ q nq=>fin q _ _ xEZ xBB (xyt (xcF xIO))⟩
 |1,_=>show xaN ⟨d,_,rfl,hd H2,(by rintro⟨_,z⟩;show xaW z (by decide)),λ q nq=>fin q _ _ xEZ xBB (xyt (xcF xIO))⟩
 |2,_=>show xaN ⟨d,_,rfl,hd H2,(by rintro⟨_,z⟩;show xaW z (by decide)),λ q nq=>fin q _ _ xEZ xBB (xyt (xcF xIO))⟩
 |3,_=>show xbX ⟨d,_,rfl,hd H2,rfl,rfl,fin d H2 _ (C'.refl _) (hd H2) (xyt (xcF Lv))⟩
inductive Ng (J4:JB) (vs:KB) (H:Hp) (Q:VK) (JT:XK):Prop
 |mk (x:JB) (a b m:Nat) (h0:vs=[xcy,xiH]) (h1:xgZ=ω xeU) (h2:xbN a) (h3:xfr b) (h4:b=0->a=0) (hm:xdd->m%64=0) (h5:b=0->xwr) (h6:xdd->∀p dx H',Β->H' p=xea J4 (fH (a/64) (a%64+1) b)->xbr Φ):Ng J4 vs H Q JT
def Nu:Ps ["row","many_signs","head"] xFy hV:=M2
def oR (F:Ε "next_head" hV xFy)(Z:Wv K mg C J4 CO):xsF xFy (Ng J4):=by
 obtain⟨_,_,O⟩:=Z.headof;show xcY t64 Kx Z.signs Nu (λ JN A outer st H vs Q E hr h=>?_)
 intro _;obtain⟨x,a,b,m,rfl,hx,ha,hb,Q2,hm,k0,k1⟩:=h;show xbf (xaU 2 Nu.nd (xdy (kq O Z.H) O Os) (xDQ (xBR (xcZ rY On cU) (gz (xok kU (ap bA KM (xaF 64 Kx t64)))))) On) ⟨_,rfl,x,a,b,rfl,hx,ha,hb,Q2,Sc z H1 s1,λ z p dx H1 np s1 hp=>?_⟩
 ·exact xk0 _ _ (bd (xCY (k0 z _ s1)))
 ·have e:xfm%64=0:=Int.ofNat_inj.2 (hm z);refine xk0 _ _ (d8 ⟨_,rfl,_,_,rfl,rfl,(by show xet 64),rfl,_,rfl,?_⟩)
  try dsimp only
  show xeY (xCY (k1 z p dx _ s1 hp))
inductive PN (vs:KB) (H:Hp) (Q:VK) (JT:XK):Prop
 |mk (x:JB) (B r y z:Fr) (p m a b:Nat) (h0:vs=[xcy,vN p,xiH]) (h1:xgZ=xf1) (hp:xfI p) (hB:B.drop p++y=xeU++(r++z)) (h2:xbN a) (h3:xfr b) (h4:b=0->a=0) (hm:xdd->m%64=0) (hl:r.length=xbV b 0 8 (b+2)) (h5:xrD p<xn8->xwr) (h6:xn8≤xrD p->∀t v H',Β->H' t=xcd [v,vN (p+(xn8))]->((b=0/\v=.non)\/(xdd/\∃h,v=xDb))->xbr xfc):PN vs H Q JT
def LU:Ps ["bale","place","many_signs","head_end","head","end"] xER lX:=M2
def tR (F:Ε "part_at" lX xER)(Z:Wv K mg C J4 CO):Α 34 xER PN:=by
 have X:=Z.H.N.X;show Η Nh Z.nexth Bs Z.bsize;obtain⟨t3,h3⟩:=Z.H.three;show xcY t11 MO Z.tbytes LU (λ JN A outer st H vs Q E hr h=>?_)
 intro _;obtain⟨x,B,r,y,z,p,m,a,b,rfl,hx,hpB,hB,ha,hb,Q2,hm,hl,kN,k⟩:=h;have J5:xa0:=PP;refine xaT (xdj 3 LU.nd (xFR (xaF 3 h3 t3)) (xhr dt xx4 UF (xcc cU) az) (xaz 4 LU.nd (xbe (oR Nh Z) hr Nh (xsr Os KM UF) On) (xaU 5 LU.nd (xFR (jy (xcZ gJ υ cU) (xaF 11 MO t11) (xbQ (pE Bs Z.H) J5 Bs υ))) (xhr dt xx4 xaL (xcc cU) az) (xjF υ xaL))))
 have e3:SL p+3=xiX 3:=rfl;refine⟨_,rfl,_,_,rfl,rfl,?_⟩
 try dsimp only
 show Tm e3 (xiV ⟨_,rfl,x,_,rfl,Ο hx,_,rfl,_,_,rfl,rfl,_,rfl,xvH (λ h=>xbw)⟩)
 ·have h:=xbK;show UV CM h (kN (by lia) _ (C'.refl H))
 clear g;have U0:xfI (p+3):=by
  show xaX B.length (p+3) q q
  ·exact xlB (by show xcS)
  ·exact q
 clear h;have ec:xou xe2 (xrk p) (xiX 3)=Wp xeU:=by
  rw [lz _ xdY (by show xes U0),Ex,<-Fa,<-E1];show xc6 (xDI 3 hB) (Ed (by show xam C6));rw [this];rfl
 refine⟨_,rfl,_,rfl,_,rfl,_,rfl,_,rfl,x,_,rfl,JS.of hx,xf7⟩
 try dsimp only
 rw [ec];have s1:=xbG xeU nl;have lt:xsb (xfD xe2) (xiX (xn8))->xrD p<xn8:=λ h=>by
  show xaM h xbK CM h;lia
 have ge:¬(xsb (xfD xe2) (xiX (xn8)))->xn8≤xrD p:=λ h=>by
  show xaX B.length (p+(xn8)) q q
  ·exact xlB (by show xcS)
  ·lia
 refine⟨_,rfl,l,a,b,m,rfl,ac,ha,hb,Q2,hm,Sc z H2 s2,λ z ph dx H2 s2 hph=>?_⟩
 ·have hE:SL p+11=xiX (xn8):=by rw [hl,Dq z];rfl
  have hv:(b=0/\V.non=.non)\/(xdd/\∃h,V.non=xDb):=.inl (xbn z);refine⟨_,rfl,_,rfl,rfl,_,rfl,d8 (xay _ _ rfl ?_)⟩
  try dsimp only
  show Tm hE ⟨_,rfl,x,_,rfl,Ο (xca (xch hx)),_,rfl,_,_,rfl,rfl,_,rfl,aU (λ h=>kN (lt h) _ xe4) (λ h=>xeZ _ (by show xeE) (λ t nt=>k (ge h) t _ _ (xxI (ak nt)) ac hv))⟩
 ·have hE:SL p+KF (b+5)=xiX (xn8):=by rw [hl,Dc (Gq z)];rfl
  have hv:(b=0/\V.ref ph=.non)\/(xdd/\∃h,V.ref ph=xDb):=.inr (xdt z ph);refine⟨_,rfl,_,rfl,rfl,_,rfl,bd ⟨_,rfl,ph,dx,_,_,b,rfl,hph,_,_,rfl,rfl,?_⟩⟩
  try dsimp only
  show Tm hE ⟨_,rfl,x,_,rfl,Ο (xca (xch hx)),_,rfl,_,_,rfl,rfl,_,rfl,aU (λ h=>kN (lt h) _ xe4) (λ h=>xeZ _ (by show xeE) (λ t nt=>k (ge h) t _ _ (xxI (ak nt)) ac hv))⟩
inductive Nk (vs:KB) (H:Hp) (Q:VK) (JT:XK):Prop
 |mk (a:JB) (h0:vs=[SZ,xx0]) (h1:Uf=xzV) (h2:xjN H):Nk vs H Q JT
def qc:Ps ["bale","end"] ["bale","end"] ie:=M2
def pH (F:Ε "need_last" ie ["bale","end"])(Z:Wv K mg C J4 CO):xey ["bale","end"] Nk:=by
 have X:=Z.H.N.X;show xbj qc (λ JN A outer st H vs Q E hr h=>?_);show xjD a rfl ha k;refine xaT (ae (xgW cB xx4 KM));exact⟨_,rfl,a,_,rfl,Ο ha,_,rfl,_,_,rfl,rfl,_,rfl,bd k⟩
inductive RC (C:JB) (vs:KB) (H:Hp) (Q:VK) (JT:XK):Prop
 |mk (p dx:JB) (s:Nat) (h0:vs=xaO) (h1:xa2=xmR 16 s) (h2:∀x dk H',XV x->Β->H' x=xi4 C dk (fC 16 s)->xbr xcy):RC C vs H Q JT
def RK:xqK xI1 qA:=M2
def wg (F:Υ "twin" "Check.twin" qA)(Z:Chk K mg C):xfF 4 (RC C):=by
 obtain⟨X,T,⟨_,_,W⟩,_,_,_,⟨_,_,_,FI,bI,M⟩,_⟩:=Z;show xau RK (λ JN A outer st H vs Q E hr h=>?_);obtain⟨p,dx,s,rfl,hp,k⟩:=h;show xbf (xaU 1 RK.nd (fj M (xJH W T X) hr Z7 T.m bI .nil a7 xCj) (xqA KM XL) KM) ⟨_,rfl,p,C,dx,_,_,rfl,hp,T.cl,T.nW,nK _ _,λ x dk nx Qo V7=>?_⟩;have s0:=xti C Qo;refine⟨x,dk,16,45,rfl,mf,ac,λ H1 hx kp=>xgB⟩;have s1:xnk:=λ b o e=>kp b o (s0 b o e) xrG
 show xfW ⟨_,rfl,p,C,dx,_,_,rfl,xnm,T.cl,T.nS,jN _ _,_,rfl,x,C,dk,_,rfl,hx,T.cl,T.nS,wK _ _,?_⟩ wr (xbd (k x dk _ nx (λ c o e=>by show xf9 nx xb5) ac))
def Br (b m)(ck Wu g):xqM Wu xkD=fO b m Wu g:=by
 show(xc2 (xqZ xfz) (xfz,xdz) (xc2 (xqZ xkQ) (xkQ,xiH) (xgL (xqZ xwS))))=_;rw [Dc Av,Dc Af,Τ];rfl
inductive Ru (CO CK:JB) (vs:KB) (H:Hp) (Q:VK) (JT:XK):Prop
 |mk (p ck g:JB) (S G:Fr) (b:Nat) (h0:vs=xaO) (h1:xoZ H p g S b G) (h2:∀p' Wu g' H',XV p'->XV Wu->XV g'->xHL H' p' Wu g' S b G->Β->xbr (.ref p')):Ru CO CK vs H Q JT
def RJ:xqK xI1 qe:=M2
def uV (F:Υ "twin" "Course.twin" qe)(Z:Wv K mg CK J4 CO):xfF 6 (Ru CO CK):=by
 have R:=Z.R;have CT:=R.Y.Z.T;show xjf bI MI R.init;show Η Tw Z.ctwin Wi R.win;show xau RJ (λ JN A outer st H vs Q E hr h=>?_);obtain⟨p,ck,g,S,G,b,rfl,hC,k⟩:=h;have OP:xan 4:=PP;have J5:xa0:=PP;refine xaT (xdj 1 RJ.nd (xp2 (iU FI R) hr R.m bI a7) (xqA KM XL) (xtC KM XL (xtC KM (bj XL CT.cl Tw (wg Tw.F R.Y.Z) OP) (xtC KM (xh0 Os R.cl Wi (mr Wi.F R)) (xcc KM)))))
 intro x dk nx Qo V7;have s0:=xti CO Qo;refine xay x dk ac (λ ck1 g1 H1 OJ ng Vv Lm=>xgB);have s1:xnk:=λ b o e=>Lm b o (s0 b o e) xrG
 obtain⟨dx,hp⟩:=hC.ob;obtain⟨dck,OS⟩:=hC.ch;obtain⟨LF,ON⟩:=Vv.ob;clear s0 Lm Qo V7;have QP:p≠x:=xpB nx;have Kq:=xnm;show xs3 ⟨_,rfl,p,CO,dx,_,_,rfl,Kq,R.cl,R.nB,AJ _ _ _ _,_,rfl,x,CO,LF,_,rfl,ON,R.cl,R.nB,eF _ _ _ _,?_⟩ y4 ⟨_,rfl,p,CO,dx,_,_,rfl,xeb QP Kq,R.cl,R.nM,vv _ _ _ _,_,rfl,x,CO,LF,_,rfl,ac,R.cl,R.nM,eF _ _ _ _,?_⟩;rw [yX,dz];have s2:xcn (xcJ H1 x CO LF xGx):=λ c o e=>by show xf9 nx xb5
 show xbB Wd ((xcJ H1 x CO LF xGx) x=xi4 CO LF xGx) ac (xcJ H1 x CO LF xGx) H2;refine⟨_,rfl,p,CO,dx,_,_,rfl,xca hp,R.cl,R.nC,zr _ _ _ _,ck,dck,_,rfl,xca OS,xyf _,ck,dck,_,rfl,xca OS,λ c dc H3 nc s3 hc=>?_⟩;have ncx:Ν x:=xbP Wd nc;refine⟨_,rfl,x,CO,LF,_,rfl,xbL Wd,R.cl,R.nC,eF _ _ _ _,?_⟩;rw [Br];have s4:xcn (xcJ H3 x CO LF xCV):=λ c o e=>by show xf9 nx (xyu e)
 have Yr:(xcJ H3 x CO LF xCV) x=xi4 CO LF xCV:=ac;show xbB hc4 ((xcJ H3 x CO LF xCV) c=xi4 CK dc (fC 16 (xt0 S))) (xeb ncx hc) (xcJ H3 x CO LF xCV) H4;have hC4:xoZ H4 p g S b G:=xvx c o e (xdg e)
 refine⟨_,rfl,p,dx,_,rfl,xdg hp,iw _ _ _ _,p,ck,g,S,G,b,rfl,hC4,xf7⟩;have s5:=xas xjk nl;have Vr:(xej H4 xjk) l=Ι xjk:=ac;have nlx:xeG x:=xeT Yr;show xbb H4 l xjk H5;show xfW ⟨_,rfl,x,CO,LF,_,rfl,xar Yr,R.cl,R.nG,eF _ _ _ _,?_⟩ vm (xbd (k x c l _ nx (none_of s2 nc) (xoM s4) ⟨⟨LF,ac⟩,⟨dc,xeb ncx (xar hc4)⟩,xeb nlx Vr,hC.byt⟩ λ c o e=>by show xf9 nx (xar (xdg e))))
abbrev lh:JL:=xvq 0
abbrev mJ:JL:=xvq 1
abbrev mv:JL:=xvq 2
abbrev mO:JL:=xvq 3
abbrev i7:JL:=xvq 4
abbrev jS:JL:=xvq 5
abbrev mx:JL:=xvq 6
structure Y4 (K:Frag)(mg:W1)(C:JB):Prop where
 cl:xgc
 nC:xcE "course"
 nW:xcE "waiting"
 nB:xcE "begun"
 nF:xcE "finished"
 m:mg "Reading"=xhM
structure Ss (K:Frag)(mg:W1)(B D G' CW C0 C1 C2 C3 CK J4 CO C G Ce:JB):Prop where
 pr:Wv K mg CK J4 CO
 bk:Tbk K mg CK J4 C G C0 C1 C2 C3
 wl:S3 K mg B D G' CW C0 C1 C2 C3
 tt:Y4 K mg Ce
 take:∃f fd,XI K mg "take_block" fV ["row","before"] f fd
 init:∃f fd,xfx K "Reading.__init__" lh f/\xy7/\xCK Ce
 twin:∃f fd,xpn Ce "twin" "Reading.twin" mJ
 mark:∃f fd,xpn Ce "read_mark" "Reading.read_mark" mv
 tail:∃f fd,xjh Ce "read_tail" "Reading.read_tail" mO xEL f fd
 block:∃f fd,xjh Ce "read_block" "Reading.read_block" i7 xIZ f fd
 parts:∃f fd,xpn Ce "read_parts" "Reading.read_parts" jS
 thru:∃f fd,xjh Ce "go_through" "Reading.go_through" mx Jaj f fd
structure KS (Ce CO CK:JB)(H:Hp)(p co ck g wt:JB)(S:Fr)(b:Nat)(G W:Fr)(bg fn:Bool):Prop where
 ob:∃dx,xa2=xea Ce xhl
 cr:xlE H g S b G
 ws:H wt=xj1
def KS.ne (h:xl0 H g S b G W bg fn):xaP co/\xaP ck/\xaP g/\xaP wt/\wt≠co/\wt≠ck:=by
 show xq2 dx hp hw h;show xwI L6 hC.ob OS hC.ch;refine⟨xcl z,xcl z,xpX hC.gr (by show τ),xpX hw (by show τ),aF hw L6 (by show τ),aF hw OS (by show τ)⟩
 ·show xyn z hp L6 L6 L6;injection L6 with _ _ z;cases(xJV z)
 ·show xyn z hp OS OS OS;injection OS with _ _ z;have:=xeI z;cases this
def Kr.off (h:xlE H g S b G)(s:∀c o,WF=Id->xai->xaB=Id)(h1:xaP co)(h2:xaP ck)(h3:xaP g):xlE H' g S b G:=h.keep λ c o e hc=>s c o e (by rcases hc with rfl|rfl|rfl<;>assumption)
inductive PJ (Ce CO CK:JB) (vs:KB) (H:Hp) (Q:VK) (JT:XK):Prop
 |mk (p dx:JB) (h0:vs=xaO) (h1:xa2=xea Ce []) (h2:∀co ck g wt H',XV co->XV ck->xl0 H' g [] 0 [] [] false false->xcT (∀c o,WF=Id->xai->xaB=Id)):PJ Ce CO CK vs H Q JT
def vI:xc3 lh:=M2
def kP (F:xfx K "Reading.__init__" lh f)(T:Y4 K mg Ce)(R:xtv K):xfF 6 (PJ Ce CO CK):=by
 show xjf bI MI R.init;show xau vI (λ JN A outer st H vs Q E hr h=>?_);show xcN p dx hp k h;refine xaT (xdu (xp2 (iU FI R) hr R.m bI a7) (xdu xdM (xse dl dl)))
 intro x dk nx Qo V7;have s0:=xti CO Qo;have QP:p≠x:=xpB nx;refine xay x dk ac (λ ck g H1 OJ ng hC Lm=>xgB);have Kq:=Lm _ _ (xhz hp) QP;have k1:∀b o,xal=Id->H1 b=Id:=λ b o e=>Lm _ _ xpo xrG
 have OA:XV ck:=xgu OJ;clear Lm s0;refine⟨_,rfl,p,Ce,dx,[],rfl,Kq,T.cl,T.nC,(by show xcC 0),?_⟩;have J9:(xiB H1 xkb) p=xea Ce xkb:=ac;show xbB k2 (∀b o,H1 b=Id->xgd->(xiB H1 xkb) b=Id) (λ b o e n=>by show xgj n) (xiB H1 xkb) H2;refine xg9 (LE wt Zg);have s3:=xj0 Zg;have Ve:xbC H2 wt [] wt=xzV:=ac;have Kz:=xbL J9;have W6:xaP wt:=xbP J9 Zg;show xbb H2 wt [] H3;refine⟨_,rfl,p,Ce,dx,_,rfl,Kz,T.cl,T.nW,(by show xcC 1),?_⟩;have Mn:=cj "course" xcy [];have Kg:=cj "waiting" (.ref wt) xkb;have Lo:=cj "begun" xE3 (xFl wt xkb);have Xk:xat ([]:xex) 0:=rfl;show SC ⟨_,rfl,p,Ce,dx,_,rfl,ac,T.cl,T.nB,Z5,?_⟩ ⟨_,rfl,p,Ce,dx,_,rfl,ac,T.cl,T.nF,Z5,?_⟩;rw [dz,dz,jL];have k3:∀b o,H1 b=Id->xgd->(xiB H3 (xvl x wt)) b=Id:=λ b o e n=>by show Ty n (xbL (k2 _ _ e n))
 refine k x ck g wt _ nx OA ⟨xdr ac,hC.off k3 QP.symm (LT (by show xbY hp OA OA)) (LT (by have:=hC.gr;show xbY Kq this this)),by show Ty W6 Ve⟩ λ b o e n=>xiP (k1 _ _ e) n
def BY (co co' wt)(bg fn):xi5 "course" co' xhl=fP co' wt bg fn:=by
 show(xgL (xfA="course"))=_;rw [Τ];rfl
inductive Pz (Ce CO CK:JB) (vs:KB) (H:Hp) (Q:VK) (JT:XK):Prop
 |mk (p co ck g wt:JB) (S:Fr) (b:Nat) (G W:Fr) (bg fn:Bool) (h0:vs=xaO) (h1:xl0 H g S b G W bg fn) (h2:∀p' co' Wu g' Qn H',XV p'->XV co'->XV Wu->xHQ H' p' co' Wu g' Qn S b G W bg fn->Β->xbr (.ref p')):Pz Ce CO CK vs H Q JT
def P4:xqK xI1 mJ:=M2
def ur (F:Υ "twin" "Reading.twin" mJ)(Z:xqt):xfF 8 (Pz Ce CO CK):=by
 have T:=Z.tt;have X:=Z.pr.H.N.X;show xjf bI MI Z.init;show xmQ Tw Z.pr.otwin P4 (λ JN A outer st H vs Q E hr h=>?_)
 intro _;obtain⟨p,co,ck,g,wt,S,b,G,W,bg,fn,rfl,⟨⟨dx,hp⟩,hC,hw⟩,k⟩:=h;have Se:xan 7:=PP;have Vj:xan 6:=PP;refine xaT (xdj 1 P4.nd (xp2 (kP FI T Z.pr.R) Se T.m bI a7) (xqA KM (bj XL Z.pr.R.cl Tw (uV Tw.F Z.pr) Vj)) (xtC KM (xGB X.list EU xCj) (xtC KM XL (xtC KM XL (xcc KM)))))
 intro x dk nx Qo V7;have s0:=xti Ce Qo;refine xay x dk ac (λ co1 ck1 g1 Yg H1 _ _ h1 Lm=>xgB);have s1:xnk:=λ b o e=>Lm b o (s0 b o e) xrG
 obtain⟨LF,ON⟩:=h1.ob;clear s0 Lm Qo V7 h1;show xbp Sq L6 hC.ob ⟨_,rfl,p,Ce,dx,_,_,rfl,xnm,T.cl,T.nC,xqu,co,Sq,_,rfl,xch L6,iw _ _ _ _,co,ck,g,S,G,b,rfl,xvx c o e xb5,λ Tv Y3 g2 H2 Sa OJ ng Q0 s2=>?_⟩;have nxo:Tv≠x:=xbP ON Sa;have nxk:Y3≠x:=xbP ON OJ;have nxg:g2≠x:=xbP ON ng;refine⟨_,rfl,x,Ce,LF,_,rfl,xca ON,T.cl,T.nC,xkC,?_⟩;rw [BY];have s3:xcn (xcJ H2 x Ce LF (xvl Tv Yg)):=λ c o e=>by show xf9 nx (xca xb5)
 have hx3:(xcJ H2 x Ce LF (xvl Tv Yg)) x=xi4 Ce LF (xvl Tv Yg):=ac;show xbB SX (xHL (xcJ H2 x Ce LF (xvl Tv Yg)) Tv Y3 g2 S b G) (Q0.off (λ c o e n=>by show xgj n) nxo nxk nxg) (xcJ H2 x Ce LF (xvl Tv Yg)) H3;refine⟨_,rfl,p,Ce,dx,_,_,rfl,xbL hp,T.cl,T.nW,xhX,wt,_,rfl,Ο (xbL hw),xf7⟩;have s4:=xas xkP nl;have QV:(xej H3 xkP) l=xj1:=ac;have nlx:xeG x:=xeT hx3;have hC4:=SX.keep λ c o e _=>xdg e
 have s4:=xEI;have Yr:(xej H3 xkP) x=_:=xeb nlx.symm hx3;show xbb H3 l xkP H4;have QP:p≠x:=xpB nx;show xs3 ⟨_,rfl,x,Ce,LF,_,rfl,Yr,T.cl,T.nW,xkC,?_⟩ oJ ⟨_,rfl,p,Ce,dx,_,_,rfl,xeb QP (xdg hp),T.cl,T.nB,tO _ _ _ _,_,rfl,x,Ce,LF,_,rfl,ac,T.cl,T.nB,xkC,?_⟩;rw [vE,dz];refine⟨_,rfl,p,Ce,dx,_,_,rfl,xeb QP (xdg hp),T.cl,T.nF,rg _ _ _ _,_,rfl,x,Ce,LF,_,rfl,ac,T.cl,T.nF,xkC,?_⟩;rw [uO,dz];exact xbd (k x Tv Y3 g2 l _ nx (xh7 Sa) (xh7 OJ) ⟨⟨LF,ac⟩,hC4.off (λ c o e n=>by show xgj n) nxo nxk nxg,by show Ty nlx QV⟩ λ c o e=>by show xf9 nx (xdg e))
inductive PH (Ce CO CK:JB) (vs:KB) (H:Hp) (Q:VK) (JT:XK):Prop
 |mk (p co ck g wt:JB) (S:Fr) (b:Nat) (G W:Fr) (h0:vs=xaO) (h1:xl0 H g S b G W false false) (h2:W.take 3=xMA) (h3:W.length<3->xwr) (h4:∀Y Qn H',W=184::66::1::Y->xFV H' g Qn S b G Y true false->xcT (∀c o,WF=Id->xai->xaB=Id)):PH Ce CO CK vs H Q JT
def wV:xc3 mv:=M2
def ug (F:Υ "read_mark" "Reading.read_mark" mv)(Z:xqt):xfF 2 (PH Ce CO CK):=by
 have T:=Z.tt;have X:=Z.pr.H.N.X;obtain⟨_,_,Nm⟩:=Z.pr.nmark;show xa8 d hm hd Z.pr.mark (F.ok wV λ JN A outer st H vs Q E hr h=>?_)
 intro _;obtain⟨p,co,ck,g,wt,S,b,G,W,rfl,hR,h3,k0,k⟩:=h;obtain⟨n1,n2,n3,n4,_⟩:=hR.ne;show xq2 dx hp hw hR;show xlq (xcz (xbQ (oW Nm Z.pr) PP Nm XL) (ae (xhr oM xGL (xja (xCu xm2 Z7 hm)) (xse dl (xq8 XL (xja (xCu xm2 Z7 hm)) bF)) az))) ⟨_,rfl,p,Ce,dx,_,_,rfl,hp,T.cl,T.nW,xhX,wt,W,rfl,hw,h3,LE H1 s1⟩ ⟨_,rfl,p,Ce,dx,_,_,rfl,xnm,T.cl,T.nW,xhX,wt,_,rfl,Ο (xch hw),d,_,rfl,.inr (hd H1),_,_,rfl,rfl,_,rfl,xvH (λ h=>k0 (Hy (LT (h (CY ?_)))) _ s1)⟩
 rotate_left
 ·rw [CM];show SL 3≤_;lia
 show xaM h xbK CM h;have h:3≤W.length:=by
  have:SL 3≤xJW:=h;lia
 show xga Y Y (W=184::66::1::Y) ⟨W.drop 3,by
  show xeo (Dw 3 W) h3 (Dv h);exact this.symm⟩
 show xs3 ⟨_,rfl,p,Ce,dx,_,rfl,xnm,T.cl,T.nB,xkC,?_⟩ vE ⟨_,rfl,p,Ce,dx,_,_,rfl,ac,T.cl,T.nW,xhX,d,_,rfl,.inr (hd _),_,rfl,wt,_,rfl,JS.of (xeb n4 (xch hw)),xf7⟩;have ec:xyc (Wp (184::66::1::Y)) (some (xfD ([xyZ,xzU,vN 1]:KB)))=xjl:=dm _ 3;rw [ec];have K9:xqg:=LT (by show xbY ac nl nl)
 refine⟨_,rfl,p,Ce,dx,_,rfl,xeb K9.symm ac,T.cl,T.nW,xkC,?_⟩;rw [oJ];have kp:∀c o,WF=Id->xai->xiB (xej (xiB H1 xJX) xjl) (xy4 l true) c=Id:=λ c o e n=>by
  have h1:(xiB H1 xJX) c=Id:=xeb n xb5;rw [xnM,xkM h1 nl];exact h1
 exact k Y l _ rfl ⟨xdr ac,xFN n1 n2 n3,xeb K9 ac⟩ kp
inductive PF (Ce CO CK:JB) (vs:KB) (H:Hp) (Q:VK) (JT:XK):Prop
 |mk (p co ck g wt a:JB) (S:Fr) (b:Nat) (G W:Fr) (h0:vs=[Φ,SZ]) (h1:xl0 H g S b G W true false) (h2:Uf=ω (xAh S.length S)) (h3:xe0 (xl0 H' g S b G W true true->xcT (∀c o,WF=Id->xai->xaB=Id))):PF Ce CO CK vs H Q JT
def wZ:Ps xEL xEL mO:=M2
def tX (F:Υ "read_tail" "Reading.read_tail" mO)(Z:xqt):Α 10 xEL (PF Ce CO CK):=by
 have T:=Z.tt;show xmQ Ta Z.pr.R.tail wZ (λ JN A outer st H vs Q E hr h=>?_)
 intro _;obtain⟨p,co,ck,g,wt,a,S,b,G,W,rfl,hR,ha,k⟩:=h;obtain⟨n1,n2,n3,n4,_⟩:=hR.ne;show xq2 dx hp hw hR;show xvt hu;refine xaT (ab (xgW xGK KM (bj XL Z.pr.R.cl Ta (oV Ta.F Z.pr.R) hr))
  (xxU dl))
 show xbp Sq L6 hC.ob ⟨_,rfl,_,rfl,p,Ce,dx,_,_,rfl,hp,T.cl,T.nC,xqu,co,Sq,_,rfl,L6,iw _ _ _ _,co,ck,g,S,G,b,rfl,hC,λ l H1 nl s1 hl=>?_⟩;have Tj:=xln;rw [iV] at Tj hl;show xs3 ⟨a,l,_,_,rfl,rfl,JS.of Tj,xBT,_,rfl,?_⟩ xmE (bd ⟨_,rfl,p,Ce,dx,_,rfl,xnm,T.cl,T.nF,xkC,?_⟩);rw [uO];have kp:∀c o,WF=Id->xai->(xiB H1 (xxJ true)) c=Id:=λ c o e n=>xeb n xb5
 exact xcF ⟨xdr ac,xFN n1 n2 n3,xap hw n4⟩ kp
inductive N7 (Ce CO CK:JB) (vs:KB) (H:Hp) (Q:VK) (JT:XK):Prop
 |mk (p co ck g wt a:JB) (S:Fr) (b:Nat) (G W R T:Fr) (h0:vs=[Φ,SZ]) (h1:xl0 H g S b G W true false) (h2:Uf=xnl) (h3:PB G T R) (h4:TW T G) (h5:∀l g' H',Θ->XV g'->xaq=xbJ->xl0 H' g' (S++T) (b+1) (Wr b G T) W true false->(∀c o,WF=Id->Ν co->xsG->xaB=Id)->xak):N7 Ce CO CK vs H Q JT
def Ol:Ps (xmC "block" "text") xIZ i7:=M2
def qY (F:Υ "read_block" "Reading.read_block" i7)(Z:xqt):Α 40 xIZ (N7 Ce CO CK):=by
 have T:=Z.tt;have R:=Z.pr.R;obtain⟨_,_,Tb⟩:=Z.take;obtain⟨_,FT⟩:=Tb.F;show Η Wi R.win Go R.go;show xau Ol (λ JN A outer st H vs Q E hr h=>?_);obtain⟨p,co,ck,g,wt,a,S,b,G,W,Rb,T',rfl,hR,ha,pb,tw,k⟩:=h;obtain⟨n1,n2,n3,n4,n5,n6⟩:=hR.ne;show xq2 dx hp hw hR;have J5:xa0:=PP;have Vj:xan 6:=PP;refine xaT (xaU 2 Ol.nd (xtr (mh FT Z.bk Z.wl) Tb.m Tb.kp Tb.b .nil a7 (xbo KM (xh0 XL R.cl Wi (mr Wi.F R)))) (aB (aX XL R.cl Go (wx Go.F R) Vj xx7)) On)
 show xbp Sq L6 hC.ob ⟨_,rfl,_,rfl,p,Ce,dx,_,_,rfl,hp,T.cl,T.nC,xqu,co,Sq,_,rfl,L6,iw _ _ _ _,co,ck,g,S,G,b,rfl,hC,LE lw W8⟩;have s1:=xas xjk W8;refine⟨a,lw,G,T',Rb,rfl,xln,ac,pb,tw,λ l H2 nl s2 hl=>?_⟩;have s2:=xe4;show xmL Q0 (xvx c o e (xca e)) Yc MX Q0.ob;show xpq dk2 SE Q0.ch h1 tw.le;have h2:=tw.wl;refine⟨_,rfl,p,Ce,dx,_,_,rfl,xca hp,T.cl,T.nC,xqu,co,Yc,_,rfl,MX,iw _ _ _ _,_,rfl,co,ck,g,l,S,G,T',b,rfl,Q0,hl,tw.tb,by lia,λ g' H3 ng SX kp=>?_⟩;have Kc:∀c o,WF=Id->Ν co->xsG->H3 c=Id:=λ c o e n m=>xap (xca e) n m
 exact xbd (xdE g' H3 (xh7 nl) (none_of s2 ng) (xap hl (aF hl MX (by show τ)) (aF hl SE (by show τ))) ⟨xdr (xaK hp n1.symm n2.symm),SX,xaK hw n5 n6⟩ Kc)
def nB (T:Fr):Nat:=(T.length+63)/64
def WN (T:Fr)(Rs:xfP):Prop:=Rs.length=xd1/\∀j R,xaH Rs j R->Bl T j R
noncomputable abbrev tl (T:Fr):Fr:=xxp T
def WH.all (h:WH T Z):∃Rs,xku/\Z=184::66::1::(xxl xdT):=by
 obtain⟨Rs,R,hl,QY,hL,rfl⟩:=h;unfold nb at hl;show xFx hL h0 h0 pb
 ·exact⟨Rs,⟨by unfold nB;lia,QY⟩,by rw [DM];rfl⟩
 ·refine⟨Rs++[R],⟨by rw [CN];show _+1=_;unfold nB;lia,xda j R'⟩,by show xbD Gy⟩;show xaX j Rs.length h h
  ·show UV (DW h) e (QY j R' e)
  ·rw [DC h] at e;have hj:j-Rs.length=0:=xAl (xLd e).1;show xnZ hj;obtain rfl:j=nb T:=by unfold nb;lia
   unfold Bl blk;show IO (Dv (by rw [C6];unfold nb;show xa5 G5 (Dr xnx))) pb
def vn (h:64*i<F.length)(hb:xgH F):TW xvP (wn F i):=by
 have hl:xat xvP (min 64 (F.length-64*i)):=by unfold blk;rw [Dd,C6]
 exact⟨λ x hx=>xnL xGX,by lia,by omega,λ x hx=>xnL (DN xCg),p8 (Dr h)⟩
def rem (T:Fr)(Rs:xfP)(j:Nat):Fr:=xvb (Rs.drop j) xdT
def nxt (T:Fr)(Rs:xfP)(j:Nat):Fr:=Rs.getD j xdT
def gK (h:xrz j):xwe=Rs[j]++xeO (j+1)/\nxt T Rs j=Rs[j]:=by
 unfold rem nxt;rw [EA h,Es,CQ];exact xb2 (by rw [Dn,CU h];rfl)
def i6 (h:Rs.length≤j):xwe=xdT/\nxt T Rs j=xdT:=by
 unfold rem nxt;show IO (ED h) (xb2 (by rw [Dn,DH h];rfl))
structure Op (T:Fr)(Rs:xfP)(bg fn:Bool)(j:Nat)(G W rest:Fr):Prop where
 jn:j≤xd1
 gw:xgw (64*j)->G=wn T j
 re:ρ fn->W++rest=xbS bg xwe (mk3++xn4)
 b0:ρ bg->j=0/\ρ fn/\W.length<3
 b1:NE bg->ρ fn->W.length<(nxt T Rs j).length
 fi:NE fn->j=xd1/\W=[]/\rest=[]
inductive N6 (Ce CO CK:JB) (vs:KB) (H:Hp) (Q:VK) (JT:XK):Prop
 |mk (p co ck g wt:JB) (T Y G rest:Fr) (Rs:xfP) (j0:Nat) (h0:vs=xaO) (h1:xl0 H g (xgq j0) j0 G Y true false) (h2:xkt) (h3:xxa) (h4:xku) (h5:j0≤xd1) (h6:xgw (64*j0)->G=wn T j0) (h7:Y++rest=xeO j0) (h8:∀l j fn g' Qn G' W' H',Θ->xaq=ω (xjm j (64*j0))->xFV H' g' Qn xyD j G' W' true fn->Op T Rs true fn j G' W' rest->j0≤j->(∀c o,WF=Id->xai->Ν co->xsG->xaB=Id)->xak):N6 Ce CO CK vs H Q JT
def Ky:xqK ["self","signs","place","part","row"] jS:=M2
def pX (F:Υ "read_parts" "Reading.read_parts" jS)(Z:xqt):xfF 41 (N6 Ce CO CK):=by
 have T0:=Z.tt;have R0:=Z.pr.R;show Η Pa Z.pr.partat Ta Z.tail;show xmQ Bl Z.block Ky (λ JN A outer st H vs Q E hr h=>?_)
 intro _;obtain⟨p,co,ck,g,wt,T,Y,G,rest,Rs,j0,rfl,hR,hT,Oy,⟨QZ,QY⟩,hj0,hG0,hY,k⟩:=h;have hr34:xan 34:=PP;have hr10:xan 10:=PP;show xuE (xfV 1 Ky.nd xdM (xdj 2 Ky.nd aj (xA6 (xqT XL) (xdj 3 Ky.nd (aA (tR Pa Z.pr) hr34 Pa (xdn XL On (ay XL rfl))) (xgs gJ UF cU oh az) (xaz 4 Ky.nd (xsr XL On xuX) (xdQ 2 Ky.nd xuX (xgs gJ xuX cU (aB (xGA Ta (tX Ta.F Z) hr10 (xa7 υ))) (xlc (xfj Fm FM dI KM (xGA Bl (qY Bl.F Z) hr (xa7 υ))))))))) (xdu (xq8 XL On bF) (xcc KM)))) (xg9 (xdX l nl));have s0:=xj0 nl;obtain⟨⟨Y2,SS⟩,hC0,hw0⟩:=id hR;show xwI hco0 hC0.ob hck0 hC0.ch;have K9:xqg:=xeT SS;have Yo:xeG co:=xeT hco0;have nlk:xeG ck:=xeT hck0;have W8:xeG wt:=xeT hw0;show xds χ;have hnB:xz9 (64*xd1)/\64*xd1<T.length+64:=by unfold nB;lia
 have hTn:xgq xd1=T:=Dv hnB.1;have hD0:xjm j0 (64*j0)=[]:=ED (by show IO Dd xiF);show SC xbu ((λ(J:∀j pl fn g4 G4 v3 v4 H4,H4 l=some (.lst (((T.take (64*j)).drop (64*j0)).map vN))->KS Ce CO CK H4 p co ck g4 wt (T.take (64*j)) j G4 Y true fn->(∀c o,H c=some o->c≠p->c≠co->c≠ck->H4 c=some o)->j0≤j->Op T Rs true fn j G4 (Y.drop pl) rest->R1 [some (.ref p),some (.ref l),some (vN pl),v3,v4] H4)=>?_) (λ j pl fn g4 G4 v3 v4 H4 QV KP fr ZF op=>χ))
 rotate_left
 ·obtain⟨n1,n2,n3,n4,n5,n6⟩:=KP.ne;show xq2 dx hp hw KP;refine⟨_,rfl,p,Ce,dx,_,_,rfl,hp,T0.cl,T0.nW,xhX,_,rfl,_,rfl,wt,_,rfl,JS.of hw,LE lw nlw'⟩
  try dsimp only
  rw [dm,<-Fa];have s5:=xbG xum nlw';refine⟨_,rfl,p,Ce,dx,_,rfl,xar hp,T0.cl,T0.nW,xkC,?_⟩;rw [oJ];have W6:xaP lw:=xbP hp nlw';have kp:∀c o,H4 c=Id->xai->xiB (xfv H4 lw xum) (xwz lw true fn) c=Id:=λ c o e n=>xeb n (xar e)
  exact xbd (xdE j fn g4 lw G4 _ _ nl (xap QV K9) ⟨xdr ac,xFN n1 n2 n3,xeb W6 ac⟩ op ZF λ c o e a1 a2 a3=>xap (xkz e a1 a2 a3) a1)
 clear g1;refine xac (λ m σ H4=>∃(j pl:Nat) (fn:Bool) (g4:JB) (G4:Fr) (v3 v4:xc0),σ=[xeV,xgQ,SB pl,v3,v4]/\xhJ=ω (xjm j (64*j0))/\xl0 H4 g4 xyD j G4 Y true fn/\(∀c o,WF=Id->xai->Ν co->xsG->H4 c=Id)/\j0≤j/\j≤xd1/\(xgw (64*j)->G4=wn T j)/\pl≤Y.length/\
   ((ρ fn/\m=xd1+1-j/\xum++rest=xwe)\/(NE fn/\m=0/\j=xd1/\xum=[]/\rest=[]))) ⟨_,j0,0,false,g,G,none,none,rfl,by show IO hD0 ac,⟨⟨Y2,xhz SS⟩,hC0.keep λ c o e _=>xpo,xhz hw0⟩,λ c o e _ _ _=>xpo,P3,hj0,hG0,Ω,.inl (xfE rfl hY)⟩
 rintro m σ H4 ⟨j,pl,fn,g4,G4,v3,v4,rfl,QV,KP,fr,ZF,hj,hG,L0,hc⟩;obtain⟨n1,n2,n3,n4,n5,n6⟩:=KP.ne;show xq2 dx hp hw (id KP);obtain⟨Sq,L6⟩:=hC.ob;rcases hc with⟨rfl,rfl,hd⟩|⟨rfl,rfl,rfl,hd,T3⟩
 rotate_left
 ·exact⟨_,rfl,p,Ce,dx,_,_,rfl,hp,T0.cl,T0.nF,rg _ _ _ _,true,rfl,bd (J _ pl _ g4 G4 v3 v4 H4 QV KP fr ZF ⟨hj,hG,nofun,nofun,nofun,λ _=>xfE hd T3⟩)⟩
 show SC ⟨_,rfl,p,Ce,dx,_,_,rfl,hp,T0.cl,T0.nF,rg _ _ _ _,false,rfl,xnh⟩ xDg;have Vt:xat xum (Y.length-pl):=C6;have cut:∀{R r:Fr},xxP (Y.length-pl)->xum++rest=R++r->xou xjl (xrk pl) (KF (pl+R.length))=xjc/\Y.drop (pl+R.length)++rest=r/\pl+R.length≤Y.length:=λ {R r} h e=>by
  have e1:(xum).take R.length=R:=by
   have:=xDI R.length e
   rwa [Ed (by show IO Vt h),Jc] at this
  refine⟨?_,?_,by lia⟩
  ·rw [lz _ xdY (by show xcS),Ex,<-Fa,<-E1,e1]
  ·have:=congrArg (List.drop R.length) e
   rwa [ES (by show IO Vt h),Hs,EB] at this
 have none:Y.length-pl<(nxt T Rs j).length->∀H5,C' H4 H5->R1 [xeV,xgQ,SB pl,some .non,v4] H5:=λ h H5 s5=>J j pl false g4 G4 _ _ H5 (xar QV) ⟨xdr (xar hp),xvx c o e (xar e),xar hw⟩ (λ c o e a1 a2 a3=>xar (xkz e a1 a2 a3)) ZF ⟨hj,hG,λ _=>hd,nofun,λ _ _=>by show IO Vt h,nofun⟩
 show xaX j xd1 ZE ZE
 ·
  have Kx:64*j<T.length:=by lia
  have hjR:xrz j:=by show IO QZ ZE
  have pb:=QY j _ (CU hjR);show xmL tw (vn Kx hT) er en (gK (T:=T) hjR);rw [er] at hd;rw [en] at none;generalize Rs[j]=R at*;obtain⟨i,ps,Rb,hi,_,_,eR,Mn,Kg⟩:=xJJ;have ht1:=tw.one;have ht2:=tw.le;have YG:xat xyD (64*j):=HX (Dr Kx);have eR':R=xjg (xip (64*i) (blk T j)-1)++(Rb++xrx (xjg (xip (64*i) (blk T j)-1)++Rb)):=by rw [eR];show xbk sld CQ
  have Qg:xbq Rb (xrx (xjg (xip (64*i) (blk T j)-1)++Rb))=xHc 2:=by rw [CN];rfl
  have W0:xzc (xHc 5):=by rw [eR,f9,CN];show 3+_+2=_;lia
  show SC ⟨_,rfl,p,Ce,dx,_,_,rfl,hp,T0.cl,T0.nW,xhX,_,rfl,_,rfl,p,Ce,dx,_,_,rfl,hp,T0.cl,T0.nC,xqu,co,CO,Sq,_,_,rfl,L6,R0.cl,R0.nM,vv _ _ _ _,?_⟩ ⟨wt,Y,_,rest,xeO (j+1),pl,_,xip (64*i) (blk T j)-1,Rb.length,rfl,hw,L0,by rw [hd,<-CQ,<-eR'],by lia,Kg,LT (by lia),λ _=>by show xam YG,by rw [Qg,Dc (by lia)],λ h H5 s5=>xk0 _ _ (d8 (none (by lia) H5 s5)),λ h t v H5 s5 ht hv=>?_⟩;show xga h h (v=xDb) (by rcases hv with⟨z,_⟩|⟨_,z⟩;lia;exact z)
  rw [Qg] at ht;obtain⟨ec,ed,VS⟩:=cut (by lia) hd;rw [W0] at ec ed VS;refine xk0 _ _ xgJ;have Sg:=xar hp;refine⟨_,rfl,p,Ce,dx,_,_,rfl,Sg,T0.cl,T0.nW,xhX,_,rfl,_,rfl,_,rfl,t,_,_,_,rfl,rfl,xoU,xhR,_,rfl,wt,_,rfl,JS.of (xar hw),LE lr Ld⟩
  try dsimp only
  rw [ec];have s6:=xas xjc Ld;have NJ:xbC H5 lr xjc lr=xnl:=ac;have s6:=s5.trans s6;have Zt:=xas xjc Ld _ _ ht;show xbb H5 lr xjc H6;show SC ⟨_,rfl,t,_,_,_,rfl,rfl,xGt,xhR,?_⟩ ⟨_,rfl,t,_,_,_,rfl,rfl,xGt,xhQ,rfl,_,rfl,xgJ⟩;show xoh Vq (xcj QV) (hG (Dr Kx)) hC ⟨_,rfl,xeD Vq,_,rfl,p,dx,_,rfl,xcj hp,xgh,_,rfl,p,co,ck,g4,wt,lr,_,j,_,Y,R,_,rfl,⟨xdr (xcj hp),xvx c o e (xcj e),xcj hw⟩,NJ,pb,tw,λ l7 g7 H7 n7 ng7 hl7 hR7 Sn=>?_⟩;have hl76:=Sn _ _ Vq Yo nlk;have e7:Wp (xjm j (64*j0))++Wp (blk T j)=Wp (xjm (j+1) (64*j0)):=by rw [<-C8,<-gc,ES (by show xam YG)]
  refine⟨l,l7,_,_,rfl,rfl,hl76,hl7,a9 (by rw [CM,CM,C6,YG];lia),?_⟩
  try dsimp only
  rw [e7];have V9:∀c o,H7 c=Id->Ν l->xct H7 l (xjm (j+1) (64*j0)) c=Id:=λ c o e n=>xeb n e
  obtain⟨⟨dx7,hp7⟩,hC7,hw7⟩:=hR7;rw [gc] at hC7;refine⟨xd1+1-(j+1),EO (Ic ZE) (Fb j),j+1,pl+(xHc 5),false,g7,_,_,_,rfl,ac,⟨⟨dx7,V9 _ _ hp7 K9.symm⟩,hC7.off V9 Yo.symm nlk.symm (xbP Vq ng7),V9 _ _ hw7 W8.symm⟩,λ c o e a1 a2 a3=>V9 _ _ (Sn _ _ (xcj (xkz e a1 a2 a3)) a2 a3) (xoX nl),by lia,ZE,LT (rZ z),VS,.inl (xfE rfl ed)⟩
 ·
  obtain rfl:j=xd1:=Dy hj ZE;obtain⟨er,en⟩:=i6 (T:=T) (Di QZ);rw [er] at hd;rw [en] at none;have YL:=hd.trans (DM _).symm;show SC ⟨_,rfl,p,Ce,dx,_,_,rfl,hp,T0.cl,T0.nW,xhX,_,rfl,_,rfl,p,Ce,dx,_,_,rfl,hp,T0.cl,T0.nC,xqu,co,CO,Sq,_,_,rfl,L6,R0.cl,R0.nM,vv _ _ _ _,?_⟩ ⟨wt,Y,(xdT).drop 3,rest,[],pl,_,0,0,rfl,hw,L0,YL,Z9,Z9,xfH,(xhu),rfl,λ h H5 s5=>xk0 _ _ (d8 (none h H5 s5)),λ h t v H5 s5 ht hv=>?_⟩;obtain rfl:v=.non:=by rcases hv with⟨_,z⟩|⟨z,_⟩;exact z;cases z
  obtain⟨ec,ed,VS⟩:=cut (R:=xdT) h YL;obtain⟨ed,erest⟩:=List.append_eq_nil_iff.1 ed;rw [hTn] at hC;show SC (xk0 _ _ xgJ) ⟨_,rfl,p,Ce,dx,_,_,rfl,xar hp,T0.cl,T0.nW,xhX,_,rfl,_,rfl,_,rfl,t,_,_,_,rfl,rfl,xoU,xhR,_,rfl,wt,_,rfl,JS.of (xar hw),LE lr Ld⟩;have ec:xou xjl (xrk pl) (KF (xip pl ((xdT).drop 3)+3))=Wp xdT:=ec
  try dsimp only
  erw [ec]
  have s6:=xbG xdT Ld;have Zt:=xcj ht;have NJ:xct H5 lr xdT lr=ω xdT:=ac;have s6:=s5.trans s6;show xdS H5 lr xdT H6;show xgD ⟨_,rfl,t,_,_,_,rfl,rfl,xGt,xhR,?_⟩ ⟨_,rfl,t,_,_,_,rfl,rfl,xGt,xhQ,rfl,_,rfl,xnh⟩ ⟨_,rfl,p,dx,_,rfl,xcj hp,xgh,_,rfl,p,co,ck,g4,wt,lr,T,xd1,G4,Y,rfl,⟨xdr (xcj hp),xvx c o e (xcj e),xcj hw⟩,NJ,Sc H7 hR7 Sn⟩;exact⟨0,by lia,xd1,_,true,g4,G4,_,_,rfl,Sn _ _ (xcj QV) K9,by show IO hTn hR7,λ c o e a1 a2 a3=>Sn _ _ (xcj (xkz e a1 a2 a3)) a1,ZF,P3,hG,VS,.inr (xay rfl rfl ed erest)⟩
abbrev lM:JL:=xaD 123 0
abbrev mD:JL:=xaD 123 1
abbrev mK:JL:=xaD 123 2
abbrev qX:JL:=xaD 123 3
abbrev mI:JL:=top 124
def fQ (r:JB):xex:=[("reading",xjM)]
def uQ (r):xi5 "reading" r []=xy0:=rfl
def BI (r):xcM xy0 "reading"=ST r:=by rw [<-uQ,ao,Τ]
def gE (r){x:Str}(h:xdA (x="reading")):xkW xy0 x:=by
 rw [<-uQ,ao,Dc h];rfl
def Cf (r r'):xi5 "reading" r' xy0=fQ r':=by
 show(xgL (xck "reading"="reading"))=_;rw [Τ];rfl
structure VE (K:Frag)(mg:W1)(C:JB):Prop where
 cl:xgc
 nR:xcE "reading"
 m:mg "Opener"=xhM
 init:∃f fd,xfx K "Opener.__init__" lM f/\xy7/\xqo
 feed:∃f fd,xsX "feed" "Opener.feed" mD Jaj f fd
 over:∃f fd,xg2 "over" "Opener.over" mK
 fin:∃f fd,xg2 "finish" "Opener.finish" qX
def Bb (h:W++z=mk3++Y):W.take 3=xMA:=by
 show xaX W.length 3 q q
 ·show xeo (xDI W.length h) Jc (Ed (Dr q));rw [<-this,Dv (Dr q)]
 ·show xc6 (xDI 3 h) (Ed q);rw [this,Dv (show mk3.length≤_ from q)];rfl
inductive PD (Ce CO CK:JB) (vs:KB) (H:Hp) (Q:VK) (JT:XK):Prop
 |mk (p co ck g wt a:JB) (T G W r rest:Fr) (Rs:xfP) (j0:Nat) (bg:Bool) (h0:vs=[Φ,SZ]) (h1:xl0 H g (xgq j0) j0 G W bg false) (h2:xkt) (h3:xxa) (h4:xku) (h5:Op T Rs bg false j0 G W (r++rest)) (h6:Uf=Ι xxk) (h7:xiE (xbq W r)) (h8:∀l j fn U2 g' Qn G' W' H',Θ->xaq=ω (xjm j (64*j0))->xFV H' g' Qn xyD j G' W' U2 fn->Op T Rs U2 fn j G' W' rest->j0≤j->(∀c o,WF=Id->xai->Ν co->xsG->xaB=Id)->xak):PD Ce CO CK vs H Q JT
def P5:Ps (xmC "row" "signs") Jaj mx:=M2
def tU (F:Υ "go_through" "Reading.go_through" mx)(Z:xqt):Α 42 Jaj (PD Ce CO CK):=by
 have T0:=Z.tt;show Η Ma Z.mark Pa Z.parts;show xmQ La Z.pr.nlast P5 (λ JN A outer st H vs Q E hr h=>?_)
 intro _;obtain⟨p,co,ck,gA,wt,a,T,G,W,r,rest,Rs,j0,bg,rfl,hR,hT,Oy,hN,op,ha,Xj,k⟩:=h;obtain⟨n1,n2,n3,n4,n5,n6⟩:=hR.ne;show xq2 dx hp hw hR;have J5:xa0:=PP;have L4:xqc:=PP;show xbf (xdu (xcB XL KM) (ab (aH (xqT XL) (ae (aB (xo2 Os Ma (ug Ma.F Z) L4))) az)
  (xaU 2 P5.nd (jy xGR (xo2 Os Pa (pX Pa.F Z) hr) xdM) (aH xGR (ae (aB (xbe (pH La Z.pr) J5 La XL aj))) az) On))) (xiV ⟨_,rfl,p,Ce,dx,_,_,rfl,hp,T0.cl,T0.nW,xhX,_,rfl,wt,a,_,_,rfl,rfl,hw,ha,a9 (by rw [<-CN,<-C8,CM];exact Xj),LE l1 nl1⟩)
 rw [<-C8];have Yu:=op.re rfl;rw [<-CQ] at Yu;generalize W++r=Y at*;have s1:=xas xjl nl1;have K9:xaP l1:=xbP hp nl1;show xe6 ⟨_,rfl,p,Ce,dx,_,rfl,xnm,T0.cl,T0.nW,xkC,xbw⟩ g;rw [oJ];have Lm:∀c o,WF=Id->xai->xiB (xby H l1 xjl) (xy4 l1 bg) c=Id:=λ c o e n=>xeb n xb5
 have Kq:xiB (xby H l1 xjl) (xy4 l1 bg) p=xea Ce (xy4 l1 bg):=ac;show xbB Zs (xiB (xby H l1 xjl) (xy4 l1 bg) l1=Ι xjl) (xeb K9 ac) (xiB (xby H l1 xjl) (xy4 l1 bg)) H1;have Vv:=hC.off Lm n1 n2 n3;have nn:∀{c} {H2:Hp},(∀c o,WF=Id->xai->xkl=Id)->(∃o,H2 p=Id)->Ζ xkl->XV c:=λ {c H2} kp ⟨o,h⟩ n=>by
  cases e:WF with
  |none=>rfl
  |some o=>
   by_cases z:c=p
   ·show xbY h n n
   ·show Tl xCT n n
 show SC (xEv g) ((λ(J:∀bg (wt:JB) (Y:List Nat) (H2:Hp),KS Ce CO CK H2 p co ck gA wt (T.take (64*j0)) j0 G Y bg false->(bg=true->Y++rest=rem T Rs j0)->(bg=false->j0=0/\Y.length<3/\Y++rest=mk3++rem T Rs 0)->(∀c o,H c=some o->c≠p->H2 c=some o)->R2 [some (.ref p),some (.ref a),none] H2)=>?_) (λ bg wt Y H2 K3 KH OV NC=>xbw))
 ·cases bg with
  |true=>exact⟨_,rfl,p,Ce,dx,_,_,rfl,Kq,T0.cl,T0.nB,tO _ _ _ _,true,rfl,bd (J true l1 Y H1 ⟨xdr Kq,Vv,Zs⟩ (λ _=>Yu) nofun Lm)⟩
  |false=>
   obtain⟨ej,_,_⟩:=op.b0 rfl;show SC ⟨_,rfl,p,Ce,dx,_,_,rfl,Kq,T0.cl,T0.nB,tO _ _ _ _,false,rfl,xnh⟩ ⟨_,rfl,p,dx,_,rfl,Kq,xgh,p,co,ck,_,l1,_,j0,G,Y,rfl,⟨xdr Kq,Vv,Zs⟩,Bb Yu,Sc h3 H2 s2,λ Y' wt2 H2 e K3 NC=>?_⟩
   ·exact J false l1 Y H2 ⟨xdr (xca Kq),Vv.keep λ c o e _=>xca e,xca Zs⟩ nofun (λ _=>⟨ej,h3,Yu⟩) λ c o e n=>xca (Lm _ _ e n)
   ·subst e;exact J true wt2 Y' H2 K3 (λ _=>by show IO ej (List.append_cancel_left (as:=mk3) Yu)) nofun λ c o e n=>xqq (Lm _ _ e n) n
 clear g;show xbp Ql J9 K3.ob (aq (LE R3 g))
 refine(λ(J:∀(l:JB) (j:Nat) (fn U2:Bool) (g' Qn:JB) (G' W':List Nat) (H':Hp),H l=none->H' l=some (.lst (((T.take (64*j)).drop (64*j0)).map vN))->KS Ce CO CK H' p co ck g' Qn (T.take (64*j)) j G' W' U2 fn->Op T Rs U2 fn j G' W' rest->j0≤j->(∀c o,H c=some o->c≠p->c≠co->c≠ck->H' c=some o)->R3 [some (.ref p),some (.ref a),some (.ref l)] H')=>?_) (λ l j fn U2 g' Qn G' W' H' nl hl OX Yk hj fr=>xbw)
 ·cases bg with
  |true=>exact⟨_,rfl,p,Ce,Ql,_,_,rfl,J9,T0.cl,T0.nB,tO _ _ _ _,true,rfl,d8 ⟨_,rfl,p,Ql,_,rfl,J9,xgh,p,co,ck,_,wt,T,Y,G,rest,Rs,j0,rfl,K3,hT,Oy,hN,op.jn,op.gw,KH rfl,λ l j fn g3 wt3 G3 W3 H3 nl hl KQ op3 hj fr=>J l j fn true g3 wt3 G3 W3 H3 (nn NC (xbs J9) nl) hl KQ op3 hj λ c o e a1 a2 a3=>xkz (xqq e a1) a1 a2 a3⟩⟩
  |false=>
   show xa8 ej h3 hb (OV rfl) ⟨_,rfl,p,Ce,Ql,_,_,rfl,J9,T0.cl,T0.nB,tO _ _ _ _,false,rfl,bd (xg9 xf7)⟩;have s3:=xj0 nl;show xfW (J l j0 false false _ wt G Y _ (nn NC (xbs J9) nl) ?_ ⟨⟨Ql,xbL J9⟩,K3.cr.keep λ c o e _=>xbL e,xbL K3.ws⟩ ⟨op.jn,op.gw,λ _=>hb,λ _=>xnc ej h3,nofun,nofun⟩ P3 λ c o e a1 _ _=>xbL (xqq e a1)) (xae (xjm j0 (64*j0)) [] (ED (by show IO Dd xiF))) ac
 clear g;show xpq Mp Kz OX.ob last (xdE j fn U2 g' Qn G' W' H' nl hl OX Yk hj fr);cases fn with
 |false=>exact⟨_,rfl,p,Ce,Mp,_,_,rfl,Kz,T0.cl,T0.nF,rg _ _ _ _,false,rfl,xCY last⟩
 |true=>
  have hw':=OX.ws;show UV (Μ (Yk.fi rfl)) hw' ⟨_,rfl,p,Ce,Mp,_,_,rfl,Kz,T0.cl,T0.nF,rg _ _ _ _,true,rfl,d8 ⟨_,rfl,p,Ce,Mp,_,_,rfl,Kz,T0.cl,T0.nW,xhX,Qn,rfl,hw',_,rfl,last⟩⟩
def Kl (Cp Ce CO CK:JB)(N:Ψ JB)(H:Hp)(p:JB)(T:Fr)(Rs:xfP)(fn:Bool)(j:Nat)(rest:Fr):Prop:=∃dx r co ck g wt G W bg,xa2=xea Cp xy0/\N r/\N co/\N ck/\xHQ H r co ck g wt xyD j G W bg fn/\Op T Rs bg fn j G W rest
def Kl.keep {rest:Fr}(h:xgX N H p T fn j rest)(s:∀c o,WF=Id->c=p\/N c\/(∃xs,o=xrm)->xaB=Id):xgX N H' p T fn j rest:=by
 obtain⟨dx,r,co,ck,g,wt,G,W,bg,h0,h1,h2,h3,⟨⟨dr,hr⟩,hC,hw⟩,op⟩:=h;obtain⟨⟨_,c1⟩,⟨_,c2⟩,c3,c4⟩:=hC;exact⟨dx,r,co,ck,g,wt,G,W,bg,xgi h0 xbZ,h1,h2,h3,⟨⟨dr,xhm _ _ hr (.inl h1)⟩,⟨xbs (xhm _ _ c1 (.inl h2)),xbs (xhm _ _ c2 (.inl h3)),xhm _ _ c3 xFB,c4⟩,xhm _ _ hw xFB⟩,op⟩
theorem iK:∀{m},j≤m->m≤Rs.length->xbz (xeO m) (xwe).length/\(j<m->xip (nxt T Rs j).length (xeO m)≤(xwe).length)
 |0,h,_=>by
  obtain rfl:=Nat.le_zero.1 h;exact xpP (nofun)
 |m+1,h,hm=>by
  show xaX j (m+1) z z
  ·obtain⟨h1,h2⟩:=iK (T:=T) (Eh z) (Ff hm);show xws e1 (gK (T:=T) (show xrz m from hm));show xoh e3 (xeI e1) CN e3 ⟨by lia,xcm⟩;show xaX j m y y
   ·show xaR (h2 y)
   ·obtain rfl:=Dy (Eh z) y;show xam e2
  ·obtain rfl:=Dy h z;exact xpP (xef q q xmT)
def Op.done (h:Op T Rs bg fn j G W [])(hN:xku):NE fn/\j=xd1:=by
 cases fn with
 |true=>exact xb2 (h.fi rfl).1
 |false=>
  exfalso;show xaM e (xeI (h.re rfl)) DM e;cases bg with
  |false=>
   have:=xaY xJK;rw [Dc Dp,CN] at e;have:xGe 3:=rfl;lia
  |true=>
   have:=h.b1 rfl rfl;rw [Τ] at e;show xaX j Rs.length z z
   ·show xws e1 (gK z);rw [e1,CN] at e;show xmj e2;lia
   ·show xws e1 (i6 z);rw [e1] at e;show xmj e2;lia
def WN.one (hN:xku)(hb:xkt)(h:xrz m):xGh Rs[m]/\xbz Rs[m] 69:=by
 have pb:=hN.2 m _ (CU h);have tw:=vn (i:=m) (by rw [hN.1] at h;unfold nB at h;lia) hb;refine⟨?_,xEr.2⟩;obtain⟨i,ps,Rb,_,_,_,e,_⟩:=xJJ;rw [e,f9];exact IM 1 _
theorem Op.at (h:Op T Rs bg fn j G W (xeO m))(hN:xku)(hb:xkt)(hm:m≤xd1):ρ fn/\j=m:=by
 cases fn with
 |true=>
  have:=xeI (xaY (h.fi rfl));unfold rem at this;show xmj CN;have MO:xat xdT 11:=rfl;show Tl MO this this
 |false=>
  refine xgB;have hj:=h.jn;rw [<-hN.1] at hm hj;show xaM e (xeI (h.re rfl)) CN e;cases bg with
  |false=>
   have h1:=xaY xJK;have h2:=(iK (T:=T) (DB m) hm).1;rw [Dc Dp,CN] at e;have:xGe 3:=rfl;lia
  |true=>
   show xaM h1 (h.b1 rfl rfl) Τ e;rcases Ib j m with z|z|z
   ·show xaR ((iK (T:=T) (Dr z) hm).2 z)
   ·exact z
   ·show xc6 ((iK (T:=T) (Dr z) hj).2 z) (gK (CZ z hj)).2;show xaR (hN.one hb (CZ z hj)).1
def Op.wl {rest:Fr}(h:Op T Rs bg false j G W rest)(hN:xku)(hb:xkt):xDx 69:=by
 cases bg with
 |false=>show xaR (xaY xJK)
 |true=>
  have:=h.b1 rfl rfl;show xaX j Rs.length z z
  ·show xmj (gK z).2;show xaR (hN.one hb z).2
  ·show UV (i6 z).2 this (xCQ this (show 11≤69 by decide))
inductive PV (Cp Ce CO CK:JB) (vs:KB) (H:Hp) (Q:VK) (JT:XK):Prop
 |mk (p dx:JB) (h0:vs=xaO) (h1:xa2=xea Cp []) (h2:xe0 ((∀T Rs,xgX (λ c=>XV c) H' p T false 0 (mk3++xn4))->xcT (∀c o,WF=Id->xai->xaB=Id))):PV Cp Ce CO CK vs H Q JT
def wz:xc3 lM:=M2
def kz (F:xfx K "Opener.__init__" lM f)(Z:xqt)(O:VE K mg Cp):xfF 8 (PV Cp Ce CO CK):=by
 show xjf bI MI Z.init;show xau wz (λ JN A outer st H vs Q E hr h=>?_);show xcN p dx hp k h;refine xaT (xxU (xp2 (kP FI Z.tt Z.pr.R) hr Z.tt.m bI a7));intro x dk nx Qo V7;have s0:=xti Ce Qo;refine xay x dk ac (λ co ck g wt H1 Sa OJ hR Lm=>xgB);have s1:xnk:=λ b o e=>Lm b o (s0 b o e) xrG
 have Kq:=xnm;refine⟨_,rfl,p,Cp,dx,[],rfl,Kq,O.cl,O.nR,Z9,?_⟩;rw [uQ];show xq2 LF ON hw hR;have kp:∀c o,H1 c=Id->xai->(xcJ H1 p Cp dx (fQ x)) c=Id:=λ c o e n=>xeb n e
 have ne:∀{c},XV c->xai:=λ n z=>by show xbY hp n n
 have hq:∀{xs:KB} {c},H1 c=xb8->xai:=λ e=>xkn Kq (by show τ)
 have Sa:=xgu Sa;have OJ:=xgu OJ;exact xcF (λ T Rs=>⟨dx,x,co,ck,g,wt,[],[],false,ac,nx,Sa,OJ,⟨⟨LF,xap ON (ne nx)⟩,xFN (ne Sa) (ne OJ) (hq hC.gr),xap hw (hq hw)⟩,⟨Ω,xfH,xfH,λ _=>xfE rfl Z9,nofun,nofun⟩⟩) λ c o e n=>xap xb5 n
inductive PX (Cp Ce CO CK:JB) (vs:KB) (H:Hp) (Q:VK) (JT:XK):Prop
 |mk (p a:JB) (N:Ψ JB) (T r rest:Fr) (Rs:xfP) (j:Nat) (h0:vs=[Φ,SZ]) (h1:xgX N H p T false j (r++rest)) (h2:xkt) (h3:xxa) (h4:xku) (h5:Uf=Ι xxk) (h6:xgH r) (h7:r.length≤1900) (h8:∀l j' fn H',Θ->xaq=ω (xjm j' (64*j))->xgX (λ c=>XV c) H' p T fn j' rest->j≤j'->(∀c o,WF=Id->xai->xaB=Id)->xak):PX Cp Ce CO CK vs H Q JT
def LV:Ps ["self","row","come","trial","signs"] Jaj mD:=M2
def kY (F:Υ "feed" "Opener.feed" mD)(Z:xqt)(O:VE K mg Cp):Α 43 Jaj (PX Cp Ce CO CK):=by
 have T0:=Z.tt;show Η N' Z.pr.H.need Tw Z.twin;show xmQ Th Z.thru LV (λ JN A outer st H vs Q E hr h=>?_)
 intro _;obtain⟨p,a,N,T,r,rest,Rs,j,rfl,⟨dx,r0,co,ck,g,wt,G,W,bg,hp,_,_,_,⟨⟨dr,NV⟩,hC,hw⟩,op⟩,hT,Oy,hN,ha,hb,Xj,k⟩:=h;have OP:xan 4:=PP;have Zw:xan 8:=PP;show xbf (xaz 2 LV.nd (cx (bG N' Z.pr.H.N) OP Z7 N'.m N'.F.kp N'.b .nil a7 xCi) (xaz 3 LV.nd (xo2 XL Tw (ur Tw.F Z) Zw) (xaU 4 LV.nd (aX UF T0.cl Th (tU Th.F Z) hr xx7) (xqA Os UF) υ))) ⟨_,rfl,a,_,rfl,ha,hb,LE l1 nl1⟩;have s1:=xas xxk nl1;have Mn:xbC H l1 xxk l1=Ι xxk:=ac;show xbb H l1 xxk H1;show xhh ⟨_,rfl,p,Cp,dx,_,_,rfl,xnm,O.cl,O.nR,BI _,r0,dr,_,rfl,xch NV,xgh,r0,co,ck,g,wt,_,j,G,W,bg,false,rfl,⟨⟨dr,xch NV⟩,xvx c o e xb5,xch hw⟩,λ q Tv Y3 g2 wt2 H2 nq no nk K3 s2=>?_⟩ dq hq K3.ob;have s2':=xe4;have Ys:=op.wl hN hT;refine⟨_,rfl,q,dq,_,rfl,hq,xgh,_,rfl,q,Tv,Y3,g2,wt2,l1,T,G,W,r,rest,Rs,j,bg,rfl,K3,hT,Oy,hN,op,xca Mn,by show xam CN,λ l3 j3 fn bg3 g3 wt3 G3 W3 H3 nl3 Lo KQ op3 hj fr3=>?_⟩;have kp:∀c o,WF=Id->H3 c=Id:=λ c o e=>fr3 _ _ (s2' _ _ e) (ad xb5 nq) (ad xb5 no) (ad xb5 nk)
 have hp3':=xap hp;refine⟨_,rfl,_,rfl,p,Cp,dx,_,rfl,hp3',O.cl,O.nR,(by show xcC 1),?_⟩;rw [Cf];have ne:∀{c},xfO c->xai:=λ n z=>by show xbY xnm n n
 have Kc:∀c o,H3 c=Id->xai->(xcJ H3 p Cp dx (fQ q)) c=Id:=λ c o e n=>xeb n e
 have Sf:∀{xs:KB} {c},H3 c=xb8->xai:=λ e=>xkn hp3' (by show τ)
 obtain⟨⟨Mp,hx3⟩,SX,Ve⟩:=KQ;exact xbd (k l3 j3 fn _ (none_of s2' nl3) (xaK Lo (Sf Lo)) ⟨dx,q,Tv,Y3,g3,wt3,G3,W3,bg3,ac,xh7 nq,xh7 no,xh7 nk,⟨⟨Mp,xaK hx3 (ne nq)⟩,SX.off Kc (ne no) (ne nk) (Sf SX.gr),xaK Ve (Sf Ve)⟩,op3⟩ hj λ c o e n=>xaK (xap e) n)
inductive PU (Cp Ce CO CK:JB) (vs:KB) (H:Hp) (Q:VK) (JT:XK):Prop
 |mk (p:JB) (N:Ψ JB) (T rest:Fr) (Rs:xfP) (j:Nat) (fn:Bool) (h0:vs=xaO) (h1:xgX N H p T fn j rest) (h3:xeX fn):PU Cp Ce CO CK vs H Q JT
def w6:xc3 mK:=M2
def ki (F:Υ "over" "Opener.over" mK)(T:Y4 K mg Ce)(O:VE K mg Cp):xgS (PU Cp Ce CO CK):=by
 show xau w6 (λ JN A outer st H vs Q E hr h=>?_);obtain⟨p,N,T',rest,Rs,j,fn,rfl,⟨dx,r,co,ck,g,wt,G,W,bg,hp,_,_,_,hR,_⟩,k⟩:=h;show xa4 dr NV hR.ob ⟨_,xcc (ay XL rfl),_,rfl,p,Cp,dx,_,_,rfl,hp,O.cl,O.nR,BI _,r,Ce,dr,_,_,rfl,NV,T.cl,T.nF,rg _ _ _ _,k⟩
inductive Rt (Cp Ce CO CK:JB) (vs:KB) (H:Hp) (Q:VK) (JT:XK):Prop
 |mk (p:JB) (N:Ψ JB) (T rest:Fr) (Rs:xfP) (j:Nat) (h0:vs=xaO) (h1:xgX N H p T true j rest) (h3:xjN H):Rt Cp Ce CO CK vs H Q JT
def xh:xc3 qX:=M2
def om (F:Υ "finish" "Opener.finish" qX)(T:Y4 K mg Ce)(O:VE K mg Cp):xfF 2 (Rt Cp Ce CO CK):=by
 show xmQ Ov O.over xh (λ JN A outer st H vs Q E hr h=>?_)
 intro _;obtain⟨p,N,T',rest,Rs,j,rfl,ho,k⟩:=h;obtain⟨dx,_,_,_,_,_,_,_,_,hp,_⟩:=id ho;refine xaT (ae (xpa (bj Os O.cl Ov (ki (CO:=CO) (CK:=CK) Ov.F T O) hr)));exact⟨_,rfl,p,dx,_,rfl,hp,xp9,p,N,T',rest,Rs,j,true,rfl,ho,_,rfl,bd k⟩
inductive PQ (vs:KB) (H:Hp) (Q:VK) (JT:XK):Prop
 |mk (a:JB) (T Y:Fr) (h0:vs=xbU) (h1:xkt) (h2:xxa) (h3:WH T Y) (h4:Uf=Ι xjl) (h5:∀l H',Θ->xaq=xbJ->Β->xak):PQ vs H Q JT
def M7:Ps ["row","opener","text"] Jam mI:=M2
theorem WN.facts (hb:xkt)(hl:xxa)(h:xku):(xgH (xxl xdT))/\xIG 1300:=by
 have hf:∀j (hj:xrz j),xa1 Rs[j]/\xbz Rs[j] 69:=λ j hj=>(xez j _ xHA).facts (vn (by rw [xbW] at hj;unfold nB at hj;lia) hb)
 have J7:∀R∈Rs,xa1 R/\xxP 69:=λ R hR=>by
  show xeJ j hj (List.getElem_of_mem hR);exact hf j hj
 refine xcO (LE x hx)
 ·rcases xIf hx with z|z
  ·show xa9 R hR hx (List.mem_flatten.1 z) ((J7 R hR).1 x hx)
  ·refine tj (LE b KI) x z;show xbR KI KI KI
   ·show xbR KI KI KI
    ·exact eI Z9 Z9 b KI
    ·exact oH _ b KI
   ·exact gu (gO mf hb) b KI
 ·have h1:∀L:xfP,(∀R∈L,xxP 69)->L.flatten.length≤69*L.length:=λ L=>by
   induction L with
   |nil=>exact λ _=>Ω
   |cons R L ih=>
    intro h;have:=ih λ R' OX=>xhv R' OX
    have:=xkG R;rw [Es,CN,Df];lia
  have:=h1 Rs λ R hR=>(J7 R hR).2
  have h2:=xbW;unfold nB at h2;lia
def ut (F:Ε "opened" mI Jam)(Z:xqt)(O:VE K mg Cp):Α 44 Jam PQ:=by
 show xjf bI MI O.init;show Η Fe O.feed Fi O.fin;show xbj M7 (λ JN A outer st H vs Q E hr h=>?_);obtain⟨a,T,Y,rfl,hT,Oy,hW,ha,k⟩:=h;show xeJ Rs hN hW.all;obtain⟨hb,Xj⟩:=hN.facts hT Oy;have Vh:xan 9:=PP;have L4:xqc:=PP;refine xfV 1 M7.nd (xp2 (kz FI Z O) Vh O.m bI a7) (xaU 2 M7.nd (xwW O.cl Fe (kY Fe.F Z O) hr xgA) (aB (bj KM O.cl Fi (om (CO:=CO) (CK:=CK) Fi.F Z.tt O) L4)) On)
 intro p dp np Qe UO;have s0:=xh8 Cp np Qe;refine xay p dp ac (λ H1 ho Lm=>xgB);have s1:xnk:=λ b o e=>Lm b o (s0 b o e) xo4
 have ho:=ho T Rs;obtain⟨dx,_,_,_,_,_,_,_,_,hp,_⟩:=id ho;refine⟨_,rfl,p,dx,_,rfl,hp,xp9,_,rfl,p,a,_,T,_,[],Rs,0,rfl,(DM (mk3++xn4)).symm▸ho,hT,Oy,hN,xln,LE x hx,?_,λ l j fn H2 nl hl YD _ fr=>?_⟩
 ·rcases xIf (show x∈mk3++(xxl xdT) from hx) with z|z
  ·exact(by decide:xgH mk3) x z
  ·exact xnL z
 ·show xbq Rs.flatten xdT+3≤1900;rw [CN];show _+11+3≤1900;lia
 obtain⟨Ql,_,_,_,_,_,_,_,_,J9,_,_,_,_,op⟩:=id YD;show xcI rfl (op.done hN);show UV (xae (xjm xd1 (64*0)) T (Dv (by unfold nB;lia))) hl ⟨_,rfl,p,Ql,_,rfl,J9,xp9,p,_,T,_,Rs,_,rfl,YD,_,rfl,xdE H2 (xh7 nl) hl λ c o e=>xkz xb5 xo4⟩
universe K31.Ck
namespace K31.Ck
open PySem L2 QQ
seal PE PA PS PSs PT PW PG PI
abbrev mE:JL:=top 129
abbrev gN:JL:=top 130
inductive Ut (K:Frag) (vs:KB) (H:Hp) (Q:VK) (JT:XK):Prop
 |mk (a:JB) (ns:xjr) (k:Nat) (h0:vs=[SZ,vN k]) (h1:xfh a xdk) (h2:xkI (ns.getD k 0)):Ut K vs H Q JT
def zT:Ps xA1 xA1 mE:=M2
def xm (F:Ε "_law_cell_at" mE xA1)(X:xgT):xey xA1 (Ut K):=by
 show xbj zT (λ JN A outer st H vs Q E hr h=>?_);obtain⟨a,ns,k,rfl,hS,q⟩:=h;show xlq (xmZ (xhr dt KM xx4 (xcc (xkf KM)) az) aj) ⟨_,rfl,_,rfl,a,_,rfl,.inl hS,_,_,rfl,rfl,_,rfl,?_⟩ xkd
 ·have h2:xxY k:=by show xkX xii CM xus
  refine⟨_,rfl,_,rfl,a,_,_,V.int (ns.getD k 0),rfl,rfl,hS,aE ?_,q⟩;rw [DX,CU h2,Dn,CU h2];rfl
 ·have Lx:xfM xka (xfD xdk)≠true:=h1;have h2:xBw k:=by
   rw [CM] at Lx;by_cases h:xka<SL ns.length
   ·exact xtA h Lx
   ·exact I0.mp (xIV h)
  try dsimp only
  rw [Dn,DH h2] at q;exact q
noncomputable def Aj (c k:Int):Int:=((c*48271+16807*k*k+69621*k+11)%2147483647*69621)%2147483629
def mixN (c k:Int):Nat:=(Aj c k).toNat
def yA (c k):SL (mixN c k)=Aj c k:=Int.toNat_of_nonneg (xMB Z9)
inductive Rx (vs:KB) (H:Hp) (Q:VK) (JT:XK):Prop
 |mk (c k:Int) (h0:vs=[xrX,.int k]) (h1:0≤k) (h2:xbH k) (h3:xlm (mixN c k) H):Rx vs H Q JT
def xp:Ps Jal Jal gN:=M2
def jY (F:Ε "_law_mixed" gN Jal):xey Jal Rx:=by
 show xbj xp (λ JN A outer st H vs Q E hr h=>?_);obtain⟨c,k,rfl,h0,h1,q⟩:=h;show xgD (xee (xru (xfu cS (xru (xhy (xbA (xbA (xfu cS Os) (ap cS (xwk KM) KM)) (xwk KM))))))) ⟨_,rfl,_,_,rfl,rfl,xcv Z9 Z9,_,rfl,_,_,rfl,rfl,xCF,_,rfl,_,_,rfl,rfl,xcv Z5 Z5,_,_,rfl,rfl,?_⟩ ⟨_,rfl,_,_,rfl,rfl,xCF,_,_,rfl,rfl,_,_,rfl,rfl,_,_,rfl,rfl,(by show xet 2147483647),_,_,rfl,rfl,xcv Z9 Z9,_,_,rfl,rfl,(by show xet 2147483629),?_⟩
 try dsimp only
 show UV (xae (vN (mixN c k):V) (V.int (Aj c k)) (xEg (yA c k))) q q
universe K31.Ck
namespace K31.Ck
open PySem L2 QQ W17 W16 BP
seal PE PA PS PSs PT PW PG PI
abbrev vP:JL:=top 131
def lm (xs)(h:xbx m):xou xs (some xhC) xaf=xb6 (xs.drop m) n m:=by
 unfold cutV;rw [HT.Kw,HT.Kw];rcases xMC m with h1|h1
 ·rw [DL h1];rcases xMC n with h2|h2
  ·rw [DL h2]
  ·rw [Fc h2,Dv (by show IO C6 P3),Dv (by show IO C6 (Fs h2 _))]
 ·rw [Fc h1,Fc (CV h1 h),ED h1,IB];simp
def rj (hx:xEo ([xmF ".0",xmF k,(z,.globalImplicit),(y,.cell)]:xw9)=xfC\/xCJ (xEo ([xmF ".0",xmF k,(z,.globalImplicit),(y,.cell)]:xw9))):x=y:=by
 rcases hx with hx|hx
 ·have m':=xzQ;simpa using m'
 ·have m':=xzQ;simp at m'
def BM:(xJY:xaj).Nodup:=Z8
def pL {te:TE}{σ0:St}{R:xfi JB}(hk:xbH k)(h0:σ0=[none,xab])(hte:∀(j:Nat) (H':Hp) (Q:VK),xbH j->Β->(∀b,xbN b->xbr xdz)->te [SB j,xab] H' Q)(mt:∀σ H (A B:VK),(∀v H',xl3 v->xl4 v)->xhU A->xhU B)
  (h:∀(l:JB) (S:Fr) (H':Hp),Θ->Β->xaq=xir->xyq k->xa1 S->R l H'):∀l,Θ->∃W:xpZ,(∃m,xsk [] σ0 (xej H []))/\∀i m ys σ' H',xpH->
   (xmO (Su 0 k) H'/\R l H')\/(xnC (Su 0 k) H'/\∀x H2,xm9 (Su 0 k) H' x H2->xiz x σ' H2 λ σ3 H3=>xwg λ y H4=>
    xhJ=xen/\xh5/\xcH (m'<m/\xiw (i+1) (ys++xdD) xix)):=λ l nl=>by
 subst h0;refine kM (g:=xiz) (te:=te) (lo:=0) (l:=l) (k:=k) (λ p ys σ H2=>∃(v0:xc0) (S:Fr),σ=[v0,xab]/\ys=xkO/\xyq p/\xa1 S/\xhL=xen/\xiq)
  ⟨none,[],rfl,rfl,rfl,(xuA h h),ac,xfY⟩ ?_ ?_ (λ x σ H A B h z=>xiM) mt
 ·rintro p ys σ H2 hp ⟨v0,S,rfl,rfl,hl,hb,h2,sm⟩;have e:xcQ+xlO=xlO:=Jv ↑_;show Tm e (hte p H2 _ (xCQ hp hk) sm λ b KI=>⟨h2,bw (by show xcS),_,S++xft,rfl,by rw [C8];rfl,by rw [CN,hl];rfl,LE x hx,ac,λ d o e=>by show xl2 xph⟩)
  show xbR hx z z
  ·exact xvU z
  ·show xib z KI
 ·rintro ys σ H2 ⟨v0,S,rfl,rfl,hl,hb,h2,sm⟩;exact h l S H2 nl sm h2 hl hb
inductive Ud (vs:KB) (H:Hp) (Q:VK) (JT:XK):Prop
 |mk (c:Int) (s:Nat) (h0:vs=[xrX,xci]) (h1:s≤520) (h2:∀(l:JB) (T:Fr) (H':Hp),Β->Θ->xaq=xbJ->T.length=s->xa1 T->xak):Ud vs H Q JT
def Ku:Ps ["_law_cell","_law_size","_law_text_here","_law_turn","_law_number","_law_way","_law_long","_law_begin"] xF1 vP:=M2
def yI (F:Ε "_law_text" vP xF1)(Mi:xIE gN Jal fm fdm)(X:xgT):xlu xF1 Ud:=by
 have GM:=jY (P:=P) (w:=w) (base:=base) Mi;show xbj Ku (λ JN A outer st H vs Q E hr h=>?_);show xcN c s hs k h;have J5:xa0:=PP;show xvt hu;refine xfV 2 Ku.nd xdM (xaU 3 Ku.nd aj (xpu dt xGM KM (xaz 4 Ku.nd (xbe GM J5 Mi Os UF) (xaz 3 Ku.nd (xhy UF) (xaz 5 Ku.nd (xru υ) (xdQ 6 Ku.nd (xbA aj (xpb υ)) (xgs bK xaL aj (xom 2 Ku.nd (xcB On (xzh gR (xa7 (xpb υ)) xeN))) (ae (xgs bK xaL aj (xom 2 Ku.nd (xcB On (ji (N:=xJY) (js:=[none,some 4]) (cl:=[("_law_number",xD8 1)]) (g:=xiz) rfl ⟨rfl,Z8,Z8,Z7,λ x c h=>(by show xcI rfl (fX h);rfl),λ x hx=>(by obtain rfl:=rj hx;exact xbg),rfl,λ i x j h1 h2=>?c1⟩ (xxE Z7 (xa7 xeN)) (λ fp s H=>xqD 0 BM) (λ fp s H=>xpb (xbe GM J5 Mi KM Os))))) (ae (xgs bK xaL aj (xom 2 Ku.nd (xcB On (ji (N:=xJY) (js:=[none,some 4]) (cl:=[("_law_number",xD8 1)]) (g:=xiz) rfl ⟨rfl,Z8,Z8,Z7,λ x c h=>(by show xcI rfl (fX h);rfl),λ x hx=>(by obtain rfl:=rj hx;exact xbg),rfl,λ i x j h1 h2=>?c2⟩ (xxE Z7 (xa7 xeN)) (λ fp s H=>xqD 0 BM) (λ fp s H=>xbA (xpb KM) (xpb (xbe GM J5 Mi KM Os)))))) (ae (aH (xBR (xok bK xaL) (gz (xcZ xGK On xdM))) (xdQ 7 Ku.nd (ap bA (xrv υ) xGM) (xom 2 Ku.nd (xcB On (xsr On xmV (xbA xmV xeN))))) (xlc (xfj D1 D5 bu On (xpb υ))))))))))))))) (xwf On bF KM))
 case c1=>show xn1 (qQ h1 h2) (xdm rfl rfl (λ c h=>h))
 case c2=>show xn1 (qQ h1 h2) (xdm rfl rfl (λ c h=>h))
 show xbI (aq λ R1 g1=>xg9 (xdX l0 n0));show xwq (xeq (xac (λ m σ H2=>∃v4 v5 v6 v7 l A t,m=s-t/\σ=[xdJ c,xhN,xgQ,SB t,v4,v5,v6,v7]/\t≤A.length/\A.length≤s+20/\xa1 A/\xhL=Ι (A.map vN)/\Θ/\xiq) ⟨s,none,none,none,none,l0,[],0,rfl,rfl,Ω,Ω,(xuA h h),ac,n0,ak n0⟩))
 rintro m σ H2 ⟨v4,v5,v6,v7,l,A',t,rfl,rfl,ht,hA,hb,hl,nl,sm⟩;refine⟨_,rfl,l,_,rfl,Ο hl,_,rfl,_,_,rfl,rfl,_,rfl,?_⟩
 try dsimp only
 show Tm CM xkd
 rotate_left
 ·have K2:s≤A'.length:=by
   show xaR (G9 (Bool.not_eq_true _▸h1))
  refine g1 _ _ ⟨_,rfl,_,rfl,_,rfl,l,_,rfl,xBT,LE l2 n2⟩
  try dsimp only
  rw [dS,<-E1];exact k l2 (A'.take s) _ (sm.trans (ak n2)) (none_of sm n2) ac (by show IO Dd (DL K2)) λ b KI=>xhG (DN KI)
 clear g1;have JO:A'.length<s:=by have:=xii;exact xus
 show xnf (λ σ' H' z=>z) ⟨_,rfl,_,rfl,c,KF t,rfl,Z5,Z5,χ⟩;show xds ⟨_,rfl,_,_,rfl,rfl,χ⟩;generalize mixN c (KF t)=n;show xds ⟨_,rfl,_,_,rfl,rfl,(by show xet 5),χ⟩;show xds ⟨_,rfl,_,_,rfl,rfl,xfS,_,_,rfl,rfl,(by show xet 20),_,_,rfl,rfl,χ⟩;obtain⟨L,hL1,QE,eL⟩:∃L,Δ L/\L≤20/\xcr+xdW/5%20=KF L:=⟨1+n/5%20,DD 1 (_/5%20),Z5,Z5⟩;have Yb:xdW/100%256=KF (n/100%256):=Z5;have WW:xbN (n/100%256):=xnx
 try dsimp only
 rw [eL];have J:∀v7 (l2:JB) (S:Fr) (H3:Hp),xfL 1->xGg 20->xa1 S->H3 l2=ω (A'++S)->XV l2->xcn H3->xcH (m'<s-t/\∃(v4 v5 v6 Y5:xc0) (l':JB) (A2:Fr) (t':Nat),m'=s-t'/\[xdJ c,xhN,ST l2,xdJ (KF t+1),xnX,xdJ (xdW%5),xdJ (KF L),v7]=[xdJ c,xhN,ST l',SB t',v4,v5,v6,Y5]/\t'≤A2.length/\A2.length≤s+20/\xa1 A2/\H3 l'=Ι xJf/\XV l'/\xcn H3):=
  λ v7 l2 S H3 h1 h2 h3 h4 h5 h6=>⟨s-(t+1),xFs (DS ht JO),_,_,_,v7,l2,A'++S,t+1,rfl,rfl,by show IO CN (G2 ht h1),by show xam CN,λ b KI=>xml KI xhG (h3 b),h4,h5,h6⟩
 have one:xdo [n/100%256]:=λ b KI=>by show xib KI WW
 have fin:∀{v7:xc0} {lj:JB} {S:Fr} {H3:Hp},xsB H3->H3 lj=xir->xfL 1->xGg 20->xa1 S->XQ xah (.ref lj) H3 λ v H4=>xcH (m'<s-t/\∃(v4 v5 v6 Y5:xc0) (l':JB) (A2:Fr) (t':Nat),m'=s-t'/\[xdJ c,xhN,xab,xdJ (KF t+1),xnX,xdJ (xdW%5),xdJ (KF L),v7]=[xdJ c,xhN,ST l',SB t',v4,v5,v6,Y5]/\t'≤A2.length/\A2.length≤s+20/\xa1 A2/\H4 l'=Ι xJf/\XV l'/\xcn H4):=
  λ {v7 lj S H3} s3 h3 h1 h2 hS=>⟨l,lj,_,_,rfl,rfl,xbL hl,h3,a9 (by rw [CM,CM];lia),λ l5 n5=>by
   show xa5 C8 (J v7 l5 S _ h1 h2 hS ac (xBO xwZ) ((xwZ).trans (ak n5)))⟩
 refine xik _ _ xcm xcm
 ·refine⟨_,rfl,_,rfl,_,_,rfl,rfl,xfS,_,_,rfl,rfl,(by show xet 256),(by show xcR 1),LE l3 n3⟩
  try dsimp only
  rw [Yb];have s3:=xas [vN (n/100%256)] n3;refine⟨_,rfl,l3,_,_,rfl,rfl,ac,Gi (2^63) _,Z5,a9 (by show 1*_≤_;lia),LE l4 n4⟩
  try dsimp only
  rw [Dz,oP];have s4:=xbG (List.replicate L (n/100%256)) n4;show xfW (fin xEI ac (by show IO DI hL1) (by show IO DI QE) (LE b KI)) (List.eq_of_mem_replicate KI) WW
 refine xik _ _ xcm xcm
 ·refine⟨_,rfl,_,rfl,_,rfl,Z5,xC1 QE,?_⟩
  try dsimp only
  show Tm Dz (pL (v:=xd0) Z5 rfl (λ j H4 Q4 hj _ h4=>?_) ?_ (λ lj S H4 nj s4 h4 QV hb4=>fin s4 h4 (Ik hL1 QV.symm) (EZ QV QE) hb4))
  ·refine⟨_,rfl,_,rfl,_,_,rfl,xfl,Z5,_,_,rfl,rfl,xfS,_,_,rfl,rfl,(by show xet 256),?_⟩
   try dsimp only
   show IO (xae (KF (mixN xdW xvy)/7%256) (KF (mixN xdW xvy/7%256)) (F1 (xLC rfl))) (h4 _ xnx)
  ·rintro σ H A B h ⟨v,e1,v2,e2,c',k',e5,e6,e7,i,j,f1,f2,f3,i2,j2,f4,f5,f6,z⟩;exact⟨v,e1,v2,e2,c',k',e5,e6,e7,i,j,f1,f2,f3,i2,j2,f4,f5,f6,xiM⟩
 refine xik _ _ xcm xcm
 ·refine⟨_,rfl,_,rfl,_,rfl,Gi (2^62) _,xC1 QE,?_⟩
  try dsimp only
  show Tm Dz (pL (v:=xd0) (xc9 QE) rfl (λ j H4 Q4 hj _ h4=>?_) ?_ (λ lj S H4 nj s4 h4 QV hb4=>fin s4 h4 (Ik hL1 QV.symm) (EZ QV QE) hb4))
  ·refine⟨_,rfl,_,_,rfl,rfl,xfS,_,_,rfl,rfl,(by show xet 250),_,rfl,_,rfl,_,_,rfl,xfl,Jr rfl rfl hj,_,_,rfl,rfl,xfS,_,_,rfl,rfl,(by show xet 3),_,_,rfl,rfl,?_⟩
   try dsimp only
   show IO (show xdW/100%250+KF (mixN xdW xvy)/7%3=KF (n/100%250+mixN xdW xvy/7%3) by lia) (h4 _ Z5)
  ·rintro σ H A B h ⟨v,e1,i,j,f1,f2,f3,i2,j2,f4,f5,f6,v3,e3,v2,e2,c',k',e5,e6,e7,i3,j3,g1,g2,g3,i4,j4,g4,g5,g6,i5,j5,g7,g8,z⟩;exact⟨v,e1,i,j,f1,f2,f3,i2,j2,f4,f5,f6,v3,e3,v2,e2,c',k',e5,e6,e7,i3,j3,g1,g2,g3,i4,j4,g4,g5,g6,i5,j5,g7,g8,xiM⟩
 have app:∀{v7:xc0} {H3:Hp},xsB H3->OG xah [vN (n/100%256)] H3 λ v H4=>xcH (m'<s-t/\∃(v4 v5 v6 Y5:xc0) (l':JB) (A2:Fr) (t':Nat),m'=s-t'/\[xdJ c,xhN,xgQ,xdJ (KF t+1),xnX,xdJ (xdW%5),xdJ (KF L),v7]=[xdJ c,xhN,ST l',SB t',v4,v5,v6,Y5]/\t'≤A2.length/\A2.length≤s+20/\xa1 A2/\H4 l'=Ι xJf/\XV l'/\xcn H4):=λ {v7 H3} s3=>⟨l,_,_,rfl,rfl,xbL hl,bw (by show xcS),J v7 l [n/100%256] _ P3 (by show Δ 20;decide) one (by rw [ac,C8];rfl) nl λ e o z=>by show xh3 z nl (xbL (xeQ z))⟩
 refine xik _ _ xcm xcm
 rotate_left
 ·refine bd ⟨_,rfl,xeD hl,_,rfl,_,_,rfl,rfl,xfS,_,_,rfl,rfl,(by show xet 256),?_⟩
  try dsimp only
  show IO Yb (app (C'.refl _))
 ·refine xdK rfl Z9 (λ le ne=>⟨l,le,A'.map λ b=>xd2,[],rfl,rfl,?_,xxS,_,rfl,xec h h⟩)
  ·show xa5 iV (JS.of (ak ne _ _ hl))
  ·have hA0:0<A'.length:=by
    cases A' with
    |nil=>show xbm
    |cons _ _=>exact HF _
   have s3:=xj0 ne;have Lo:=xbL hl;show xbb H2 le [] H3;show xds ⟨_,rfl,_,_,rfl,rfl,xfS,_,rfl,l,_,rfl,Ο Lo,_,_,rfl,rfl,(by show xcQ<xmt (A'.map vN);show xes (IL.mpr hA0)),χ⟩;have NM:n/100%A'.length<A'.length:=FV _ hA0;have ebe:xdW/100%xmt (A'.map vN)=KF (n/100%A'.length):=by rw [CM,Int.natCast_emod,Int.natCast_ediv];rfl
   try dsimp only
   rw [ebe];generalize n/100%A'.length=be at*;refine⟨_,rfl,_,rfl,_,rfl,_,rfl,_,rfl,_,rfl,_,_,rfl,rfl,_,rfl,l,_,rfl,JS.of Lo,LE lc nc⟩
   try dsimp only
   rw [xae (KF be+KF L) (KF (be+L)) (xLL _),lm _ Z5,xae (be+L-be) L (FJ _ _),<-Fa,<-E1];exact fin (s3.trans (ak nc)) ac (by rw [Dd,C6];exact xIY ⟨hL1,Gj NM⟩) (by show IO Dd (CV xiF QE)) λ b KI=>xhG (DR (DN KI))
  ·refine⟨_,rfl,xeD (ak ne _ _ hl),_,rfl,_,_,rfl,rfl,xfS,_,_,rfl,rfl,(by show xet 256),?_⟩
   try dsimp only
   show IO Yb (app (ak ne))
universe K31.Ck
namespace L2
open PySem PySem.Spec PyProof.Rows QQ
def wM {K:Frag}{g:TG}{tb:TS}{D:Ends}{σ:St}{H:Hp}(Pv:xaQ xbM)(hlen:xqH ys.length)(h0:xll 0)(hl:∀i σ H,i≤ys.length->xiL->xeB/\xfh b ys)
  (hs:∀i x y p σ H,xde=Χ->xad ys y->xgU->xiL->g Φ σ (xbE H p [x,y]) λ σ2 H2=>xlF D xeF xeF H2) (hd:∀σ H,xll ys.length->xkq):
  ∃W:xhD xbM,(∃m,xsk σ H)/\∀i m σ H,xsj σ H->
   (xmO (Itz K a b) H/\xkq)\/(xnC (Itz K a b) H/\∃N:xbM,(∀σ' H',xwn->xcH (m'<m/\W (i+1) m' σ' H'))/\∀x H',xm9 (Itz K a b) H x H'->xrP H' λ σ2 H2=>xlF D N N H2):=by
 refine xac (λ i m σ H=>m=ys.length-i/\i≤ys.length/\xiL) ⟨ys.length,Z6,Ω,h0⟩;rintro i m σ H ⟨rfl,hi,p⟩;obtain⟨q1,q2⟩:=hl i σ H hi p;by_cases JO:i<ys.length
 ·refine .inr ⟨⟨xs,ys,xs[i]'(by omega),ys[i],q1,q2,by simp,by simp [JO]⟩,xeF,λ σ' H' p'=>xay (ys.length-(i+1)) Z4 JO p',Sc x H' y⟩;obtain⟨p1,x1,y1,Kq,e1,e2,w1,w2⟩:=y;subst e1 e2;exact xp4 x1 y1 p1 σ _ (w1 xs q1) (w2 ys q2) Kq p
 ·have e:i=ys.length:=Z4;show xpD e ⟨⟨xs,ys,q1,q2,.inr P3⟩,hd σ H p⟩
inductive WT (K:Frag) (x:V) (y:V) (H:Hp) (Q:VK):Prop
 |mk (p q a b c d:JB) (ns ms:xjr) (h0:x=Φ) (h1:y=xva) (h2:xkw p [SZ,xmJ]) (h3:xkw q [xuV,xm2]) (h4:xfh a xdk) (h5:xfh c xdk) (h6:xfh b xAq) (h7:xfh d xAq) (h8:xeX false):WT K x y H Q
def xz (hu:xmy 64<cLine):xFW (WT X.K):=by
 intro JM s σ H x y v u Q I rx ry h;obtain⟨p,q,a,b,c,d,ns,ms,rfl,rfl,h1,h2,ha,hc,hb,hd,k⟩:=h;show xgk rx ry;show xkT its rv pl hz h1;show xkT K6 Qd U7 NU h2;show xcN u1 u2 r1 r2 (ko rv);show xcN w1 w2 r3 r4 (ko Qd);show xgk r1 r2;show xgk r3 r4;refine SeqAt.RcNeAt.tuples (e:=xE7) (xDU p _ pl) (xDU q _ U7) Z4 (Sc j j1 j2) _ _ _ _ ?_
 ·match j,j1,j2 with
  |0,_,_=>exact mY I ha hc (by show xmy 1<_;omega)
  |1,_,_=>exact mY I hb hd (by show xmy 1<_;omega)
  |n+2,h,_=>show xaW h (by show¬n+2<2;omega)
 ·refine xiU xE3 I ?_ k;show xED=xED;simp
universe L2
namespace K31.Ck
open PySem L2 QQ W17 W16 BP
seal PE PA PS PSs PT PW PG PI
abbrev rQ:JL:=top 132
def pv' (E:Fr)(i:Nat):Nat:=(0::E).getD i 0
def XJ (s:Nat)(E:Fr):Prop:=∀i e,xad E e->xj9≤e/\e≤s
def iP (h:xad E e):xD2 (i+1)=e:=by
 unfold pv';rw [Dn,List.getElem?_cons_succ,h];rfl
def XJ.snoc (h:XJ s E)(h1:xD2 E.length≤x)(h2:x≤s):XJ s (E++xbl)/\pv' (E++xbl) (E.length+1)=x:=by
 have e0:∀i,i≤E.length->pv' (E++xbl) i=xj9:=λ i hi=>by
  unfold pv';rw [Dn,Dn,<-Fw,DW (by show xam Df)]
 refine⟨Sc i e he,iP (by simp)⟩;show xaX i E.length z z
 ·rw [DW z] at he;show IO (e0 i (Dr z)) (h i e he)
 ·rw [DC z] at he;have hi:i-E.length=0:=xAl (xLd he).1;show Tl hi he he;obtain rfl:i=E.length:=by lia
  show IO (e0 _ P3) ⟨h1,h2⟩
def XJ.pv (h:XJ s E)(i)(hi:i≤E.length):xj9≤s:=by
 cases i with
 |zero=>exact Ω
 |succ i=>
  have e:=CU hi;show IO (iP e) (h i _ e).2
inductive Us (vs:KB) (H:Hp) (Q:VK) (JT:XK):Prop
 |mk (s c:Nat) (h0:vs=[xci,xgR]) (h1:xiE s) (h2:∀l E H',Θ->Β->xaq=Ι xKq->XJ s E->xD2 E.length=s->Δ E.length->E.length≤8->xak):Us vs H Q JT
def Md:Ps ["_law_size","_law_cell","_law_found","_law_end","_law_k","_law_more"] xAo rQ:=M2
def xL (F:Ε "_law_ends" rQ xAo)(Mi:xIE gN Jal fm fdm)(X:xgT):xlu xAo Us:=by
 have GM:=jY (P:=P) (w:=w) (base:=base) Mi;show xbj Md (λ JN A outer st H vs Q E hr h=>?_);show xcN s c hs k h;have J5:xa0:=PP;have hn:=xuO;refine xfV 2 Md.nd xdM (xaU 3 Md.nd aj (xlg (xxE Z7 (xa7 (xbA aj (xru KM)))) 4 Md.nd (xaz 5 Md.nd (xbe GM J5 Mi KM υ) (xdQ 3 Md.nd (xlD xGF X.min Hb (xbo Os (xbA UF (ap cS (ap bA (xrv xaL) (xbA aj (xro (aT (xdn Os aj aj)) (xpb xaL)))) (bO kI Z7 X.int Io (xa7 (eh cB (xru xaL) aj xve))))))) (aB (xfj D1 D5 bu On UF))))) (xcB On (aT xgA)))
 show xcg g (xg9 (λ l nl=>xbw)) g;show xcg g xbw g;refine xiV ⟨_,rfl,_,_,rfl,rfl,(by show xet 7),_,_,rfl,rfl,?_⟩
 obtain⟨n,hn8,en⟩:∃n:Nat,n≤7/\xcr+SL c%7=xaf:=xdt (1+c%7) (by lia)
 try dsimp only
 show Tm en (xdZ rfl (by lia) (by lia) ?_);show Tm Dz (xs5 xdf 0 n (λ i σ H2=>∃E v4 v5,σ=[xhN,SB c,xgQ,SB xj9,v4,v5]/\E.length=i/\XJ s E/\xhL=Ι xKq/\xiq) ⟨[],none,none,rfl,rfl,(λ i e he=>nomatch he),ac,xfY⟩ ?_ ?_)
 ·rintro i σ H2 hi ⟨E,v4,v5,rfl,Xw,hA,h2,sm⟩;have e0:xcQ+xcD=xcD:=Jv _;show Tm e0 ⟨_,rfl,_,rfl,_,_,rfl,xfl,by lia,?_⟩;generalize mixN (SL c) xcD=m;refine⟨_,rfl,_,rfl,_,rfl,_,_,rfl,rfl,xfS,_,rfl,(by show xcR 3),LE l3 n3⟩;obtain⟨b,j,ej,hj⟩:∃b j:Nat,xfm/3%3=SL j/\[xci,V.int 9,V.int 70][j]?=xkp:=by
   rcases(show m/3%3=0\/m/3%3=1\/m/3%3=2 by lia) with h|h|h
   ·show xaC s 0 (by lia) rfl
   ·show xaC 9 1 (by lia) rfl
   ·show xaC 70 2 (by lia) rfl
  have s3:=xas [xci,V.int 9,V.int 70] n3;show SC ⟨_,rfl,_,_,rfl,rfl,xfS,_,_,rfl,rfl,(by show xet 3),l3,_,_,xdz,rfl,rfl,xxS,(by(try dsimp only);show IO ej (aE hj)),_,_,rfl,rfl,_,_,rfl,rfl,(by lia),?_⟩ ⟨_,rfl,_,_,rfl,rfl,(by show xet 5),_,_,rfl,rfl,.inr ⟨_,rfl,_,_,rfl,rfl,xcv ?_ ?_,_,_,rfl,rfl,_,_,rfl,?_⟩⟩
  ·split<;>decide
  ·split<;>decide
  have hp:=hA.pv i (Di Xw.symm);obtain⟨t,et⟩:∃t:Nat,xfm/24%(1+xnv)*(xbS (xfM xcQ (xfm%5)) 1 0)=SL t:=by
   have h0:0≤xfm/24%(1+xnv):=xMB (by lia);refine⟨(xfm/24%(1+xnv)*(xbS (xfM xcQ (xfm%5)) 1 0)).toNat,(Int.toNat_of_nonneg (Int.mul_nonneg h0 ?_)).symm⟩
   split<;>decide
  obtain⟨x,hx,h1,NN⟩:∃x:Nat,xeW (SL xj9+SL t<SL s) (SL xj9+SL t) (SL s)=SL x/\xj9≤x/\x≤s:=by
   split
   ·exact xeu (xj9+t) (by lia) (by omega)
   ·exact xeu s hp P3
  try dsimp only
  rw [et,hx];obtain rfl:=Xw;show xpq a1 a2 (hA.snoc h1 NN) h3 (xbL h2);refine⟨_,rfl,xeD h3,_,rfl,l,_,_,rfl,rfl,h3,bw (by show xcS),E++xbl,SB E.length,xqa,?_,by rw [CN];rfl,a1,by rw [ac,C8];rfl,λ d o e=>by show xl2 (xbL xph)⟩;rw [a2];rfl
 ·rintro σ H2 ⟨E,v4,v5,rfl,Xw,hA,h2,sm⟩;show xe6 xbw g;refine xeZ _ (by show xcR 1) (LE l3 n3);have s3:=xas xqe n3;refine⟨l,l3,_,_,rfl,rfl,xbL h2,ac,a9 (by rw [CM];show _+1≤_;lia),LE l4 n4⟩;have hp:=hA.pv E.length P3;show xa4 a1 a2 (hA.snoc hp (C4 s)) (k l4 (E++[s]) _ (none_of xwZ n4) ((xwZ).trans (ak n4)) (by rw [ac,C8];rfl) a1 (by show IO CN a2) (by show IO CN (IM _ _)) (by rw [CN];show _+1≤8;lia))
abbrev ml:JL:=top 133
def Bl.pre (h1:64*(i+1)≤e)(h:Bl xuu i R):Bl T i R:=by
 have e1:wn xuu i=wn T i:=by
  unfold wn;rw [Hn,DL (by lia)]
 have e2:blk xuu i=blk T i:=by
  unfold blk;rw [Jy,Hn,DL (by lia)]
 show xpN Bl
 rwa [e1,e2] at h
def xi (h:i≤j):xeO i=xvb (xb6 (Rs.drop i) j i) xwe:=by
 unfold rem;rw [<-CQ,<-Gy];congr 2;rw [show Rs.drop j=(Rs.drop i).drop (j-i) by rw [EB];congr 1;lia,Dw]
def yM (hN:xku)(he:xgw e)(hb:b≤e)(hl:b/64+K5.length=e/64)(h:∀j R,xaH K5 j R->Bl xuu (b/64+j) R):K5=xb6 (Rs.drop (b/64)) (e/64) (b/64):=by
 have hm:e/64≤Rs.length:=by show IO hN.1 (Nat.div_le_div_right (CV he xdY))
 refine EF (xcl j)
 show xaX j K5.length z z
 ·have h1:=h j _ (CU z);have h2:=Bl.pre (by lia) h1;have hj:xrz (b/64+j):=by lia
  have h3:=hN.2 (b/64+j) _ xHA;rw [List.getElem?_take_of_lt (by lia),FK,CU z,xHA,h2.uniq h3]
 ·rw [DH z,DH (by rw [Dd,C6];lia)]
def xH (hN:xku)(h:LB T R):R++xdT=xeO (T.length/64):=by
 have hl:=hN.1;unfold nB at hl;show xFx h h0 h0 pb
 ·rw [(i6 (by lia)).1];rfl
 ·have hj:xrz (T.length/64):=by lia
  have h3:=hN.2 _ _ xHA;have h2:Bl T (T.length/64) R:=by
   unfold Bl blk;show IO (Dv (by rw [C6,<-G5];exact Dr xnx)) pb
  rw [(gK hj).1,(i6 (by lia)).1,h2.uniq h3]
structure Pl (Tb Cq CO CK Cp Ce pp NG NH po:JB)(T:Fr)(Rs:xfP)(H:Hp)(lt:JB)(j:Nat)(rest A:Fr)(bg:Bool):Prop where
 pr:xtu Cq H pp NG NH A bg
 op:xgX (λ c=>Ν pp/\Ν NG/\Ν NH/\Ν Tb) H po T false j rest
 tx:H lt=ω xyD
 tb:xlQ
def NQ.keep (h:xtu C H p co ck A bg)(s:∀c o,WF=Id->c=p\/c=co\/c=ck\/(∃xs,o=xrm)->xaB=Id):xtu C H' p co ck A bg:=by
 obtain⟨⟨dx,wt,g,h1,h2,⟨⟨_,c1⟩,⟨_,c2⟩,c3,c4⟩⟩,h3⟩:=h;show xaI ⟨dx,wt,g,xgi h1 xbZ,xhm _ _ h2 (.inr xFB),⟨xbs (xhm _ _ c1 xbZ),xbs (xhm _ _ c2 (.inr xbZ)),xhm _ _ c3 (.inr xFB),c4⟩⟩ h3
def Kl.to {rest:Fr}(h:xgX N H p T fn j rest)(k:∀c,N c->N' c):xgX N' H p T fn j rest:=by
 obtain⟨dx,r,co,ck,g,wt,G,W,bg,h0,h1,h2,h3,h4⟩:=h;exact⟨dx,r,co,ck,g,wt,G,W,bg,h0,xcF h1,xcF h2,xcF h3,h4⟩
def Kl.obj {rest:Fr}(h:xgX N H p T fn j rest):∃dx r,xa2=xea Cp xy0:=by
 obtain⟨dx,r,_,_,_,_,_,_,_,h0,_⟩:=h;exact⟨dx,r,h0⟩
def NQ.obj (h:xtu C H p co ck A bg):(∃dx wt,xa2=xbT xJT)/\(∃C dx fs,H co=xj2)/\∃C dx fs,H ck=xj2:=by
 obtain⟨⟨dx,wt,g,h1,h2,⟨⟨_,c1⟩,⟨_,c2⟩,c3,c4⟩⟩,h3⟩:=h;exact⟨xav _ h1,xdK _ _ c1,xdK _ _ c2⟩
def Kl.nf {rest:Fr}(h:xgX N H p T fn j rest)(hr:Δ rest.length):ρ fn:=by
 obtain⟨_,_,_,_,_,_,_,_,_,_,_,_,_,_,op⟩:=h;cases fn with
 |false=>rfl
 |true=>show Tl (xaY (op.fi rfl)) hr hr
def zN {T:Fr}(h:xz9 400):xiE (xip (Wp (T.take a)).length (Wp ((T.take b).drop c))):=by
 rw [CM,CM,C6,Dd,Dd];omega
theorem Pl.same {rest:Fr}(h:xqp H lt j rest A bg)(s:Β):xqp H' lt j rest A bg:=⟨h.pr.keep λ c o e _=>xs6,h.op.keep λ c o e _=>xs6,xgi h.tx,h.tb.same s⟩
inductive PK (Tb:JB) (vs:KB) (H:Hp) (Q:VK) (JT:XK):Prop
 |mk (a:JB) (T:Fr) (c:Nat) (Rs:xfP) (h0:vs=[SZ,xgR]) (h1:Uf=xbJ) (h2:xkt) (h3:xz9 400) (h4:xku) (h5:xlQ) (h6:∀t lb lt H',H' t=xcd [.ref lb,.ref lt]->H' lb=ω (mk3++xn4)->H' lt=xbJ->(∀c o,WF=Id->Ν Tb->xaB=Id)->xnp->xbr xfc):PK Tb vs H Q JT
abbrev nPl:xaj:=["_law_text_here","_law_cell","_law_presser","_law_opener","_law_bale","_law_told","_law_begin","_law_end","_law_row","_law_parts","_law_one","_law_other"]
def Lp:Ps nPl xDG ml:=M2
def tJ (F:Ε "_law_played" ml xDG)(En:xbt "_law_ends" rQ xAo fe fde)(Mi:xIE gN Jal fm fdm)(hzip:xfQ "zip")(Z:VB K mg B D G0 CW C0 C1 C2 C3 c' CK J4 CO Cq)(R:xJn D G0 C G Ce)(O:VE K mg Cp)(hC:CodeHd base c' Tb)(Qh:xj3)(hK:xlz):Α 44 xDG (PK Tb):=by
 have X:=Z.Cr.Y.Z.X.R.X;have T0:=Z.T;have GE:=xL (P:=P) (w:=w) (base:=base) En Mi X;obtain⟨_,_,FIp,bIp,MIp⟩:=Z.init;show Η Fe Z.feed Fi Z.finish;obtain⟨_,_,FIo,bIo,MIo⟩:=O.init;show Η Fo O.feed Fz O.fin;show xgo Ov O.over GP (sR (P:=P) (w:=w) (base:=base) Fe.F Z hC Qh hK);have GF:=wu (P:=P) (w:=w) (base:=base) Fi.F Z hC Qh hK;have GO:=kY (P:=P) (w:=w) (base:=base) Fo.F R O;have GV:=ki (P:=P) (w:=w) (base:=base) (CO:=CO) (CK:=CK) Ov.F R.tt O;have GZ:=om (P:=P) (w:=w) (base:=base) (CO:=CO) (CK:=CK) Fz.F R.tt O;show xbj Lp (λ JN A outer st H vs Q E hr h=>?_);obtain⟨a,T,c,Rs,rfl,ha,hT,YQ,hN,MU,k⟩:=h;have J5:xa0:=PP;have L4:xqc:=PP;have Se:xan 7:=PP;have Vh:xan 9:=PP;have L8:xan 31:=PP;have hr42:xan 42:=PP;show xvt hu;show xhh (xfV 2 Lp.nd (bL MIp (on FIp Z) Se Z7 T0.m bIp .nil a7) (xvi 3 (bL MIo (kz FIo R O) Vh Z7 O.m bIo .nil a7) (xvi 4 xdM (xvi 5 xdM (xdj 6 Lp.nd aj (xm8 (xbe GE L8 En xx4 KM) 7 Lp.nd (xvi 8 (aX On T0.cl Fe GP hr42 (xa7 (xsr Os xeN xmV))) (xvi 6 xmV (xvi 4 (xcB υ xjH) (xdj 9 Lp.nd (xcB (aT xoA) (xbe GE L8 En (xja xjH) (xbA (xrv KM) xmV))) (xz7 Du (AN Z7 hzip (xbo (pv 9) (xq8 (pv 9) aj bF))) (xDa (xmW 10 Lp.nd (xmW 11 Lp.nd gC))) (xdQ 5 Lp.nd (xcB xaL (aX UF O.cl Fo GO hr (xa7 (xsr xjH (pv 10) (pv 11))))) (xgW xGK xaL (xwf Os bF (xja xaL))))) (ae (xvC (xcZ kU (xja xaL) (xfu cS (xrv xeN))) (xcZ ix (xh0 UF O.cl Ov GV) dl)))))))) (xvi 8 (xo2 On Fi GF hr42) (xaU 5 Lp.nd (xcB (xcB xaL (aX UF O.cl Fo GO hr (xa7 (xwf xjH bF aj)))) (aX UF O.cl Fo GO hr (xa7 (xq8 xjH aj bF)))) (xvC (xcZ ix (xh0 UF O.cl Ov GV) dl) (xcZ rY (bj UF O.cl Fz GZ L4) cU)) (xjF (xcB υ xjH) xaL)))))))) hZb hZl (hN.facts hT (by lia));have hZ:xgH (mk3++xn4):=λ x hx=>(xIf hx).elim ((by decide:xgH mk3) x) (hZb x)
 have hm:∀{e},xgw e->e/64≤xd1/\xat (xgq (e/64)) (64*(e/64)):=λ h=>⟨by unfold nB;lia,HX (by lia)⟩
 refine xiV ?_
 intro pp dp np Qe UO;have s0:=xh8 Cq np Qe;show xe6 (xay pp dp ac (λ NG NH H1 Sa OJ hP Lm=>xb2 xbw)) g;have s1:xnk:=λ b o e=>Lm b o (s0 b o e) xo4
 have Sa:=xgu Sa;have OJ:=xgu OJ;clear Lm s0 Qe UO;refine xiV ?_
 intro po dq no ndo neo;have s0:=xh8 Cp no ndo;show xe6 (xay po dq ac (λ H2 hO NC=>xb2 xbw)) g;have s2:xvV H2:=λ b o e=>NC b o (s0 b o e) (xoX no)
 show xHK o2 o3 hP.obj;have hTb1:=MU.same s1;have nTb:∀{x},xfO x->xdB x:=λ n z=>by
  obtain⟨_,h,_⟩:=hTb1;show xbY h n n
 have np1:po≠pp:=xbP o1 no;have np2:po≠NG:=xbP o2 no;have np3:po≠NH:=xbP o3 no;have hO2:=(hO T Rs).to (N':=λ c=>Ν pp/\Ν NG/\Ν NH/\Ν Tb) λ c n=>by
  have n:=xgu n;show xaC (xbP o1 n) (xbP o2 n) (xbP o3 n) (nTb n)
 have noTb:=nTb no;have Yn:XV po:=xh7 no;clear hO NC s0 ndo neo;have Lv:=xe4;show xcg g (xg9 (λ lb0 nlb=>xbw)) g;have s3:=xj0 nlb;have OV:xbC H2 lb0 [] lb0=xzV:=ac;show xbb H2 lb0 [] H3;show xcg g (xg9 (λ Zk Zi=>xbw)) g;have s4:=xj0 Zi;have ht0:xbC H3 Zk [] Zk=xzV:=ac;have OV:=xdg OV;have s4:=xEI;show xbb H3 Zk [] H4;clear s3;show xcg g xbw g;have pl4:xqp H4 Zk 0 (mk3++xn4) [] false:=⟨hP.keep λ c o e _=>xdg (xca e),hO2.keep λ c o e _=>xdg e,ht0,((MU.same s1).same s2).same s4⟩;have U6:=Lv.trans s4;clear hP hO2 ht0 hTb1 s4 s2 o1 o2 o3 nTb;have lst:∀{x} {xs} {H'} {lt m rest A bg},xqp H' lt m rest A bg->H' x=xb8->xdB x/\x≠pp/\x≠NG/\x≠NH/\x≠po:=λ {x xs H' lt m rest A bg} pl e=>by
  show xHK o2 o3 pl.pr.obj;show xoz o4 pl.op.obj ⟨pl.tb.ne e (by intro ps z;cases z),xkn o1 (by show τ),xkn o2 (by show τ),xkn o3 (by show τ),xkn o4 (by show τ)⟩
 have ost:∀{H1 H2} {lt m rest A bg l' j' WR},xqp H1 lt m rest A bg->xgX (λ c=>xfO c) H2 po T false j' WR->(∀d o,H1 d=Id->d≠po->H2 d=Id)->H2 l'=ω (xgq j')->xqp H2 l' j' WR A bg:=λ pl ho fr hl=>by
  show xHK o2 o3 pl.pr.obj;show xma o4 pl.op.obj ⟨pl.pr.keep λ d o h hc=>xkz h ?_,ho.to λ d n=>⟨xbP o1 n,xbP o2 n,xbP o3 n,xcl z⟩,hl,dD pl.tb λ d o h hn _=>xkz h (aF h o4 (xnD _ _))⟩
  ·rcases hc with rfl|rfl|rfl|⟨xs,rfl⟩
   ·exact np1.symm
   ·exact np2.symm
   ·exact np3.symm
   ·exact xu6 pl h
  ·obtain⟨_,h,_⟩:=pl.tb;show xbY h n n
 refine xiV ⟨_,rfl,a,_,rfl,Ο (U6 _ _ ha),_,rfl,T.length,c,(by rw [CM];rfl),by lia,λ le E H5 nle s5 hle hA hEe hE1 hE8=>xeu le (xhe hle) (xnw xdf K le xKq (λ i σ H'=>∃lb lt Bl rest m v7 v8 v9 v10 v11,σ=[xbv,SB c,ST pp,ST po,ST lb,ST lt,SB xj9,v7,v8,v9,v10,v11]/\xqp H' lt m rest (T.take xj9) (xfM 0 i)/\H' lb=Ι (Bl.map vN)/\Bl++rest=mk3++xn4/\(i=0->rest=mk3++xn4)/\(0<i->rest=xeO (xj9/64))/\∀d o,H5 d=Id->xdB d->d≠pp->d≠NG->d≠NH->d≠po->H' d=Id) ⟨lb0,Zk,[],_,0,none,none,none,none,none,rfl,xJL,xar OV,rfl,xfH,nofun,λ d o e _ _ _ _ _=>e⟩ (λ i σ H' _ h=>?_) ?_ ?_)⟩
 ·obtain⟨_,_,_,_,_,_,_,_,_,_,_,h1,_,_,_,_,h2⟩:=h;have VV:∀{x},(∃C dx fs,H5 x=xj2)->le≠x:=λ z9=>by show xqR e z9 (aF hle e (by show τ))
  have Zd:=xJL;obtain⟨⟨_,_,o1⟩,o2,o3⟩:=Zd.pr.obj;show xoz o4 Zd.op.obj (JS.of (h2 _ _ hle (Zd.tb.ne hle (by intro ps z;cases z)) (VV (xdK _ _ o1)) (VV o2) (VV o3) (VV (xdK _ _ o4))))
 ·rintro i x σ H6 hi ⟨lb,lt,Bl,rest,m,v7,v8,v9,v10,v11,rfl,pl,QU,Q1,ZH,YJ,fr⟩;show xio e he hi;show xpq NM SV (hA i e he) epv (iP he);generalize hb:xj9=b at*;have hBlen:Bl.length+rest.length≤1400:=by
   show xeo (xeI Q1) CN CN;unfold rem at this;rw [EY,CN] at this;have MO:xat xdT 11:=rfl;have h3:xGe 3:=rfl;lia
  have Zd:=xJL;have ha5:=xar (U6 _ _ ha);have ha6:H6 a=xbJ:=by
   obtain⟨q0,q1,q2,q3,q4⟩:=lst Zd ha5;exact xkz ha5 q0 q1 q2 q3 q4
  show xMj Zf;refine xiV ⟨_,rfl,pp,_,_,rfl,Zf,xgh,_,rfl,_,rfl,_,rfl,_,rfl,_,rfl,a,_,rfl,JS.of ha6,LE lu nlu⟩
  try dsimp only
  rw [lm _ NM,<-Fa,<-E1];have s7:=xbG (xb6 xuq e b) nlu;have hlu:xct H6 lu (xb6 xuq e b) lu=ω (xb6 xuq e b):=ac;show xdS H6 lu (xb6 xuq e b) H7;have Yj:=pl.same s7;have eA:T.take b++xb6 xuq e b=xuu:=by rw [<-IH,Nat.add_sub_cancel' NM]
  have nbT:∀{y},xgw y->nb (T.take y)=y/64:=λ h=>by show xbk nb (HX h)
  show xe6 ⟨pp,lu,NG,NH,_,_,_,rfl,Yj.pr,hlu,λ x hx=>hT x xGX,by rw [eA,Dd];lia,Yj.tb,λ lr K5 H8 Ld QZ QY NJ hP8 fr8 hT8=>xbw⟩ g;rw [eA] at QZ QY hP8;rw [nbT (CV NM SV),nbT SV] at QZ;rw [nbT (CV NM SV)] at QY;have eRs:=yM hN SV NM QZ QY;have V3:rest=(mk (xfM 0 i)++K5.flatten)++xeO (e/64):=by
   rw [CQ,eRs,<-xi (Nat.div_le_div_right NM)];rcases FL i with z|z
   ·obtain rfl:b=0:=by rw [<-hb,z];rfl
    rw [ZH z,z];rfl
   ·rw [YJ z,xsf];rfl
  show xbB hrow8 (xip (xbq (mk (xfM 0 i)) K5.flatten) (xeO (e/64))=rest.length) (by
   show xkX (xeI V3) CN this.symm) (mk (xfM 0 i)++K5.flatten) row;subst V3;have l7:=λ {x xs} (h:H7 x=some (.lst xs))=>lst Yj h
  have Zp:∀{x xs},H7 x=xb8->H8 x=xb8:=λ h=>by
   obtain⟨q0,q1,q2,q3,_⟩:=l7 h;exact fr8 _ _ q0 h q1 q2 q3
  have pl8:xqp H8 lt m (row++xeO (e/64)) xuu true:=⟨hP8,Yj.op.keep λ d o h hc=>by
    rcases hc with rfl|⟨q1,q2,q3,q4⟩|⟨xs,rfl⟩
    ·exact fr8 _ _ noTb h np1 np2 np3
    ·exact fr8 _ _ q4 h q1 q2 q3
    ·exact Zp h,Zp Yj.tx,hT8⟩
  have fr8':∀d o,H5 d=Id->xdB d->d≠pp->d≠NG->d≠NH->d≠po->H8 d=Id:=λ d o h q0 q1 q2 q3 q4=>fr8 _ _ q0 (s7 _ _ (xkz h q0 q1 q2 q3 q4)) q1 q2 q3
  have hlb8:=Zp (s7 _ _ QU);have ha8:=Zp (s7 _ _ ha6);have hr20:row.length≤1400:=by lia
  clear fr8 Zp l7 Yj s7 hlu nlu fr hP8 hT8 QZ QY eRs ZH YJ pl QU ha6 Zf eA;show xcg g (xbd xbw) g;show xcg g ⟨_,rfl,_,rfl,lb,lr,_,_,rfl,rfl,hlb8,NJ,a9 (by rw [CM,CM];lia),λ Zl nlb'=>xbw⟩ g;rw [<-C8];have s9:=xbG (Bl++row) nlb';have VW:xct H8 Zl (Bl++row) Zl=ω (Bl++row):=ac;show xdS H8 Zl (Bl++row) H9;refine xiV (xem (by show xcR 1) l0 S8)
  have U5:=xas xiK S8;have Xk:xbC H9 l0 xiK l0=Ι xiK:=ac;show xbb H9 l0 xiK H10;have s810:=s9.trans U5;refine⟨_,rfl,lr,_,rfl,Ο (s810 _ _ NJ),_,rfl,_,_,rfl,rfl,xfS,_,rfl,_,_,rfl,rfl,row.length,c/7+e,(by rw [CM];rfl),by lia,λ l2 E2 H11 nl2 UM Kg hA2 hE2e hE21 hE28=>?_⟩;show xe6 ⟨l0,l2,_,_,rfl,rfl,UM _ _ Xk,Kg,a9 (by rw [CM];show 1+_≤_;lia),λ lp K9=>xbw⟩ g;have XN:=xas ((xiK:KB)++xoG) K9;have UR:xbC H11 lp ((xiK:KB)++xoG) lp=ω (0::E2):=ac;show xbb H11 lp ((xiK:KB)++xoG) XH;have s812:=s810.trans (UM.trans XN);have Q7:=(U5.trans (UM.trans XN)) _ _ VW;clear XN UM U5 s9 Xk Kg VW nlb' S8 nl2 K9;refine xiV ⟨_,rfl,_,rfl,_,rfl,lp,_,rfl,JS.of UR,LE lq nlq⟩
  have ec:xyc (Wp (0::E2)) (some 1)=xoG:=dm _ 1
  try dsimp only
  rw [ec];have OH:=xas xoG nlq;have Vp:xbC XH lq xoG lq=Ι xoG:=ac;have UR:=OH _ _ UR;have Q6:=OH _ _ Q7;have VH:=s812.trans OH;show xbb XH lq xoG H13;have VI:=pl8.same VH;clear OH nlq Q7 s812;refine⟨lp,lq,_,_,rfl,JS.of UR,JS.of Vp,wM (D:=xdf) (K:=K) (a:=lp) (b:=lq) (xs:=Wp (0::E2)) (ys:=xoG)
   (λ q σ H'=>∃lt m v10 v11,σ=[xbv,SB c,ST pp,ST po,ST Zl,ST lt,SB e,SB e,ST lr,ST lp,v10,v11]/\xqp H' lt m (row.drop xsa++xeO (e/64)) xuu true/\∀d o,H13 d=Id->d≠po->H' d=Id)
   (by rw [CM,CM];exact xjG) ⟨lt,m,v10,v11,rfl,VI,λ d o h _=>h⟩ (λ q σ H' _ z9=>by obtain⟨_,_,_,_,_,_,h2⟩:=z9;show xaI (JS.of (h2 _ _ UR (xu6 VI UR))) (JS.of (h2 _ _ Vp (xu6 VI Vp)))) ?_ ?_⟩
  ·rintro q x y t σ H14 hx hy nt ⟨lt,m,v10,v11,rfl,O0,T1⟩;show xio f hf hy;show xpq f1 f2 (hA2 q f hf) epf (iP hf);have ex:x=vN xsa:=by
    show xio z hz hx;unfold pv';rw [Dn,hz];rfl
   subst ex;have st:=xth [vN xsa,vN f];have OO:(xbE H14 t [vN xsa,vN f]) t=xcd [vN xsa,vN f]:=ac;have pl15:=O0.same st;show xbB fr15 (∀d o,H13 d=Id->d≠po->(xbE H14 t [vN xsa,vN f]) d=Id) (λ d o h n=>xd6 (T1 _ _ h n)) (xbE H14 t [vN xsa,vN f]) H15;clear st O0 T1 nt;generalize xsa=u at*;refine⟨t,_,rfl,Kk.of OO,rfl,_,_,rfl,_,_,rfl,rfl,?_⟩;have hlr15:=fr15 _ _ (VH _ _ NJ) (xu6 pl8 NJ);show xma oo pl15.op.obj (xon g2 ⟨_,rfl,_,rfl,po,_,_,rfl,oo,xp9,_,rfl,_,rfl,_,rfl,_,rfl,_,rfl,lr,_,rfl,JS.of hlr15,LE ls nls⟩)
   try dsimp only
   rw [lm _ f1,<-Fa,<-E1];have s16:=xbG (xb6 xt7 f u) nls;have hls:xct H15 ls (xb6 xt7 f u) ls=ω (xb6 xt7 f u):=ac;show xdS H15 ls (xb6 xt7 f u) H16;have TM:=pl15.same s16;have er:xt7++xeO (e/64)=xb6 xt7 f u++(row.drop f++xeO (e/64)):=by
    rw [<-CQ];congr 1;rw [show row.drop f=(xt7).drop (f-u) by rw [EB,Nat.add_sub_cancel' f1],Dw]
   show xoh YA TM.op er YA ⟨po,ls,_,T,_,_,Rs,m,rfl,YA,hT,by lia,hN,hls,λ x hx=>hZ x (Q1▸xk8 (xnQ xGX)),CV (List.length_take_le' _ _) (by show IO C6 (CV xlH (xc9 hr20))),λ l17 Qf fn H17 nl17 hl17 ho17 hj17 fr17=>?_⟩;have Xo:=ho17.nf (by rw [CN];show xbk rem CN;show Δ (_+(_+11));lia);subst Xo;have hlt17:=fr17 _ _ TM.tx (xu6 TM TM.tx);have et:Wp (xgq m)++Wp (xjm Qf (64*m))=Wp xhj:=by
    rw [<-C8];congr 1;have:=Dw (64*m) xhj
    rwa [Hn,DL (by lia)] at this
   show xfp ⟨lt,l17,_,_,rfl,rfl,hlt17,hl17,a9 (zN YQ),λ V8 n18=>xcG⟩;rw [et];have s18:=xbG xhj n18;have X1:xct H17 V8 xhj V8=ω xhj:=ac;have fr18:∀d o,H16 d=Id->d≠po->xct H17 V8 xhj d=Id:=λ d o h n=>s18 _ _ (fr17 _ _ h n)
   have ho18:=ho17.keep (H':=xfv H17 V8 xhj) λ d o h _=>s18 _ _ h
   show xdS H17 V8 xhj H18;have pl18:=ost TM ho18 fr18 X1;have W2:∀d o,H13 d=Id->d≠po->H18 d=Id:=λ d o h n=>fr18 _ _ (s16 _ _ (fr15 _ _ h n)) n
   have ha18:=W2 _ _ (VH _ _ ha8) (xu6 pl8 ha8);refine⟨_,rfl,_,rfl,_,rfl,V8,_,rfl,Ο X1,_,rfl,a,_,rfl,JS.of ha18,LE l19 n19⟩;have ec:xvI xg5 (xmt (Wp xhj))=Wp xhj:=by
    rw [dS,<-E1,CM,Dd];congr 1;exact xLx (DL (Et _ _))
   try dsimp only
   rw [ec];have s19:=xbG xhj n19;have h19:xct H18 l19 xhj l19=ω xhj:=ac;have h18:=s19 _ _ X1;have pl19:=pl18.same s19;show xdS H18 l19 xhj H19;rw [iV] at h18 h19;show xs3 ⟨V8,l19,_,_,rfl,rfl,JS.of h18,JS.of h19,_,rfl,?_⟩ xmE (bd ⟨V8,Qf,_,_,rfl,?_,λ d o h n=>s19 _ _ (W2 _ _ h n)⟩);show IO epf pl19
  ·rintro σ H14 ⟨lt,m,v10,v11,rfl,O0,T1⟩;rw [CM,hE2e,IB,D3] at O0;obtain⟨_,_,_,_,_,_,_,_,_,oo,_,_,_,_,op⟩:=id O0.op;obtain rfl:=(op.at hN hT (hm SV).1).2;show xe6 xbw g;have JO:=O0.tx;have ee:xfD (Wp (xgq (e/64)))=SL e/64*64:=by rw [CM,(hm SV).2];lia
   refine⟨_,rfl,lt,_,rfl,Ο JO,_,rfl,_,_,rfl,rfl,xfS,_,_,rfl,rfl,xcv Z9 Z9,rfl,_,rfl,?_⟩;rw [ee,xmE];show SC (bd ⟨_,rfl,po,_,_,rfl,oo,xp9,po,_,T,_,Rs,_,false,rfl,O0.op,false,false,rfl,rfl,_,rfl,xgJ⟩) ⟨Zl,lt,Bl++row,xeO (e/64),e/64,SB e,ST lr,ST lp,v10,v11,?_,?_,T1 _ _ Q6 (xu6 VI Q6),by show IO CQ Q1,nofun,λ _=>by rw [epv],λ d o h q0 q1 q2 q3 q4=>T1 _ _ (VH _ _ (fr8' _ _ h q0 q1 q2 q3 q4)) q4⟩
   ·rw [epv]
   ·rw [epv,CY (HF i)];exact O0
 ·rintro σ H6 ⟨lb,lt,Bl,rest,m,v7,v8,v9,v10,v11,rfl,pl,QU,Q1,_,YJ,fr⟩;rw [CM] at pl YJ ⊢;have NV:=YJ hE1;rw [hEe] at pl NV ⊢;rw [DV,xzK (0<E.length) hE1] at pl;clear YJ;show xe6 xbw g;show xMj Zf;show xcg g ⟨_,rfl,pp,_,_,rfl,Zf,xgh,pp,NG,NH,T,true,rfl,pl.pr,by lia,pl.tb,λ lr R' H7 Ld YV NJ Sn hT7=>xbw⟩ g;have V3:mk true++R'++xxp T=rest:=(xH hN YV).trans NV.symm;rw [V3] at NJ;have Yu:xKb 11/\Bl.length+rest.length≤1400:=by
   show xeo (xeI Q1) CN CN;unfold rem at this;rw [EY,CN] at this;have MO:xat xdT 11:=rfl;have h3:xGe 3:=rfl;refine⟨?_,by lia⟩;rw [NV];unfold rem;rw [CN,MO];exact IM _ _
  have kl:∀{x xs},H6 x=xb8->H7 x=xb8:=λ h=>by
   obtain⟨q0,q1,q2,q3,_⟩:=lst pl h;exact Sn _ _ q0 h q1 q2 q3
  have YA:xgX (λ c=>Ν pp/\Ν NG/\Ν NH/\Ν Tb) H7 po T false m rest:=pl.op.keep λ d o h hc=>by
   rcases hc with rfl|⟨q1,q2,q3,q4⟩|⟨xs,rfl⟩
   ·exact Sn _ _ noTb h np1 np2 np3
   ·exact Sn _ _ q4 h q1 q2 q3
   ·exact kl h
  have hlt7:=kl pl.tx;have hlb7:=kl QU;have fr7':∀d o,H d=Id->xdB d->H7 d=Id:=λ d o h q0=>by
   have h1:d≠pp:=ad h np;have h2:d≠NG:=ad h Sa;have h3:d≠NH:=ad h OJ;exact Sn _ _ q0 (xkz (xar (U6 _ _ h)) q0 h1 h2 h3 (ad h Yn)) h1 h2 h3
  have W7:∀{x} {o} {H'} {N fn j rest},xgX N H' po T fn j rest->H' x=Id->(∀C dx fs,o≠ .ins C dx fs)->x≠po:=λ ho e hn=>by
   show xoz oo ho.obj (xkn oo (xnD _ _))
  clear kl Sn fr pl QU Zf s5 U6;have er:rest=xtY++(xtZ++[]):=by rw [DM,Dw]
  have UD:xgH rest:=λ x hx=>hZ x (Q1▸xk8 hx)
  show xma oo YA.obj (xiV ⟨_,rfl,_,rfl,po,_,_,rfl,oo,xp9,_,rfl,_,rfl,lr,_,rfl,JS.of NJ,LE l8 n8⟩)
  have ec:xvI (rest.map vN) 2=Wp xtY:=by show IO E1 (dS _ 2)
  try dsimp only
  rw [ec];have s8:=xbG xtY n8;have hl8:xct H7 l8 xtY l8=ω xtY:=ac;have TX:=YA.keep (H':=xfv H7 l8 xtY) λ d o h _=>s8 _ _ h
  show xdS H7 l8 xtY H8;rw [er] at TX;refine⟨po,l8,_,T,_,_,Rs,m,rfl,TX,hT,by lia,hN,hl8,λ x hx=>UD x xEB,by show xam Dd,λ l9 j9 fn H9 n9 Xj ho9 hj9 fr9=>?_⟩;obtain rfl:=ho9.nf (by rw [DM,C6];lia);have tcat:∀{u v},u≤v->Wp (xgq u)++Wp (xjm v (64*u))=Wp (xgq v):=λ {u v} h=>by
   rw [<-C8];congr 1;have:=Dw (64*u) (xgq v)
   rwa [Hn,DL (by lia)] at this
  have nl:∀{xs} C dx fs,HO.lst xs≠ .ins C dx fs:=λ _ _ _ z=>xDw
  have hlt9:=fr9 _ _ (s8 _ _ hlt7) (W7 TX (s8 _ _ hlt7) nl);have VW:=fr9 _ _ (s8 _ _ hlb7) (W7 TX (s8 _ _ hlb7) nl);have hlr9:=fr9 _ _ (s8 _ _ NJ) (W7 TX (s8 _ _ NJ) nl);refine⟨lt,l9,_,_,rfl,rfl,hlt9,Xj,a9 (zN YQ),LE Zn n10⟩;rw [tcat hj9];have U5:=xbG xCk n10;have SD:xct H9 Zn xCk Zn=ω xCk:=ac;have WV:=ho9.keep (H':=xfv H9 Zn xCk) λ d o h _=>U5 _ _ h
  have hlb10:=U5 _ _ VW;have WY:=U5 _ _ hlr9;show xdS H9 Zn xCk H10;show xma oo WV.obj ⟨_,rfl,po,_,_,rfl,oo,xp9,_,rfl,_,rfl,lr,_,rfl,JS.of WY,LE Zm n11⟩;have ec:xyc (rest.map vN) (some 2)=Wp xtZ:=by show IO Fa (dm _ 2)
  try dsimp only
  rw [ec];have UM:=xbG xtZ n11;have hl11:xct H10 Zm xtZ Zm=ω xtZ:=ac;have Q5:=WV.keep (H':=xfv H10 Zm xtZ) λ d o h _=>UM _ _ h
  have WZ:=UM _ _ hlb10;have WX:=UM _ _ WY;have SD:=UM _ _ SD;show xdS H10 Zm xtZ H11;refine⟨po,Zm,_,T,_,_,Rs,j9,rfl,Q5,hT,by lia,hN,hl11,λ x hx=>UD x xCg,by show xam C6,λ l12 j12 fn XH n12 hl12 ho12 hj12 V2=>?_⟩;obtain⟨_,_,_,_,_,_,_,_,_,oo,_,_,_,_,op⟩:=id ho12;show xcI rfl (op.done hN);have Q7:=V2 _ _ WZ (W7 Q5 WZ nl);have hlr12:=V2 _ _ WX (W7 Q5 WX nl);have SD:=V2 _ _ SD (W7 Q5 SD nl);show xe6 ⟨Zn,l12,_,_,rfl,rfl,SD,hl12,a9 (zN YQ),λ Xc n13=>xbw⟩ g;rw [tcat hj12,xae (xgq xd1) T (Dv (by unfold nB;lia))];have OH:=xas xg5 n13;have hl13:xbC XH Xc xg5 Xc=xbJ:=ac;have ho13:=ho12.keep (H':=xby XH Xc xg5) λ d o h _=>OH _ _ h
  have oo:=OH _ _ oo;have Q6:=OH _ _ Q7;have hlr13:=OH _ _ hlr12;have frA:∀d o,H7 d=Id->d≠po->xbC XH Xc xg5 d=Id:=λ d o h n=>OH _ _ (V2 _ _ (UM _ _ (U5 _ _ (fr9 _ _ (s8 _ _ h) n))) n)
  show xbb XH Xc xg5 H13;show SC ⟨_,rfl,po,_,_,rfl,oo,xp9,po,_,T,_,Rs,_,true,rfl,ho13,true,true,rfl,rfl,_,rfl,bd ⟨_,rfl,po,_,_,rfl,oo,xp9,po,_,T,_,Rs,_,rfl,ho13,rfl,_,rfl,xgJ⟩⟩ ⟨_,rfl,_,rfl,lb,lr,_,_,rfl,rfl,Q6,hlr13,a9 (by rw [CM,CM];lia),LE l14 n14⟩;rw [<-C8,Q1];have Qc:=xbG (mk3++xn4) n14;refine xdK rfl (by show xeE) (LE t nt);have s15:=xth [.ref l14,.ref Xc];have sF:=Qc.trans s15;refine k t l14 Xc _ ac (s15 _ _ ac) (sF _ _ hl13) (λ d o h q0=>sF _ _ (frA _ _ (fr7' _ _ h q0) (ad h Yn))) ?_;have tb:=dD hT7 λ d o h hn _=>frA _ _ h (W7 YA h hn)
  exact tb.same sF
abbrev ll:JL:=top 134
structure All (K:Frag)(mg:W1)(B D G0 CW C0 C1 C2 C3 c CK J4 CO Cq C G Ce Cp:JB):Prop where
 Z:VB K mg B D G0 CW C0 C1 C2 C3 c CK J4 CO Cq
 R:xJn D G0 C G Ce
 O:VE K mg Cp
 zip:xfQ "zip"
 pressed:TD "pressed" jD xGr
 opened:TD "opened" mI Jam
 cell:TD "_law_cell_at" mE xA1
 mixed:TD "_law_mixed" gN Jal
 text:TD "_law_text" vP xF1
 lends:TD "_law_ends" rQ xAo
 played:TD "_law_played" ml xDG
inductive O6 (K:Frag) (Tb:JB) (vs:KB) (H:Hp) (Q:VK) (JT:XK):Prop
 |mk (a:JB) (ns:xjr) (h0:vs=xbU) (h1:xfh a xdk) (h2:xfG Tb xxj) (h3:xdB a) (h4:xe0 (xbr xxx)):O6 K Tb vs H Q JT
abbrev Cj:xaj:=["_law_script","_law_cell","_law_text_here","_law_whole","_law_k"]
def O7:Ps Cj xEc ll:=M2
def zx (F:Υ "law" "law" ll)(Y:All K mg B D G0 CW C0 C1 C2 C3 c CK J4 CO Cq C G Ce Cp)(hC:xlV)(Qh:xj3)(hK:xlz):Α 45 xEc (O6 K Tb):=by
 have X:=Y.Z.Cr.Y.Z.X.R.X;show Η Pr Y.pressed Op Y.opened;show Η Ca Y.cell Mi Y.mixed;show Η Tx Y.text En Y.lends;show xgo Py Y.played GC (xm (P:=P) (w:=w) (base:=base) Ca X);have GM:=jY (P:=P) (w:=w) (base:=base) Mi;have GT:=yI (P:=P) (w:=w) (base:=base) Tx Mi X;have GX:=qI (P:=P) (w:=w) (base:=base) Pr Y.Z hC Qh hK;have GO:=ut (P:=P) (w:=w) (base:=base) Op Y.R Y.O;have GL:=tJ (P:=P) (w:=w) (base:=base) Py En Mi Y.zip Y.Z Y.R Y.O hC Qh hK;show xau O7 (λ JN A outer st H vs Q E hr h=>?_);obtain⟨a,ns,rfl,hS,Tr,haT,k⟩:=h;have J5:xa0:=PP;have L8:xan 31:=PP;have hr43:xan 43:=PP;show xvt hu;refine xfV 1 O7.nd (xbe GM J5 Mi (xbe GC J5 Ca Os aj) aj) (xaz 2 O7.nd (xbe GT L8 Tx (xbe GC J5 Ca Os aj) (xro (aT (xbo (xpb KM) (xpb KM))) (bO kI Z7 X.int Io (xa7 (eh bK (xru KM) aj xve))))) (xaU 3 O7.nd (xbQ GX hr43 Pr On) (xlg (xxE Z7 xoA) 4 O7.nd (ae (xgW (xz hu) (xbe GL hr Py On (xbe GM J5 Mi (xbe GC J5 Ca Os (xbA aj υ)) υ)) (xjF UF On)))) (eh (wU hu) (xdy GO Op UF) On xve)))
 have tb0:xlQ:=xav Tr xbZ;show xcg g ⟨_,rfl,a,ns,0,rfl,hS,_,_,rfl,Z9,Z9,xbw⟩ g;generalize mixN (ns.getD 0 0) 0=n;refine xiV ⟨_,rfl,a,ns,1,rfl,hS,_,rfl,_,_,rfl,rfl,xfS,_,_,rfl,rfl,(by show xet 91),_,rfl,_,_,rfl,rfl,xfS,_,_,rfl,rfl,(by show xet 301),(by show xeE),LE l1 n1⟩
 obtain⟨sz,hsz,YO⟩:∃sz,sz≤300/\Vy [V.int (xaf/8%91),V.int (xaf/8%301)] (xbS (xG4 (xaf%8) 1) 1 0)=SB sz:=by
  cases xG4 (xaf%8) 1
  ·exact xdt (n/8%91) (by lia)
  ·exact xdt (n/8%301) (by lia)
 have s1:=xas [V.int (xdW/8%91),V.int (xdW/8%301)] n1;show xe6 ⟨_,rfl,_,_,rfl,rfl,(by show xet 8),rfl,.inr ⟨_,rfl,l1,_,_,vN sz,rfl,rfl,xxS,YO,_,sz,rfl,by lia,λ lt T H2 s2 _ JO hTl MU=>xbw⟩⟩ g;have s2:=xe4;clear s1 YO n1;have tb2:=tb0.same s2;have Zi:=tb2.ne JO (by intro ps z;cases z);show xcg g ⟨_,rfl,lt,T,rfl,JO,MU,by lia,tb2,λ lw Z H3 _ hW hlw fr tb3=>xbw⟩ g;obtain⟨Rs,hN,eZ⟩:=hW.all;have hlt3:=xkz Zi JO;have keep:∀{H4 H5},JS K H4 a xdk->(∀c o,H4 c=Id->Ν Tb->H5 c=Id)->JS K H5 a xdk:=λ h s=>by
  rcases h with(e|⟨o,e⟩)|h
  ·show xCP (xs6 haT)
  ·show xaN (xcv o (xs6 haT))
  ·show xbX h
 have ZR:=keep (s2.seq hS) λ c o e n=>fr c o n e
 refine xiV ⟨2,rfl,by decide,by decide,xs5 xdf 0 2 (λ i σ H'=>∃v,σ=[xbv,xnX,ST lt,ST lw,v]/\H' lt=xbJ/\H' lw=Ι (Z.map vN)/\JS K H' a xdk/\xnp) ⟨none,rfl,hlt3,hlw,ZR,tb3⟩ ?_ ?_⟩
 ·rintro i σ H4 hi ⟨v,rfl,Xy,h4w,hS4,tb4⟩;have e0:xcQ+xcD=xcD:=Jv _;show Tm e0 ⟨_,rfl,_,rfl,_,rfl,_,_,rfl,rfl,a,ns,2+i,rfl,hS4,_,rfl,_,_,rfl,xfl,by lia,lt,T,_,Rs,rfl,Xy,MU,by lia,hN,tb4,λ t lb l5 H5 ht QU Vr Qj tb5=>?_⟩;have n1:=tb4.ne Xy (by intro ps z;cases z);have n2:=tb4.ne h4w (by intro ps z;cases z);have UZ:=Qj _ _ Xy n1;have h5w:=Qj _ _ h4w n2;refine xeZ _ (by show xeE) (LE t2 nt2);have s6:=xoy [xHB,.ref lt] nt2;have Oz:(xbE H5 t2 [xHB,.ref lt]) t2=xcd [xHB,.ref lt]:=ac;have a1:=xcj QU;have a2:=xcj h5w;have a3:=xcj Vr;show xaM a4 (xcj UZ) eZ a2;have b1:=a1;have b2:Re _ (HO.lst (Wp (mk3++xn4))):=a2;have b3:=a3;have b4:=a4;rw [iV] at b1 b2 b3 b4;exact⟨t,t2,lb,l5,lw,lt,_,_,rfl,rfl,Kk.of (xcj ht),Kk.of Oz,JS.of b1,JS.of b2,JS.of b3,JS.of b4,_,rfl,bd ⟨_,rfl,xcj UZ,xcj h5w,s6.seq (keep hS4 Qj),tb5.same s6⟩⟩
 ·rintro σ H4 ⟨v,rfl,Xy,h4w,_,_⟩;refine g _ _ ⟨_,rfl,lw,T,Z,rfl,MU,by lia,hW,h4w,λ l5 H5 _ h5 s5=>?_⟩;have h6:=xar Xy;rw [iV] at h5 h6;show xfW ⟨_,rfl,l5,lt,_,_,rfl,rfl,JS.of h5,JS.of h6,?_⟩ xmE (k H5)
universe K31.Ck
namespace K31.Ck
open PySem L2 QQ
section
variable {K:Frag}{mg:W1}{h:JI}
def KW.i {x qu:Str}{st:JL}{f:JB}{oc dV:JC}{od an:xhf}{sl:xmB}{kV dc pm cd ct:JC}(l:xj7 f oc od (xrZ x qu cd) sl)(c:xji K cd qu)(k:xhT):xlI x qu st dV f (xrZ x qu cd):=⟨⟨oc,od,kV,dc,pm,an,cd,ct,sl,rfl,l,c⟩,k⟩
def O5.i {x qu:Str}{st:JL}{f cd:JB}{oc dV:JC}{od an:xhf}{sl:xmB}{kV dc pm ct:JC}(l:xj7 f oc od (xrZ x qu xuz) sl)(c:xji K xuz qu)(k:xhT):O5 K x qu st dV cd f (xrZ x qu xuz):=⟨⟨oc,od,kV,dc,pm,an,ct,sl,rfl,l,c⟩,k⟩
def tabI {x:Str}{d:JB}{p q:Int}{t1 t2 t3 t4:Tok}{ep:Nat}(X:xvo)(G:xsH)(a:Re (xwU K x) xlJ)(l:xor d (some ⟨xEl,none,.dict #[⟨8,.int 8 t1,.int p t2⟩,⟨16,.int 16 t3,.int q t4⟩] ep,#[]⟩))(s:ρ (xoE d)):∃d,mg x=xlJ/\QG K d p q:=⟨d,Gx X G a,s,t1,t2,t3,t4,ep,l⟩
def markI {x:Str}{d:JB}{t1 t2 t3:Tok}{od:xhf}{n:Nat}{sl:xmB}(X:xvo)(G:xsH)(a:Re (xwU K x) xlJ)(l:xor d (some ⟨xAu,od,.seq #[.int 184 t1,.int 66 t2,xrU t3] n,sl⟩)):∃d,mg x=xlJ/\∀H,xkw d [xyZ,xzU,vN 1]:=⟨d,Gx X G a,λ _=>.inr ⟨_,_,_,l,rfl,rfl,(by show xcR 3),.cons xbg (.cons xbg (xjn xbg))⟩⟩
def nI {x:Str}{n:Int}{t:Tok}(X:xvo)(G:xsH)(a:Re (xwU K x) (xcf n)):∃t,mg x=xcf n:=⟨t,Gx X G a⟩
section
variable {x qu:Str}{st:JL}{ps:xaj}{f C:JB}{oc dV:JC}{od an:xhf}{sl:xmB}{kV dc pm cd ct:JC}(l9:xj7 f oc od (xrZ x qu cd) sl)(c9:xji K cd qu)(k9:xhT)
include l9 c9 k9
def inI (e:dV=.none)(b:xpv x qu cd ps [])(m:xuj K C)(a:xue K xdU)(i:xx3 K xb0)(q:xqC K xdH):∃f fd,Υ x qu st/\xnq/\xqo:=by
 subst e;exact xdZ _ (fun_mk l9 c9 k9) b ⟨m,a,i,q⟩
def ciI (b:xpv x qu cd ps [])(m:xuj K C)(a:xue K xdU)(i:xx3 K xb0)(q:xqC K xdH):∃f fd dV,xlI x qu st dV f fd/\xnq/\xqo:=⟨_,_,_,xCy c9 k9,b,⟨m,a,i,q⟩⟩
def cdI {n:Int}{t:Tok}(d:xpv x qu cd ps [xb1 n])(m:xuj K C)(a:xue K xdU)(i:xx3 K xb0)(q:xqC K xdH):∃f fd t,(∃dV,xlI x qu st dV f fd)/\xxT K [xb1 n]/\xqo:=⟨_,_,_,xbs (xCy c9 k9),d,⟨m,a,i,q⟩⟩
universe s
section
variable {x:Str}{st:JL}{ps:xaj}{f:JB}{oc dV:JC}{od an:xhf}{sl:xmB}{kV dc pm cd ct:JC}(X:xvo)(G:xsH)(a:Re (xwU K x) xdU)(l9:xj7 f oc od (xrZ x x cd) sl)(c9:xji K cd x)(k9:xhT)(b:xpv x x cd ps [])
include X G a l9 c9 k9 b
def fdI (d:xpv x x cd ps xCx):∃f fd,XI K mg x st ps f fd:=⟨_,_,xbs (xCy c9 k9),Gx X G a,b,d⟩
def flI {t:Tok}(d:xpv x x cd ps [xb1 6]):∃f fd,K31.S.FnL K mg x st ps f fd:=⟨_,_,xbs (xCy c9 k9),Gx X G a,b,_,d⟩
def fkI {t:Tok}(d:xpv x x cd ps [xb1 16]):∃f fd,FnK K mg x st ps f fd:=⟨_,_,xbs (xCy c9 k9),Gx X G a,b,_,d⟩
universe s
def fcI {x:Str}{st:JL}{ps:xaj}{f cd:JB}{oc dV:JC}{od an:xhf}{sl:xmB}{kV dc pm ct:JC}(X:xvo)(G:xsH)(a:Re (xwU K x) xdU)(l:xj7 f oc od (xrZ x x xuz) sl)(c:xji K xuz x)(k:xhT)(b:xpv x x xuz ps [])(d:xpv x x xuz ps xCx):∃f fd dV,O5 K x x st dV cd f fd/\mg x=xdU/\xnq/\xxT K xCx:=⟨_,_,_,O5.i l c k,Gx X G a,b,d⟩
def m0 {P:Ψ xaE}(h:P []):∀us:xaE,xuT 0->P us:=λ us hl=>by
 cases us with
 |nil=>exact h
 |cons a us=>cases hl
def mS {n:Nat}{P:Ψ xaE}(h:∀a (us:xaE),xuT n->P (a::us)):∀us:xaE,xuT (n+1)->P us:=λ us hl=>by
 cases us with
 |nil=>cases hl
 |cons a us=>exact h a us (Nat.succ.inj hl)
def e1 {us:xaE}(h:xuT 1):∃a,us=xeH:=mS (P:=λ us=>∃a,us=xeH) (λ a=>m0 (xbn a)) us h
def e2 {us:xaE}(h:xuT 2):∃a b,us=[a,b]:=mS (P:=λ us=>∃a b,us=[a,b]) (λ a=>mS λ b=>m0 (xdt a b)) us h
def b2 {fd:JG}{p q:Str}(h:∀(s:JD) (a b:JC),xmn->xvA s [a,b] [(p,a),(q,b)]):xjK [p,q]:=λ s us hX hl=>by
 show xeJ a b (e2 (show xuT 2 by simpa using hl));exact h s a b hX
def b1 {fd:JG}{p q:Str}{v:JC}(h:∀(s:JD) (a:JC),xmn->xvA s xeH [(p,a),(q,v)]):xww K [p,q] [v]:=λ s us hX hl=>by
 show xfJ a (e1 (show xuT 1 by simpa using hl)) (h s a hX)
universe s
def hd {l:PySem.W.OpenLaw}{w:JF}{K:Frag}{h:JI}{mg:W1}{fa f B C0 C1 C2 C3 c CK J4 cO cQ cA cG cE cV Tb:JB}{od an:xhf}{sl:xmB}{oc kV dc pm cd ct:JC}(hKT:xlz)(X:xvo)(G:xsH)(hfa:mg "law"=ST fa)
  (a:Re (xwU K "law") xdU) (lk:xj7 f oc od (fnOf "law" "law" (aY ll) (aV ll) (ai ll) .none kV dc pm an cd ct) sl) (cc:xji K cd "law") (kk:xhT) (R0':xgT) (R1':xgT->xxn mg) (R2':xxn mg->K31.V4 K mg) (R3':K31.V4 K mg->K31.XB K mg) (R4':K31.CB K mg B) (R5':xxn mg->K31.CB K mg B->K31.VF K mg B) (R6':xgT->K31.Shs K mg) (R7':xgT->xFr mg) (R8':xgT->xFr mg->xA9 mg 0) (R9':xA9 mg 0->xFO mg 0 0) (R10':K31.XB K mg->K31.VF K mg B->K31.Shs K mg->xFO mg 0 0->xGu mg B 0 0) (R11':xrn K C0 0) (R12':xrn K C0 0->K31.Raw K mg C0 0) (R13':xrn K C1 0) (R14':xrn K C1 0->K31.Run K mg C1 0) (R15':xrn K C2 0) (R16':xrn K C2 0->K31.Cpy K mg C2 0) (R17':xrn K C3 0) (R18':xrn K C3 0->K31.Shr K mg C3 0) (R19':xGu mg B 0 0->K31.Raw K mg C0 0->K31.Run K mg C1 0->K31.Cpy K mg C2 0->K31.Shr K mg C3 0->xGv mg B 0 0 0 C0 C1 C2 C3) (R20':xxn mg->K31.Ck.Txt K mg) (R21':K31.Ck.CC K mg CK) (R22':K31.Ck.Txt K mg->K31.Ck.CC K mg CK->K31.Ck.Chk K mg CK) (R23':K31.Ck.Chk K mg CK->xE0 mg CK) (R24':xJM mg J4) (R25':xGv mg B 0 0 0 C0 C1 C2 C3->xE0 mg CK->xJM mg J4->K31.Ck.Bks K mg B 0 0 0 C0 C1 C2 C3 c CK J4) (R26':xE0 mg CK->xJN mg CK cO) (R27':K31.Ck.CP K mg cQ) (R28':K31.Ck.Bks K mg B 0 0 0 C0 C1 C2 C3 c CK J4->xJN mg CK cO->K31.Ck.CP K mg cQ->K31.Ck.VB K mg B 0 0 0 C0 C1 C2 C3 c CK J4 cO cQ) (R29':xE0 mg CK->xJM mg J4->xxn mg->xJO mg CK J4) (R30':xJO mg CK J4->xJN mg CK cO->K31.Ck.Wv K mg CK J4 cO) (R31':K31.VD K mg cA) (R32':xxn mg->K31.VD K mg cA->K31.Ck.TC K mg cA) (R33':xgT->K31.Ck.Rds K mg) (R34':K31.C.CRc K mg cG) (R35':xgT->xFr mg->K31.C.CRc K mg cG->xJI mg cG) (R36':K31.Ck.TC K mg cA->K31.Ck.Rds K mg->xJI mg cG->K31.Ck.XC K mg cA cG) (R37':K31.Ck.XC K mg cA cG->K31.Ck.SI K mg cA cG C0 C1 C2 C3) (R38':xJO mg CK J4->K31.Ck.SI K mg cA cG C0 C1 C2 C3->K31.Ck.Tbk K mg CK J4 cA cG C0 C1 C2 C3) (R39':xgT->xFr mg->xA9 mg G') (R40':xA9 mg G'->xFO mg 0 G') (R41':K31.XB K mg->K31.VF K mg B->K31.Shs K mg->xFO mg 0 G'->xGu mg B 0 G') (R42':xGu mg B 0 G'->K31.Raw K mg C0 0->K31.Run K mg C1 0->K31.Cpy K mg C2 0->K31.Shr K mg C3 0->xGv mg B 0 G' 0 C0 C1 C2 C3) (R43':K31.Ck.Y4 K mg cE) (R44':K31.Ck.Wv K mg CK J4 cO->K31.Ck.Tbk K mg CK J4 cA cG C0 C1 C2 C3->xGv mg B 0 G' 0 C0 C1 C2 C3->K31.Ck.Y4 K mg cE->K31.Ck.Ss K mg B 0 0 0 C0 C1 C2 C3 CK J4 cO cA cG cE) (R45':K31.Ck.VE K mg cV) (R46':K31.Ck.VB K mg B 0 0 0 C0 C1 C2 C3 c CK J4 cO cQ->K31.Ck.Ss K mg B 0 0 0 C0 C1 C2 C3 CK J4 cO cA cG cE->K31.Ck.VE K mg cV->K31.Ck.All K mg B 0 0 0 C0 C1 C2 C3 c CK J4 cO cQ cA cG cE cV):
  ∃fd:JG,(∀(s:JD) (v:JC),xvA s [v] [("_law_script",v)])/\∀base:JI,K.In base->xAg mg->xlV->xj3->xg3 l.prog w K JU 45 fa fd xEc (O6 K Tb):=by
 have e:=hfa.symm.trans (Gx X G a);cases e;have R0:=R0';have R1:=R1' R0;have R2:=R2' R1;have R3:=R3' R2;have R4:=R4';have R5:=R5' R1 R4;have R6:=R6' R0;have R7:=R7' R0;have R8:=R8' R0 R7;have R9:=R9' R8;have R10:=R10' R3 R5 R6 R9;have R11:=R11';have R12:=R12' R11;have R13:=R13';have R14:=R14' R13;have R15:=R15';have R16:=R16' R15;have R17:=R17';have R18:=R18' R17;have R19:=R19' R10 R12 R14 R16 R18;have R20:=R20' R1;have R21:=R21';have R22:=R22' R20 R21;have R23:=R23' R22;have R24:=R24';have R25:=R25' R19 R23 R24;have R26:=R26' R23;have R27:=R27';have R28:=R28' R25 R26 R27;have R29:=R29' R23 R24 R1;have R30:=R30' R29 R26;have R31:=R31';have R32:=R32' R1 R31;have R33:=R33' R0;have R34:=R34';have R35:=R35' R0 R7 R34;have R36:=R36' R32 R33 R35;have R37:=R37' R36;have R38:=R38' R29 R37;have R39:=R39' R0 R7;have R40:=R40' R39;have R41:=R41' R3 R5 R6 R40;have R42:=R42' R41 R12 R14 R16 R18;have R43:=R43';have R44:=R44' R30 R38 R42 R43;have R45:=R45';have R46:=R46' R28 R44 R45;exact⟨fnOf "law" "law" (aY ll) (aV ll) (ai ll) .none kV dc pm an cd ct,λ s v=>.of_eq rfl,λ base _ _ hC hB=>zx (fun_mk (st:=ll) lk cc kk) R46 hC hB hKT⟩
def walk {l:PySem.W.OpenLaw}{q:JE}{loose:xaj}{XP:(W1)->Ψ JI}{YP:JF->Ψ JI}{d:DefRec}{K:Params->Frag}{Tb c:JB}(hn:xHh 63)(ZK:xIF [])
  (hY:∀(w:JF) (h:JI),YP w h->xy2 h/\xhc Tb (PySem.W.tabObj #[])) (hKT:∀w:JF,xkW xmg Tb)
  (F:∀(w:JF) (mg:W1) (fa:JB) (h:JI),xy2 h->xsH->mg d.name=ST fa->
   ∃fd:JG,(∀(s:JD) (u:JC),xvA s xi0 [("_law_script",u)])/\∀base:JI,xy2 base->xAg mg->xlV->xj3->xg3 l.prog w xmg JU 45 fa fd xEc (O6 xmg Tb))
  (hC:∀w:JF,NE (PySem.W.codeHdIn xmg c Tb)):
  PySem.W.WalkO q loose XP YP l.row.toRowW d [] (λ f vs=>xJb vs):=
 L2.UE (n:=63) (k:=45) (x:="_law_script") (sp:=λ w=>O6 xmg Tb) hn (by decide) ZK ⟨xfH,by decide,by decide,rfl⟩ hY hC hKT F λ _ H a ns hl hS hT na=>⟨a,ns,rfl,hS,hT,na,xfH⟩
universe K31.Ck
end
end
open PySem PySem.W PyProof.Rows
structure PySem.W.Fast:Prop where(tw9994353159044651336 tw9956325084267442891 tw9945271598895547906 tw994520491838386872 tw994504943924054267 tw9936227289596035170 tw9935411010672066909 tw9931449109144831364 tw99196320227709 tw9910837174076309170 tw9905119034600983110 tw9896684023229745704 tw9895328613965501338 tw9893277150222429638 tw9886024997815451424 tw9881422454311886615 tw9848474828596792365 tw9844225742404583201 tw9838949334977259734 tw982982741813592389 tw9819821561554441180 tw9783674743006000697 tw9779719360377698349 tw9773770630516540510 tw9766775115510289707 tw976583084935897892 tw9761488035485652087 tw9752316966214099875 tw9734561648387428916 tw9723792647431759157 tw9701727568977632105 tw9687548454086147864 tw9685729688498041039 tw968437013244892212 tw9627432189193741666 tw9612371383904404121 tw9609301414679248910 tw9570899914158924679 tw9567824470162650254 tw9558184005570213128 tw955547291844228170 tw9511954070857559362 tw9507070875042549237 tw9487108127069299570 tw9484798883570137978 tw9483195729328932453 tw9481319140882898482 tw9471890090079723572 tw947046418585415162 tw9455178907200166897 tw9449955875310583770 tw9440595323184369373 tw9439765998870419821 tw9428639323600343792 tw942506725152718266 tw9389042864718313187 tw9372266903608430209 tw9352416991280521819 tw9348745186200852109 tw9335406445047208069 tw9320584282652311875 tw9316128846332053735 tw9311901162863714912 tw9270491782776419899 tw9262003833195918843 tw9244936879241574808 tw9226420573597068186 tw9221389695866765580 tw922079420052958733 tw9212908571133683583 tw9209183342424865650 tw9205635424056997423 tw9194022117840421982 tw9162088506630860529 tw9150136623362991084 tw9141144723292111040 tw9134754880546982107 tw9112090501142164552 tw9109690470191965771 tw9067635881965199455 tw9051753638328627369 tw9037183135710966808 tw9036709129439785663 tw9026182226747204258 tw9026041562972590733 tw902223906658538822 tw902137302057027663 tw902120959908357497 tw8989858678795826882 tw8985633479905362356 tw897844896182713641 tw8973502091471968774 tw8962220592392238038 tw8961536600472620046 tw8947887521757126588 tw8940248965731277712 tw8935618074727633505 tw8932868214571601857 tw8915944591070333934 tw8910465523633321970 tw8908446756489492433 tw8900485344253625571 tw8890207481556236920 tw8889749878431535062 tw888950246108877435 tw8869869655892946978 tw88624905989116800 tw8851247415269533315 tw8829388185322673007 tw8813567100727685529 tw8791115524825091832 tw8789432842689225180 tw8788735631709841849 tw8757546360924321130 tw8740438470756247337 tw8714471282252674695 tw8705091468692896495 tw8691879761785552489 tw8643332574307875324 tw8639465753288051238 tw8634625719428470895 tw8633810025113156963 tw8629464908347113627 tw860565810913245464 tw8600184123165498219 tw8583764623670444889 tw8558136875506271692 tw8540883756459118410 tw8530585832671403792 tw851915273966392860 tw8515045350094607989 tw8510554177574753586 tw8481725909515081336 tw8479705370969908244 tw847827028148553958 tw8448790624065204763 tw841690375806134419 tw8414705800297405494 tw8409593474566427861 tw8402837639060245166 tw8384471697843555659 tw8378220349751238748 tw8373358194310346723 tw8370640264503006317 tw8369419884145075182 tw834634019751910625 tw8304728600594029864 tw8300694736612437045 tw8284392978391923940 tw8260650762857806038 tw8235990714051739816 tw8232030170497132950 tw8177172606500249180 tw8176729920477465366 tw8172013360350482159 tw8161668629630300585 tw8157516256598121600 tw8155409792768384762 tw8154195297192515722 tw8153572384698995132 tw814414113082593977 tw8143808540356448574 tw8136848081476745114 tw8122495842162752863 tw8109975956075087410 tw8097247062463145479 tw8090379768415977630 tw8089926776759982353 tw8074748928325961607 tw8051887879430012507 tw8038545509082403721 tw8031327957730837209 tw8030805742650209953 tw7986759627173392116 tw7980448583560796321 tw797377685208248427 tw7948210146546155629 tw7941070344883246144 tw7940331988411426683 tw7935610293482079908 tw7929767196884380443 tw7919077493657383615 tw7893200064619873333 tw7888569330967687407 tw7851076792163961265 tw7846984845365043078 tw7842457061113263218 tw7840167268676149096 tw7820487951634643398 tw7809659660629814913 tw7796224387870282381 tw7791443413372517574 tw7789727655083876856 tw7784108464870971772 tw7779869785558576684 tw7774988191240122676 tw7772770268033170802 tw7769079951628815139 tw7736658009705129950 tw7724229589867974980 tw7721941457025114913 tw7717686636769238977 tw7707961960846972173 tw7698066299372609114 tw7679344340243984969 tw7672880147951744199 tw7669513680818127667 tw766733955953202482 tw7637959321024781555 tw7604368762241931949 tw7568340668614652546 tw7562875589144428765 tw7537194837605686129 tw7530763151408279504 tw7513231694897076495 tw750211589931417940 tw7500912337688398717 tw7472735461700269700 tw7472399047921623773 tw7471941369673402791 tw7470909336138973939 tw7468791223210782458 tw7463523560382197259 tw7433357006649074079 tw7423225775183561521 tw7403341221094005604 tw739765274806856157 tw7387997609933668105 tw7365373213735284763 tw7340590156629046990 tw7336096354282761609 tw7334112927545463386 tw7319839215966324878 tw7305866177778053493 tw7297537646769532260 tw7291451245410632414 tw7291188174764441543 tw7290633693916373970 tw7288984973658489277 tw7270136843636335525 tw7267817668821741370 tw725017714751991665 tw7245817104281318230 tw720185250913154850 tw7197128593391859786 tw7175952266097307993 tw717485608263548776 tw7170682819440444988 tw7167319424373655009 tw7150303564659522655 tw7147758469509572463 tw7146317166373747794 tw714536933846022668 tw7132054226094827913 tw7106832774345535400 tw710139832853901308 tw7093842489233033551 tw7085090771112337820 tw7077948327383711122 tw7071803036069814689 tw7045172070373248908 tw7043997662402913438 tw7041822287353234101 tw6982743196756468240 tw6981367205263157748 tw6966509027792774903 tw6965727642868917564 tw6955982458090931595 tw6941950830518060950 tw6916884346196506106 tw6896179018756782893 tw6895223731804119833 tw686309652066033191 tw6857024059115874286 tw6855978768925959726 tw6852663066093020039 tw6850144205380472425 tw6829375606955773912 tw6820569829422014326 tw6817499521196086746 tw6809546003971736621 tw6790830637615019462 tw6774381245658637653 tw6772085314214201275 tw67308184086402690 tw6716445725888886364 tw6712983583712879006 tw670414553814083874 tw6690997955047468511 tw668932036658678044 tw668076741553695824 tw6678329445193610672 tw6677862066679595288 tw6664842157311210685 tw6642804255114885523 tw6635334842767082653 tw6634788466355237111 tw6622918421679109683 tw6612124406149543947 tw6604879571480578360 tw6601721340141218726 tw6595033899104178677 tw6594604817259010743 tw6585097996248535442 tw6550031124760077312 tw6531543296329259246 tw6502784985260013277 tw6478218587554662405 tw6470530654767205667 tw6468241051367887787 tw6452998636231245434 tw6451685007693407086 tw6445491010914147050 tw6442023483500523663 tw6424098881754921581 tw6415183621996580780 tw6395514127175423549 tw6392756937634777667 tw638427221216716479 tw6383176317567798181 tw6377607803305176983 tw637377567143220084 tw6363599521158664026 tw6324073916306824338 tw6304800562569051103 tw6292248480433408744 tw6289944567127324888 tw6272874820176764215 tw6231076935234960808 tw6219538315473944399 tw6217841602865283693 tw6198816925424984467 tw6196005547762202283 tw619599997199827577 tw618104336576918978 tw6150868723927251060 tw6149602378023896876 tw6149337256266333943 tw6141435559771265933 tw6128981174444885699 tw6116610342256967498 tw6111430650784511627 tw6106940158853394436 tw6096879255796535662 tw6092268558497238692 tw6059369130004025969 tw6043851553082643476 tw6042374549452209431 tw6040138145324255930 tw5988818011081424608 tw5981568801383754395 tw5972873896293855060 tw5969235701301368274 tw5951008730286114933 tw5924219593077176463 tw5916742914114257263 tw5914038567408110260 tw5907815442100393733 tw5896295940657069422 tw5878368530864954240 tw587158208465716047 tw5868803002360676551 tw5861631266633456734 tw5850986864722602140 tw5847778886522487162 tw5831120360474567412 tw5828077428575408692 tw5807526201450026253 tw5781080730834800699 tw5780020929082714425 tw5779515700156326044 tw5726972735246646050 tw5717608804621922212 tw5716881311840881770 tw5713256852949367916 tw5711750592627705972 tw5709909678293465359 tw5695306746326180324 tw5691359776264009635 tw5681650486771621427 tw5670972160861717314 tw5665348318164059428 tw5664198953330441794 tw5650724004835220117 tw5648206556592604971 tw5633230646394275371 tw5628238632668766360 tw5627345105760723728 tw5610973957966745648 tw5587700238887240102 tw5557592028577413824 tw5552921938119533845 tw5548967289671956706 tw5548004510556244900 tw5502900088295550677 tw5487553612367323124 tw5477694193372152654 tw545723830535530338 tw5448735417932131108 tw5443376033159342084 tw5432425202461648033 tw537750318568258155 tw5360659532808597865 tw5343533576532035670 tw5326213417993452377 tw532386779184048881 tw5322468314487093508 tw5318924463395191864 tw5312012966655517352 tw5310530064381130665 tw5297666581619763310 tw529234219227634554 tw5243160258076853410 tw5241801179836382155 tw5213125080302746495 tw5199384567829025897 tw5198825049508182468 tw5172943634657929819 tw5167930665922897535 tw515394513264775754 tw5150572571571025581 tw5134372232458459016 tw5132149668010691556 tw5131514052358340856 tw5131374492424229295 tw5130531971283368250 tw5123348948610463209 tw5118311524819686200 tw5110553055447841292 tw5103543110843780701 tw5090856842337217226 tw5077455051669374131 tw506472315469913167 tw5016420673859562107 tw5001216027163695033 tw4993009205006301444 tw4990338924999754286 tw498802281260590298 tw497926211893232891 tw4965913031090723031 tw4960979900158490220 tw4956243467648039200 tw4928043547604887544 tw4910948474737653740 tw4905229638070682439 tw4896012073589583473 tw488943991779638387 tw4864958372572350911 tw4857345385080151669 tw4845154757456557008 tw4839234488185850143 tw4823163548503095246 tw4821895134708751155 tw4810446716531042513 tw4802228204227897561 tw4767670750214436371 tw4758062233891156820 tw4720291611305333963 tw4702462779093326714 tw4701601789523708933 tw4698214757933000336 tw4678866686806146866 tw4676723596947229359 tw4654016152945682695 tw4643596655657067975 tw4639015616522756613 tw4627068667292206265 tw4625995192602472905 tw4619115904266954180 tw4617482110119936614 tw4614178026439061627 tw4613576189378768032 tw4603461256703748557 tw4599256797429904520 tw456607213828598079 tw4561578512799428479 tw4561437279746275918 tw4532916207551864721 tw4507503414885096179 tw4504971546296725144 tw4500724872113647099 tw4493062674421402084 tw4456929069455833118 tw4438561338799110987 tw4422682883979383653 tw4411444134038118339 tw4397777933883429804 tw4395087326133718805 tw4392626904723974674 tw4388435469116980612 tw437344200888147156 tw4354113084357072612 tw4349528861594830800 tw4345088990589676727 tw4330000347125465115 tw4328670180618065973 tw4321802862394714231 tw4318040849832580104 tw4310097411119341449 tw4307071220109149258 tw4293239420044629700 tw4270197792872769366 tw426481893468637530 tw4261586657618555613 tw4261215946098268613 tw4235310928452744962 tw4222379818777774339 tw4212486567097656842 tw420660138033555334 tw4196505397733314740 tw4195173889702290277 tw4166355089281076949 tw4145794747254767026 tw4129960921616105436 tw4111830847850462655 tw408696817664415976 tw4078576668482556310 tw4072003921260182862 tw4058507362567332284 tw4056518985004927492 tw4053896960106277369 tw4052746407949971996 tw403654854863589615 tw4035536152334208480 tw4029280377474342496 tw3990775306153733498 tw3987921980077470961 tw3986318071319689521 tw3975532865591356189 tw3971098625390746557 tw395655746131066452 tw3914527094540935752 tw3855075967778746064 tw3851079232007269339 tw3851009690419115312 tw3836369893785189401 tw3825686033788857860 tw3787280012657718717 tw3732590863266532518 tw3708042255473876417 tw3707668163367836303 tw3707647326573195920 tw3681663765986060305 tw3647764574541887040 tw3646450839164240012 tw3645244684597825233 tw363811612817535443 tw3586891639101604811 tw3573302258000738161 tw3568561178285086932 tw3528025308493626422 tw3514871809135919706 tw3505423697190166337 tw3504794154774396916 tw3479077404117304383 tw3469213953504447695 tw345493980760700666 tw3445201861907441487 tw3443435818191759497 tw3439114819499202196 tw3438819824046103344 tw3435522861002956698 tw3434852439524415103 tw3427597130513385335 tw342736424349815155 tw3405910704424696207 tw3400488976082087173 tw3400353508992628749 tw3396969950877489289 tw339282545619621313 tw3390199196929053221 tw338889663252314235 tw3376592929267852291 tw3364905262784553833 tw3358912280218751948 tw3358682468527509500 tw3356711904886144256 tw3347372468353519629 tw3342326140054708902 tw3340392912419970610 tw3336994440424081770 tw3332865408238694244 tw3332363055877778563 tw3327783933769032358 tw3306159060838603971 tw3299639711778487479 tw3282721287203536535 tw3275256669859833899 tw3237420402405990676 tw3236285071727901423 tw3215656039917836245 tw3205377359943965782 tw3166127692714685711 tw3161414422380846917 tw3157094263434697450 tw3142846635513950574 tw3138547134028164107 tw3119592597825586048 tw3118343219740570435 tw3117547012325261567 tw3112908213957195868 tw3096321423890010124 tw3090722555222013812 tw3077585835971839565 tw3075343744974741576 tw301989298358398848 tw3012850393743042460 tw300699504816393171 tw3006757739078188994 tw296021333807043262 tw2939099295605789196 tw2932286549791710709 tw292835290692957132 tw2912760958487645295 tw2899504509207432298 tw287827125015378963 tw2876501027207820719 tw2870059874282718443 tw2868229731871212032 tw2867611911431673094 tw286365519474688769 tw2826541651360817784 tw2820701272737391237 tw2819534922825069036 tw2818996443010114587 tw2794034265549497199 tw2792470429063260365 tw2785591143936502090 tw2755945597894016516 tw2747713325976044063 tw2745230726233142663 tw2735646969271976868 tw2726183960293919246 tw2714371777714846632 tw2702061581501191693 tw2699240744898579285 tw2655968832042256292 tw265414737048418569 tw2632597332120725832 tw2631686317112362152 tw262538829768910664 tw2609059774098697884 tw2595033883896968492 tw2591998675705864897 tw2589981975848702082 tw2589216017095303675 tw2576603146320865393 tw2574826175745280341 tw2504133407288060668 tw2479229353994438834 tw2472927611136548320 tw2471989977123401062 tw247056427934324147 tw2451356072944421493 tw2443056582004261050 tw2442491364810842111 tw2416539342828161421 tw2397510945522100679 tw238381987157505251 tw2371645288850768718 tw236960568999922512 tw236578376328731239 tw2359745414515205255 tw2338212139642427810 tw2327748109520447050 tw2323638711792608667 tw2307640474343038130 tw2305026517657453883 tw2303303610050205983 tw2298628596966065528 tw2266223656197031025 tw2263512471804941914 tw2261363176414766325 tw2250455173433029464 tw2232419061219862620 tw221464180995579050 tw2175207564224784837 tw216145174454417376 tw2144076839463602282 tw2135547005134106748 tw2131310328849769641 tw2124752964740861325 tw2116479629170157203 tw2114126790393447829 tw2113899104246137635 tw2092765739916112629 tw2091528481935845000 tw2083858113253771796 tw2056428410215774874 tw2039221424566217402 tw2032747346346667551 tw2028832398328685765 tw1996874594734070728 tw1980989815016035288 tw197503897385459373 tw1966413246978762851 tw192425219153129467 tw1918589540107450820 tw1917850771735580715 tw1894154490539576726 tw1892029383279619965 tw1881233650149116853 tw1870989257490209567 tw18446137486716295471 tw18440885603065971780 tw18439287817981378832 tw1842012321933030021 tw18396556409041608148 tw18386544497471199290 tw18379721031151940599 tw18374050937727081860 tw18361956447426775561 tw18354052485044050250 tw18352771200574969544 tw18349844326734528888 tw18326456657891686445 tw18323713763509138246 tw18314051231031650201 tw18312855631072250277 tw18290493188616663199 tw18278886634627248440 tw18267931666747595634 tw18250070669683680363 tw18236115307972853742 tw18227826009416623339 tw18225003918596943804 tw18217941884624138076 tw1820797612980109657 tw18206228768719320080 tw18183930171547786106 tw18179014191333221521 tw18168186887948057673 tw18165104104867558117 tw18161073628342022673 tw18158733868438819885 tw18156500521229350301 tw18117475490029843049 tw18114017546021498244 tw18113996516827848369 tw18089893451053418739 tw18088968067213555899 tw18055178648725896614 tw18049508186741318039 tw18034075374132546019 tw1802491029009803321 tw18022382450160637190 tw1801828399043684986 tw18000923187324826183 tw17996120839995505170 tw17980009672328162607 tw17977757692579460921 tw17977543501175135081 tw17970519441888597469 tw17966892277245307976 tw17962368922784639229 tw17944117667186865242 tw17938644799199563342 tw17921764930392948318 tw1791541981609588861 tw17893654999918970051 tw17840113514722412439 tw17796640816813950340 tw17777660209421123210 tw17772719205627117446 tw17727388498758957190 tw17713777228896886811 tw17711539628537747839 tw17706389032924606939 tw17705846425303756903 tw17702604768765527776 tw17699843303924266433 tw17698609873751138749 tw17691239423797727091 tw17688225086371206939 tw17686128575682578338 tw17629848415735889358 tw17613744249026319894 tw17604157547693560154 tw17589570365823446656 tw17560174054916956038 tw17536080635429826499 tw17522948189016591787 tw17506542586293732983 tw17485511313164671424 tw174850548557210773 tw17474857517496094245 tw17458046046133884881 tw17441608147917000350 tw17441105302765288483 tw17427843552037150766 tw17419767179240381654 tw17419323185372638889 tw17410877367390892911 tw1740074880993305774 tw17334244522649247175 tw17333609904456284186 tw1732848777769891753 tw17327326901509990699 tw17321827507497612080 tw1730926073332035367 tw17303168389227259895 tw17302680350252898252 tw1728494489978752931 tw17272974045085286037 tw17272575032801240713 tw17267509959735196884 tw17267183365098221415 tw17265139804658767467 tw17253272662336370190 tw17240948848298125851 tw1723104021509753463 tw17226344490350687448 tw17223627237651205582 tw17213613860578597232 tw17188529451491413610 tw17179996669720569658 tw17156301423069731336 tw17124578940173305032 tw17115570031988157961 tw17103758986579026822 tw17103658544683173954 tw17103251151567035778 tw17099956443514316797 tw17082981337436908217 tw17063343050135198427 tw17046774967066130308 tw17037311205502896611 tw17025325270247964007 tw170222299530040741 tw17017932952761986551 tw17016421779548826646 tw1697592860275979706 tw16974784302421638157 tw16973490193307149459 tw16971701698344434869 tw16962650309318773222 tw16957640757253099861 tw16955906865046501533 tw16928320056032758519 tw16918495460227320762 tw16914283553212207122 tw16903783277124332602 tw16884159617115786371 tw16883916091186010052 tw16847169164976063194 tw16824094896923249485 tw16818665196044165327 tw16816459712659771238 tw16799736920678942817 tw16768799131901139415 tw16731174528476512981 tw1670465378404768645 tw16695660954228343757 tw16685867131560079574 tw16653704616484926155 tw16642076361385686627 tw16623986451095024099 tw16623486244864513624 tw1662281992835525091 tw16594397234793350257 tw16585799009088316304 tw16578839852238097829 tw16550942148894952862 tw16547437847522910841 tw1653129194098129086 tw16526088439039261451 tw16491741319052317544 tw16486128113744965584 tw16480250826542333929 tw16472419594543951175 tw16466101358928698258 tw16457054491282563556 tw16454636576693036371 tw16443921487253806005 tw16415861843270638992 tw16391383719356018984 tw16353710589673024156 tw1633743415425830405 tw16327061090697651005 tw16316974338117357055 tw16294127700851195591 tw16285520932444070659 tw16274109768165939789 tw16261645668397624368 tw16260783792671450502 tw16247134601363641218 tw16239035799256834532 tw16236639464854009855 tw16235528180614154138 tw16235055738688729983 tw16231595559824970642 tw16227443607509187915 tw16225960880050059459 tw16221944067933182130 tw16209878245450471123 tw16201837328046720646 tw1617978640847927218 tw16174161868883902159 tw16164019802161465466 tw16150011641193174400 tw16130980369508572389 tw16115743996347109160 tw16114666500069405262 tw16114406218325698102 tw16106339351683696733 tw16067459811217276528 tw16064015489258932138 tw16052679436790802365 tw16040893815077613505 tw16040549374235924918 tw16024648938551388796 tw16020977251499321168 tw160013924479045898 tw15974853541536342448 tw15970283327996934975 tw15950521107479553986 tw15888480975282716981 tw15886132460213387535 tw15879041897473490930 tw15873800928520027807 tw15864639764041560658 tw15848697253065269402 tw15842482855120469093 tw1582833816372662479 tw15824834463289426379 tw15817112610085971359 tw15808484135960739155 tw15790776947332513903 tw15787351163087279606 tw15779794276178050166 tw15768463875909846779 tw15765216336033194750 tw15712329708551434338 tw15692995839020422458 tw15684621852048434542 tw1566040197585823034 tw15655815448693417694 tw15654461532727933321 tw15649773214437811426 tw15615253842079399440 tw15611455172793950167 tw15604528386015244017 tw15588000214815077575 tw1557985104625984653 tw15569852761320064596 tw15558076796150724330 tw15543993101654050092 tw15525064441151815952 tw15516988074341127250 tw15508381273943295169 tw15507931308600216335 tw15497018554452426805 tw15492147231848637168 tw15451602851201229597 tw1545027357197824456 tw15419055643100014027 tw15413663205467471157 tw15408387890920260621 tw15398106854367347566 tw1539091048872610570 tw15366635634953161559 tw15361260202429630090 tw15359261426354170009 tw15340368046840655798 tw15338330245895016706 tw15334647469763873989 tw15330200813944847081 tw15306361471616837233 tw1530612854341449297 tw15280649171380773373 tw15262303512017865715 tw15261867805073844942 tw15247473225218510897 tw1524073915294864366 tw15228324713643788909 tw15213898282997716412 tw15211865595124965958 tw15182338289724067844 tw15175472202014668544 tw15138712435762737537 tw15124793615969790847 tw15122701463590370262 tw15120968983887598584 tw15115243257051597852 tw15108619235707882029 tw15107214710234142481 tw15105986466340980822 tw1509915415533839334 tw15072174706239774691 tw15066590895855798609 tw15031711677061474918 tw15031247821274272194 tw14998451672878461735 tw14979638360283900027 tw14974993265131012476 tw14974605170873009454 tw14959886451868768559 tw14950460890297373132 tw14933729039191281173 tw14879416682521720701 tw148678307859279036 tw14865567518602566959 tw14857580134729805600 tw14856468047382759436 tw14830654951179586661 tw14821889264460569292 tw1479823472870279765 tw14797521724783743931 tw14783397151476340324 tw14774883053394491686 tw14771717210384531921 tw14745733994067248685 tw14702834746766314675 tw14692483642836227551 tw14690921127893536815 tw14681713660741517878 tw14676882948871020083 tw14672359898372668622 tw14665395288218027778 tw14661242936192045066 tw14658762479532300921 tw14649308182292599768 tw14646930828507932503 tw14645587310297714366 tw14643008111610354394 tw14637053613326145459 tw14634029454800272032 tw14628996561446749959 tw14627590500916905219 tw14612155718912258861 tw14604133803571033310 tw14586660806730504375 tw1458301318348510364 tw14580090338606243371 tw14574959401610820035 tw14574135334980192614 tw14555298479948949086 tw14536212892785566577 tw1452874312641822163 tw1452411748311067803 tw14517751365564121079 tw14501184613779330679 tw14500554711929959120 tw14488846576102241385 tw14481529984943891054 tw14475730795967673526 tw14473240737067990078 tw1446913095659212887 tw14444253198096009521 tw14436769181553831295 tw14430277427714984547 tw14426153901554748335 tw1442141710600182251 tw14398803632918562470 tw14394872863925810244 tw14369266599971047915 tw1434895975525918896 tw14346481906143178035 tw14343661462659157663 tw14334186470412351796 tw14326142758811619674 tw14322735992009004396 tw14312487526745422042 tw14269552865755293821 tw14261103694315478205 tw1424433527566184924 tw14242845524795820319 tw14224702079367292443 tw1422078627225131716 tw14201948999312038759 tw1419591767535210846 tw14174979500062769640 tw14164643739946443886 tw14156172235963874756 tw14152433031372898476 tw14149916209455436570 tw14144578509929794994 tw14142247577056202519 tw14106049350881483473 tw14085517771668089909 tw14084368924141981880 tw14065870798174657635 tw14063558033997445506 tw14051336601921996015 tw14049898266420608984 tw1404463351071179990 tw1403841227970925645 tw14037709556145530298 tw14002891498852676037 tw13977850940458117219 tw13970339579567120964 tw13959955830971386462 tw13956534470972532047 tw13949827949813829736 tw13895757968329788719 tw13890879443174033562 tw13852112006406462960 tw13831205411185804550 tw13828082915106586765 tw13828026045116090080 tw13786043173319115575 tw13785385573579350771 tw13771322166733400581 tw13767026615419851471 tw13759616686196380636 tw13749139372425718200 tw13745831776808389908 tw13730021321387219571 tw13721071292984829978 tw13688035035945542181 tw13678315230515458911 tw13674127056020185727 tw13673284505776785196 tw13647535630188006348 tw13642459797365949422 tw13616431511093297203 tw1360616548597934480 tw13574273192260815924 tw13561774696721326040 tw13541110138886269399 tw13538160823312893113 tw13529063337515936702 tw13528875714350122004 tw13504150028595865466 tw13504063745059639615 tw13493288194793913792 tw13483562355947231007 tw13475420867548872321 tw13470707303140087788 tw13460177437387859184 tw13446870659615161710 tw13424643502950333815 tw1341392550852868408 tw13412750992873493247 tw13382095776700638883 tw13374801302982082938 tw13373746844281308395 tw13361861018156087060 tw13318191724019500733 tw13314675264494505588 tw13302460919434196770 tw13278756408599651963 tw13259222424591971913 tw13258303632948988845 tw13245011405930757407 tw13243133186798018185 tw13235217011909388018 tw13228894621065551549 tw13216082604436308135 tw13214246199617817050 tw1320524047145239276 tw13201411816116159017 tw13195686641626672541 tw13189271586957047308 tw13175940335987198167 tw13142343322701913619 tw1313888831894084084 tw13134391863778335569 tw13122279036444110402 tw13113321257756690446 tw13106038918054301943 tw1310153491008121175 tw13064869620069766274 tw13027593362738050471 tw13023917745620707753 tw13017012709307387018 tw12995283346664721879 tw12922370020868137915 tw12919323472810193641 tw12911855392191382220 tw12905571237117811155 tw12896169551449593178 tw12882270578564086771 tw12879347018300163945 tw12869541083308532249 tw12835758936597352093 tw1281421641270607192 tw12806847723049055263 tw12796444525644658692 tw12784118803374349255 tw12768421901584476176 tw12760499057454025079 tw12749928386154520410 tw12747424481336870696 tw12737772506971850278 tw12728213270580053721 tw12726337546379695818 tw12723194393843046183 tw12721816008042257678 tw12715964882906893442 tw1269125743559897642 tw12688314951933994932 tw12673938704388861861 tw12650585716512000474 tw12615250551691127657 tw12610395647631173726 tw12584356706524112794 tw125781614333325337 tw12577477363551143850 tw12536358699686079445 tw12536336840017341655 tw12528802590893722579 tw12524872700445256889 tw1250889945876531904 tw12478351410838276651 tw12476021360279990460 tw12468214042627966169 tw12465261511466436662 tw12459826809115530095 tw12442396068162549629 tw12421663083511512627 tw12414287758324361700 tw12412733495196154158 tw12406899328955837717 tw12384729506374179938 tw12372697552841197411 tw12357099987415002771 tw12353537536048144612 tw12332429103230863097 tw12305148553862183572 tw12303967753969087305 tw12290909214945286927 tw12287163027994322604 tw12284564063178988752 tw12257148333637407590 tw12256785021638710831 tw12254253333320920652 tw12237024184362746524 tw12232073460501876596 tw1222714629242457469 tw1222365253119859646 tw12213960236160458532 tw1220734576177977407 tw12206494653165805774 tw12197013053345432109 tw12161373096873963587 tw12131019039845561448 tw1212914314504057949 tw12122578130213567718 tw12107825114704591438 tw12100361869787817871 tw1208984067910346862 tw1208468796820153602 tw12080250841341017339 tw12069734427487581471 tw12045292725338142481 tw12038106582297055619 tw12025610806444308398 tw12021192114964797548 tw12016010198045844287 tw12000019429913480443 tw11994261262106271743 tw11957477965952761174 tw11955374819534890773 tw11950203404129432561 tw11946968124043289428 tw1193646459585063413 tw11908759684611861305 tw1190459888943120036 tw11899928781183602795 tw11888133902134088750 tw11857383500474249061 tw1185558704516176235 tw11853452810620400438 tw11852412675416093246 tw11843939557991789249 tw11831277439909585324 tw11804402600462550553 tw11802311114546544730 tw11800595284431010898 tw11795621306950984377 tw11795128003013747239 tw11780098714195568716 tw11768246720837067191 tw11764043493825497556 tw11758767504678036842 tw11730706246878761169 tw11730373637221473147 tw1171636096614982355 tw11706480717634145548 tw11700919260871242634 tw11691636084764876225 tw11681856371205455486 tw11671689961877782450 tw11670222210122045025 tw11668528941247219950 tw11646010998363541180 tw11615097302676942762 tw11603110575512301685 tw11573122570172915133 tw11546087875293889510 tw1154330022157636360 tw11530626463577530440 tw11527279803237500851 tw11526182797310194192 tw1152393587013670741 tw11519910851395333593 tw1150544327308558568 tw1150540347260670408 tw1149303296760615374 tw11477549263321090436 tw11457013694356707682 tw11454190621164561437 tw11450752631580044051 tw11441135314485281826 tw114349510090679423 tw11421815088892993784 tw11420952008853110977 tw11379146267616519651 tw1135359382599998365 tw11335749199974075700 tw1133574557091147243 tw11334965881771713135 tw11334390515087028852 tw11329379628953875589 tw113135613208274352 tw11288033849618071649 tw11284211335758904551 tw11270930840911162777 tw11223342063409017611 tw11204637326472029572 tw11187015589364150060 tw11186737582349149349 tw11180062434681587011 tw11179699202473840550 tw11171972479608353906 tw11171796947230013564 tw11149372419086571434 tw11145759275326118058 tw11134570922584419241 tw11105007578095479156 tw11104738896419047386 tw11101779183208356237 tw11083049268218064890 tw11079903118070969519 tw11075744428716115894 tw1105259844632801077 tw11028729787615249754 tw11024064246535495029 tw11020808286694764619 tw11017503674639961270 tw11012495854314697892 tw11009087633148944705 tw11000333710550911307 tw10998166577328823246 tw10976765916410078893 tw10960113300448326186 tw10959062031145730040 tw10949128413547260523 tw10939097143105819606 tw10900533957212835443 tw10880233144468594186 tw10864532495831098592 tw10859211228015663480 tw10845438624888703180 tw10842572746571913594 tw10821452836681296490 tw10819469133858559984 tw1079304015870464284 tw10781365687793915508 tw10768862063465770520 tw10755657345455227535 tw10751716673608673480 tw10738035236879421562 tw10734181988456601941 tw10732420925215234412 tw10725595411209244977 tw10722534041766226712 tw10704559918265115011 tw10685258968825829967 tw10669958141269029433 tw10668262851108342545 tw10666092273353465283 tw10660356672653064304 tw10652020458873220573 tw10642869891097934894 tw10627012055845690529 tw10587128718488116668 tw10579675946148374098 tw10567606746634548788 tw10564254788949229864 tw10552376937760005603 tw10516243442227689158 tw10506892709728791846 tw10431959024533035036 tw10431924008559774313 tw10429167398214842950 tw10426089746092497048 tw10422519847271198345 tw10400016163370767831 tw10399106501668367534 tw1037923457845535497 tw10366909187302916232 tw10365365743682518953 tw10362183981548147184 tw10359514040136364809 tw10346121073060120741 tw10328481030569569916 tw10320761664997762515 tw10298800051452872146 tw10271755016031565508 tw10269005357943570122 tw10254477625794465320 tw10228301888104949543 tw10217424644658298306 tw10201861755114781410 tw10201217081062569689 tw10175552690307730256 tw10156005800051820925 tw10151634834929706864 tw10150083079958457067 tw10146151804384647269 tw1013316481590266652 tw10111261906110759923 tw10105912376694806427 tw10094415815743326662 tw10093931373684324131 tw10091208645437953028 tw10084129667063386786 tw10081396472322733043 tw10070974779051104693 tw10066154416509526391 tw10032651232594621914:True)
theorem Hk4.cut {α β γ:Type}{f:α->γ}{g:β->γ}(k:Nat){a:List α}{b:List β}(x:(List.take k a).map f=(List.take k b).map g)(y:(List.drop k a).map f=(List.drop k b).map g):a.map f=b.map g:=by
 rw[← List.take_append_drop k a,← List.take_append_drop k b,List.map_append,List.map_append,x,y]
theorem Hk4.of {K:PySem.Params->PySem.W.Frag}{as:List PySem.Addr}(e:∀P,as=(K P).map (·.1))(ts:List PySem.Addr)(w:PySem.World)(s:PySem.Shared)(z:((List.take 190 as).map s.heap.get?,(List.take 190 (List.drop 190 as)).map s.heap.get?,(List.take 190 (List.drop 190 (List.drop 190 as))).map s.heap.get?,(List.drop 190 (List.drop 190 (List.drop 190 as))).map s.heap.get?,ts.map s.heap.get?)=((List.take 190 (K w.params)).map (fun p=>some p.2),(List.take 190 (List.drop 190 (K w.params))).map (fun p=>some p.2),(List.take 190 (List.drop 190 (List.drop 190 (K w.params)))).map (fun p=>some p.2),(List.drop 190 (List.drop 190 (List.drop 190 (K w.params)))).map (fun p=>some p.2),ts.map (fun _=>some (PySem.W.tabObj #[])))):PySem.W.InK K w s.heap/\∀P∈ts,s.heap.get? P=some (PySem.W.tabObj #[]):=by
 simp only[Prod.mk.injEq] at z
 exact ⟨.of e w s (Hk4.cut 190 z.1 (Hk4.cut 190 z.2.1 (Hk4.cut 190 z.2.2.1 z.2.2.2.1))),List.map_inj_left.mp z.2.2.2.2⟩
local macro_rules|`(tactic|refine $f:ident $a1 $a2 $a3 $a4 $y $v $yp $n $hl ($o:ident ($h:ident $k $a $p $ts)) $t*)=>`(tactic|refine' $f $a1 $a2 $a3 $a4 (Yf:=fun s=>((List.take 190 $a).map s.heap.get?,(List.take 190 (List.drop 190 $a)).map s.heap.get?,(List.take 190 (List.drop 190 (List.drop 190 $a))).map s.heap.get?,(List.drop 190 (List.drop 190 (List.drop 190 $a))).map s.heap.get?,($ts).map s.heap.get?)) (Ya:=fun w=>((List.take 190 ($k w.params)).map (fun p=>some p.2),(List.take 190 (List.drop 190 ($k w.params))).map (fun p=>some p.2),(List.take 190 (List.drop 190 (List.drop 190 ($k w.params)))).map (fun p=>some p.2),(List.drop 190 (List.drop 190 (List.drop 190 ($k w.params)))).map (fun p=>some p.2),($ts).map (fun _=>some (PySem.W.tabObj #[])))) $yp $n $hl (Hk4.of $p $ts) $t*)
set_option maxRecDepth 100000 in
set_option maxHeartbeats 0 in
theorem PySem.Challenge.cw_balepress_k31_whole_in_pieces_holds : PySem.Challenge.rw_balepress_k31_whole_in_pieces.Holds := by
 w_on;o_law;k_head;(case hw=>w_witness2)
 k_fill
 refine' K31.Ck.walk (l:=PySem.Challenge.rw_balepress_k31_whole_in_pieces) rfl rfl (λ w h Y=>⟨PySem.W.km_in_of Y,PySem.W.km_tabs_of Y _ List.mem_cons_self⟩) ?hKT ?F ?hC
 case hKT=>intro w;kernel_rfl
 case F=>
  intro w mg fa h KX G hmg
  refine' K31.Ck.hd (by kernel_rfl) KX G hmg ?a ?l ?c ?k ⟨?_,?_,?_,?_,?_,?_,?_,?_,?_,?_,?_,?_,?_,?_,?_,?_,?_,?_,?_,?_,?_,?_,?_,?_,?_,?_,?_,?_⟩ (λ R0=>⟨R0,?_,?_,?_⟩) (λ R1=>⟨R1,?_,?_,?_,?_⟩) (λ R2=>⟨R2,?_,?_,?_⟩) ⟨?_,?_,?_,?_⟩ (λ R1 R4=>⟨R1,R4,?_,?_,?_,?_,?_,?_,?_,?_⟩) (λ R0=>⟨R0,?_,?_,?_,?_,?_,?_,?_,?_⟩) (λ R0=>⟨R0,?_,?_,?_,?_⟩) (λ R0 R7=>⟨R0,R7,?_,?_⟩) (λ R8=>⟨R8⟩) (λ R3 R5 R6 R9=>⟨R3,R5,R6,R9,?_,?_,?_,?_,?_⟩) ⟨?_,?_,?_⟩ (λ R11=>⟨R11,?_,?_,?_⟩) ⟨?_,?_,?_⟩ (λ R13=>⟨R13,?_,?_,?_⟩) ⟨?_,?_,?_⟩ (λ R15=>⟨R15,?_,?_,?_⟩) ⟨?_,?_,?_⟩ (λ R17=>⟨R17,?_,?_,?_⟩) (λ R10 R12 R14 R16 R18=>⟨R10,?_,R12,R14,R16,R18,?_⟩) (λ R1=>⟨R1,?_,?_⟩) ⟨?_,?_,?_,?_⟩ (λ R20 R21=>⟨R20,R21,?_,?_,?_,?_,?_,?_,?_⟩) (λ R22=>⟨R22,?_,?_,?_,?_⟩) ⟨?_,?_,?_,?_,?_,?_,?_⟩ (λ R19 R23 R24=>⟨R19,R23,R24,?_,?_⟩) (λ R23=>⟨R23,?_,?_,?_,?_,?_,?_,?_,?_,?_,?_,?_,?_,?_,?_⟩) ⟨?_,?_,?_,?_,?_,?_,?_⟩ (λ R25 R26 R27=>⟨R25,R26,R27,?_,?_,?_,?_,?_,?_,?_,?_⟩) (λ R23 R24 R1=>⟨R23,R24,R1,?_,?_,?_,?_,?_⟩) (λ R29 R26=>⟨R29,R26,?_,?_,?_,?_,?_,?_,?_,?_,?_,?_,?_,?_⟩) ⟨?_,?_,?_⟩ (λ R1 R31=>⟨R1,R31,?_,?_,?_,?_,?_,?_,?_,?_,?_⟩) (λ R0=>⟨R0,?_,?_,?_,?_⟩) ⟨?_,?_,?_⟩ (λ R0 R7 R34=>⟨R0,R7,?_,?_,?_,R34⟩) (λ R32 R33 R35=>⟨R32,R33,?_,?_,?_,R35,?_,?_,?_,?_,?_⟩) (λ R36=>⟨R36,?_,?_,?_,?_⟩) (λ R29 R37=>⟨R29,R37,?_,?_,?_,?_,?_,?_,?_,?_⟩) (λ R0 R7=>⟨R0,R7,?_,?_⟩) (λ R39=>⟨R39⟩) (λ R3 R5 R6 R40=>⟨R3,R5,R6,R40,?_,?_,?_,?_,?_⟩) (λ R41 R12 R14 R16 R18=>⟨R41,?_,R12,R14,R16,R18,?_⟩) ⟨?_,?_,?_,?_,?_,?_⟩ (λ R30 R38 R42 R43=>⟨R30,R38,R42,R43,?_,?_,?_,?_,?_,?_,?_,?_⟩) ⟨?_,?_,?_,?_,?_,?_,?_⟩ (λ R28 R44 R45=>⟨R28,R44,R45,?_,?_,?_,?_,?_,?_,?_,?_⟩)
  (case a=>k_is);(case l=>k_is);(case c=>k_is);(case k=>k_is)
  all_goals try (refine' mg_of KX G ?_;k_is)
  all_goals try (refine' PySem.W.mg_none_of KX G ?_;k_is)
  all_goals try (refine' K31.Ck.nI KX G ?a;case a=>k_is)
  all_goals try ((first|(refine' ⟨_,_,L2.fun_mk ?l ?c ?k,mg_of KX G ?a,.all ?b⟩;case a=>k_is)|(refine' ⟨_,_,L2.fun_mk ?l ?c ?k,⟨?a,?i,?k⟩,.all ?b⟩;(case a=>k_is);case i=>k_is));(case l=>k_is);(case c=>k_is);(case k=>k_is);(case b=>((repeat refine' K31.Ck.mS λ _=>?_);exact K31.Ck.m0 rfl)))
  all_goals try (refine' K31.Ck.inI ?l1 ?c1 ?k1 ?e1 (.all ?b1) ?m1 ?a1 ?i1 ?q1;(case a1=>k_is);(case l1=>k_is);(case c1=>k_is);(case k1=>k_is);(case m1=>k_is);(case i1=>k_is);(case q1=>k_is);(case e1=>rfl);(case b1=>((repeat refine' K31.Ck.mS λ _=>?_);exact K31.Ck.m0 rfl)))
  all_goals try ((first|refine' K31.Ck.fdI KX G ?a ?l ?c ?k ?b ?d|refine' K31.Ck.flI KX G ?a ?l ?c ?k ?b ?d|refine' K31.Ck.fkI KX G ?a ?l ?c ?k ?b ?d|refine' K31.Ck.fcI KX G ?a ?l ?c ?k ?b ?d);(case a=>k_is);(case l=>k_is);(case c=>k_is);(case k=>k_is);(case b=>refine' K31.Ck.b2 λ s _ _ hX=>binds_K hX ?x ?t ?y ?z ?w;(case x=>rfl);(case t=>k_is);(case y=>rfl);(case z=>rfl);case w=>rfl);(case d=>refine' K31.Ck.b1 λ s _ hX=>binds_K hX ?x ?t ?y ?z ?w;(case x=>rfl);(case t=>k_is);(case y=>rfl);(case z=>rfl);case w=>rfl))
  all_goals try (refine' K31.Ck.ciI ?l2 ?c2 ?k2 ?d2 ?m2 ?a2 ?i2 ?q2;(case a2=>k_is);(case l2=>k_is);(case c2=>k_is);(case k2=>k_is);(case m2=>k_is);(case i2=>k_is);(case q2=>k_is);(case d2=>refine' K31.Ck.b2 λ s _ _ hX=>binds_K hX ?x ?t ?y ?z ?w;(case x=>rfl);(case t=>k_is);(case y=>rfl);(case z=>rfl);case w=>rfl))
  all_goals try (refine' K31.Ck.cdI ?l3 ?c3 ?k3 ?d3 ?m3 ?a3 ?i3 ?q3;(case a3=>k_is);(case l3=>k_is);(case c3=>k_is);(case k3=>k_is);(case m3=>k_is);(case i3=>k_is);(case q3=>k_is);(case d3=>refine' K31.Ck.b1 λ s _ hX=>binds_K hX ?x ?t ?y ?z ?w;(case x=>rfl);(case t=>k_is);(case y=>rfl);(case z=>rfl);case w=>rfl))
  all_goals try (refine' K31.Ck.markI KX G ?a ?l;(case a=>k_is);case l=>k_is)
  all_goals try k_is
  all_goals try (refine' K31.Ck.tabI KX G ?a ?l ?s;(case a=>k_is);(case l=>k_is);case s=>rfl)
  all_goals try (first|refine' L2.Cls.mk ?_ ?_ ?_ ?_|refine' L2.MkB.mk ?_ ?_ ?_|refine' L2.ExI.mk ?_ ?_ ?_ ?_ ?_ ?_ ?_ ?_|unfold L2.NoAttr)
  all_goals try k_is
  all_goals try ((first|refine' K31.Ck.b2 λ s _ _ hX=>binds_K hX ?x ?t ?y ?z ?w|refine' K31.Ck.b1 λ s _ hX=>binds_K hX ?x ?t ?y ?z ?w);(case x=>rfl);(case t=>k_is);(case y=>rfl);(case z=>rfl);case w=>rfl)
  all_goals try ((repeat refine' K31.Ck.mS λ _=>?_);exact K31.Ck.m0 rfl)
  all_goals try unfold L2.ExC
  all_goals try kernel_rfl
  all_goals decide
 case hC=>intro w;kernel_rfl

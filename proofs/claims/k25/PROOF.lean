import PyProof.Rows.All
import KE.KFromBytes
import KE.KIsAll
import Wide.FinOn
import Open.Pieces
import OpenK.KLine
import PyProof.EqAt
import PyProof.EqKinds
import PyProof.TupleCall
import PyProof.Seq
import PyProof.RangeIter
import PyProof.TupleIter
import PyProof.Rows.TupIter
import PyProof.StationsW
import PyProof.ExcClass2
import PyProof.NeKinds
import PyProof.Rows.TupMore
import PyProof.AutoSeq1
import PyProof.ZipIter
import PyProof.StrWalks
import PyProof.StrBlock2
import PyProof.StrBlockI
import PyProof.StrLaws
import PyProof.SliceStr2
import PyProof.Rows.Range3
import PyProof.Rows.StrRev
import PyProof.ConsumeWalk
import PyProof.Rows.SortShellK
import PyProof.Rows.SortRev
import PyProof.SeqI3
import PyProof.Rows.SeqGen
import PyProof.Rows.SortRunsK
import KE.KEqDict
import KE.KLam
import KE.KMinKey
import KE.KNestM
import PyProof.ListRange
import Lean
import PySem.Challenge.RW_balepress_k25_openers
noncomputable section
set_option bootstrap.genMatcherCode false
set_option maxRecDepth 100000
open PySem renaming Addr → MV, Value → MW, Shared → MX, Program → MY, World → MZ, FuncData → M0, Around → M1, Heap → M2, Expr → M3, Obj → M4, Stmt → M5
open PySem.W (mg_of instObj methodObj Frag lookIn InstAt plainGet hasDictIn findIn handedIn isFn plainOver takerIn makesIn typeIn InitBack emptyDict make_core Looks keepIn specialIn takesIn mroIn kitOne kitx_list kitx_dict fnOf codeIn codeRec_of excIn clsIn findObj KitX oi_run kitMeta CodeHd nsIn binds_K)
set_option bootstrap.genMatcherCode false
set_option linter.all false
set_option Elab.async false
abbrev _root_.Jaa:List PySem.Str:=["thing","least","most"]
abbrev _root_.Jab:List PySem.Str:=["self"]
abbrev _root_.Jac:List PySem.Str:=["self","bits","text","before"]
abbrev _root_.Jad:List PySem.Str:=["self","reader","count","before"]
abbrev _root_.Jae:List PySem.Str:=["thing"]
abbrev _root_.Jaf:List PySem.Str:=["text","before"]
abbrev _root_.Jag:List PySem.Str:=["lengths"]
abbrev _root_.Jah:List PySem.Str:=["self","row"]
abbrev _root_.Jai:List PySem.Str:=["size"]
abbrev _root_.Jaj:List PySem.Str:=["row","place","size"]
abbrev _root_.Jak:List PySem.Str:=["counts","most"]
abbrev _root_.Jal:List PySem.Str:=["row"]
abbrev _root_.Jam:List PySem.Str:=["_law_held","_law_some","_law_more"]
abbrev _root_.Jan:List PySem.Str:=["_law_opener","_law_bale","_law_begin","_law_more"]
namespace L2
open PySem
inductive V where
 |non|bl (b:Bool)|int (i:Int)|str (x:Str)|byt (b:Array UInt8)|flt (b:UInt64)|ref (a:MV)|ty (n:String)
 deriving DecidableEq
end L2
namespace W16
open PySem
inductive Pc where
 |sg (s:Nat)
 |cp (b z:Nat)
 deriving DecidableEq
end W16
section
local macro_rules|`(mutual $c* end)=>do
 let A:=``Lean.Parser.Term.app
 let n a:=Lean.mkNullNode a
 return n ((((c[0]!.raw.find? (·.isOfKind ``Lean.Parser.Term.matchAlts)).getD .missing)[0].getArgs++(c.extract 1 c.size).map (·.raw)).foldl (init:=(({}:Lean.NameMap (Array Lean.Name×Lean.Syntax)),#[])) λ (m,o) t=>
 let w:=t.isOfKind ``Lean.Parser.Term.matchAlt
 let b:=(if w then t[3] else t).rewriteBottomUp λ s=>
  let s:=s.setInfo .none
  let k:=s.getKind
  if s.isIdent then match m.find? s.getId with|some (#[],b)=>b|_=>match m.find? s.getId.getRoot with|some (#[],b)=>if b.isIdent then Lean.mkIdent (s.getId.replacePrefix s.getId.getRoot b.getId) else s|_=>s
  else if k==A then
   let a:=s[1].getArgs
   let (h,a):=match m.find? s[0].getId with
    |some (p,b)=>(b.rewriteBottomUp λ t=>if t.isIdent then ((p.zip a).toList.lookup t.getId).getD t else t,a.extract p.size a.size)
    |_=>(s[0],a)
   if a.isEmpty then h else if h.isOfKind A then .node .none A #[h[0],n (h[1].getArgs++a)] else .node .none A #[h,n a]
  else if k==``Lean.Parser.Tactic.show&&s[1].isOfKind ``Lean.Parser.Term.byTactic then .node .none ``Lean.Parser.Tactic.paren #[Lean.mkAtom "(",s[1][1],Lean.mkAtom ")"]
  else if k==``Lean.Parser.Command.universe then .node .none ``Lean.Parser.Command.end #[Lean.mkAtom "end",if s[1][0].getId==`s then n #[] else n #[s[1][0],n #[]]]
  else s
 if w then
  let p:=t[1][0][0]
  (if p.isIdent then m.insert p.getId (#[],b) else m.insert p[0].getId (p[1].getArgs.map (·.getId),b),o)
 else (m,o.push (if (b[1].isOfKind ``Lean.Parser.Command.definition||b[1].isOfKind ``Lean.Parser.Command.abbrev)&&b[0][4].getNumArgs==0&&(b.find? (·.getId.toString.endsWith "_auto_1")).isNone then b.setArg 0 (b[0].setArg 4 (n #[.node .none ``Lean.Parser.Command.noncomputable #[Lean.mkAtom "noncomputable"]])) else b))).2
mutual
example:=λ
|Fx=>Nat.add_le_add
|Fy=>List.length_map
|Fz=>Nat.le_of_eq
|FA=>Nat.le_antisymm
|FD=>List.length_append
|FE=>Nat.mul_le_mul_left
|FG=>PySem.wpAny_bind
|FJ=>List.append_assoc
|FK=>Nat.le_trans
|FL=>List.getElem?_eq_getElem
|FM=>decide_eq_true
|FN=>Nat.lt_of_lt_of_le
|FO=>Nat.le_refl
|FQ=>of_decide_eq_true
|FR=>List.getElem?_eq_some_iff
|FS=>PySem.Heap.get?_push_of_some
|FU=>List.length_drop
|FV=>List.map_append
|FW=>List.length_take
|FX=>List.mem_cons_of_mem
|FY=>if_neg
|FZ=>Nat.lt_of_lt_of_eq
|F1=>List.size_toArray
|F2=>List.length_cons
|F3=>PySem.wpAny_pure
|F5=>List.pairwise_append
|F6=>List.mem_append
|F7=>Bool.false_ne_true
|F8=>if_pos
|F9=>List.mem_cons
|Ga=>List.mem_append_right
|Gb=>List.mem_cons_self
|Gd=>PySem.PassesOwn.never
|Ge=>List.mem_singleton
|Gf=>List.take_append_drop
|Gg=>Option.some.inj
|Gh=>List.take_of_length_le
|Gi=>Nat.le_of_lt
|Gj=>Nat.zero_le
|Gk=>PySem.Heap.lt_size
|Gm=>List.filter_cons_of_pos
|Gn=>PySem.F.plainAttrs_list
|Gp=>Nat.mul_div_le
|Gq=>PyProof.Rows.wpS_pure
|Gr=>Int.toNat_natCast
|Gs=>List.getElem?_map
|Gu=>List.getD_eq_getElem?_getD
|Gv=>List.getElem?_append_right
|Gw=>List.filter_append
|Gx=>List.filter_cons_of_neg
|Gy=>List.length_replicate
|Gz=>Nat.le_add_right
|GG=>Nat.min_le_left
|GJ=>Nat.min_le_right
|GQ=>Nat.lt_of_le_of_lt
|GU=>List.append_nil
|GZ=>List.getElem?_eq_none
|G1=>PySem.Heap.get?_push_size
|G2=>Nat.min_eq_left
|G5=>Array.toList_append
|G6=>PySem.F.slot_list_append
|G7=>List.getElem?_append_left
|G8=>List.mem_of_mem_drop
|G9=>List.mem_of_mem_take
|Ha=>Nat.lt_or_ge
|Hb=>beq_iff_eq
|Hc=>List.take_length
|Hd=>PySem.F.type_list_append
|He=>List.mem_iff_getElem
|Hf=>Nat.ne_of_lt
|Hg=>Nat.le_of_not_lt
|Hh=>Nat.add_sub_of_le
|Hi=>List.mem_of_getElem?
|Hj=>Nat.add_assoc
|Hk=>Int.natCast_nonneg
|Hl=>List.nil_append
|Hm=>Nat.lt_of_le_of_ne
|Hn=>PyProof.Rows.boot_isinstance
|Hs=>List.pairwise_iff_getElem
|Hu=>PySem.mem_of_lookup
|Hv=>List.replicate_succ
|Hx=>Nat.lt_of_succ_lt
|Hy=>List.take_append_of_le_length
|HA=>PyProof.Rows.boot_list
|HB=>List.drop_eq_nil_of_le
|HC=>List.take_add_one
|HD=>Array.length_toList
|HE=>List.mem_append_left
|HF=>Nat.sub_succ_lt_self
|HG=>Nat.zero_add
|HH=>List.map_cons
|HI=>Nat.le_of_lt_succ
|HJ=>List.flatten_cons
|HK=>Nat.lt_of_succ_le
|HL=>Nat.le_add_right_of_le
|HM=>Nat.mul_comm
|HN=>Nat.add_le_add_right
|HP=>PySem.wpAny_mono
|HQ=>Nat.mul_assoc
|HR=>PySem.wpAny_holding
|HS=>PyProof.Rows.slot_tuple_getitem
|HU=>List.getElem_mem
|HV=>Nat.sub_le
|HW=>Nat.lt_succ_self
|HX=>Nat.sub_lt_of_lt
|HY=>Nat.min_eq_right
|HZ=>Nat.add_sub_cancel_left
|Ib=>List.length_eq_zero_iff
|Ic=>Nat.add_lt_of_lt_sub'
|Ie=>Nat.sub_lt_sub_left
|Ig=>List.drop_eq_getElem_cons
|Ih=>List.drop_drop
|Ii=>List.map_map
|Ij=>PySem.Heap.get?_update_other
|Ik=>decide_eq_false
|Il=>PySem.wpAny_field
|Im=>List.length_range
|Io=>List.pairwise_cons
|Iq=>Nat.pow_succ
|Iu=>Nat.lt_add_of_pos_right
|Iv=>List.drop_append_of_le_length
|Iw=>Nat.mod_lt
|Ix=>List.ext_getElem?
|Iy=>List.drop_zero
|Iz=>le_of_eq_of_le
|IA=>List.filter_eq_nil_iff
|IB=>List.getElem?_set_self
|IC=>PySem.wpAny_Call_Name_kw
|ID=>PySem.W.kia_one
|IE=>PyProof.Rows.wpS_forRange
|IF=>PySem.wpAny_callSpecial?_slot
|IG=>List.getElem_take
|IH=>Nat.pow_le_pow_right
|II=>List.reverse_reverse
|IJ=>Bool.false_eq_true
|IK=>List.mem_map
|IL=>PySem.F.plain_min_loop
|IM=>Nat.div_add_mod
|IN=>List.map_drop
|IP=>List.map_take
|IQ=>Nat.lt_irrefl
|IR=>List.flatten_append
|IS=>PySem.Heap.get?_update_ne
|IT=>Nat.lt_succ_of_le
|IU=>Nat.succ_pos
|IV=>Nat.add_le_add_iff_left
|IW=>List.mem_filter
|IX=>PySem.F.slot_list_extend
|IY=>PyProof.Rows.callWith_type1
|IZ=>Nat.succ_pred_eq_of_ne_zero
|Ja=>Nat.sub_one_lt_of_lt
|Jb=>Nat.sub_le_sub_right
|Jc=>Nat.le_sub_one_of_lt
|Jd=>Array.toList_reverse
|Je=>Nat.succ_le_succ
|Jf=>PyProof.Rows.wpS_mono
|Jg=>Nat.add_lt_add_left
|Jh=>Nat.pow_pos
|Ji=>Nat.pow_add
|Jj=>Nat.le_of_succ_le
|Jk=>Nat.le_succ
|Jl=>Nat.add_le_add_left
|Jm=>List.getElem_append_right
|Jn=>Nat.add_zero
|Jo=>Nat.add_sub_self_left
|Jq=>PySem.Heap.get?_update_self
|Jr=>PySem.W.methodCall_KW
|Js=>List.getElem?_drop
|Jt=>PySem.F.type_list_extend
|Ju=>Nat.add_mul
|Jv=>Nat.mod_eq_of_lt
|Jw=>List.cons_append
|Jx=>List.count_eq_zero_of_not_mem
|Jy=>List.getElem?_set_ne
|Jz=>Nat.exists_eq_add_of_le
|JA=>List.take_zero
|JB=>Nat.ne_of_gt
|JC=>PySem.wpAny_newObj_type
|JD=>PySem.wpAny_truthy_bool
|JE=>List.getElem_drop
|JF=>List.sum_append
|JG=>Eq.symm
|JH=>Nat.mul_add
|JI=>List.getElem?_range
|JJ=>Option.map_some
|JK=>beq_eq_false_iff_ne
|JL=>PySem.W.callWith_K0
|JM=>List.reverse_append
|JN=>Nat.eq_zero_of_not_pos
|JO=>Array.getElem?_eq_some_iff
|JP=>PySem.wpAny_call_entry
|JQ=>List.length_singleton
|JS=>Int.ofNat_sub
|JT=>Int.ofNat_lt
|JU=>Nat.lt_trans
|JV=>Nat.sub_self
|JW=>Nat.eq_zero_or_pos
|JX=>PySem.W.callWith_K
|JY=>PySem.Obj.data_mapFields
|JZ=>Nat.eq_sub_of_add_eq'
|J3=>PySem.sizeLine_eq
|J4=>PySem.wpAny_setField
|J5=>List.foldl_append
|J6=>List.take_sublist
|J7=>List.count_append
|J8=>PySem.wpAny_rule
|J9=>Nat.lt_succ_of_lt
|Ka=>Int.neg_ofNat_le_natCast
|Kb=>Nat.sub_pos_of_lt
|Kc=>Ne.symm
|Kd=>PySem.wpAny_passesOwn
|Kf=>List.getElem_append_left
|Kg=>Nat.and_two_pow_sub_one_eq_mod
|Kh=>Nat.add_comm
|Ki=>Nat.sub_zero
|Kj=>List.getElem?_replicate
|Kk=>mg_of
|Kl=>PySem.wpAny_attempt
|Km=>List.length_reverse
|Kn=>Bool.and_eq_true
|Ko=>Nat.lt_of_not_le
|Kp=>List.perm_middle
|Kq=>List.mem_reverse
|Kr=>List.mem_range
|Ks=>List.drop_left
|Kt=>Nat.sub_add_cancel
|Ku=>of_decide_eq_false
|Kv=>Nat.sub_eq_iff_eq_add
|Kw=>PyProof.Rows.boot_int
|Kx=>PyProof.Rows.boot_min
|Ky=>List.length_filter_le
|Kz=>List.length_zip
|KA=>PySem.wpAny_execs_nil
|KB=>Bool.eq_iff_iff
|KC=>List.find?_cons
|KD=>PySem.Obj.isFreed_of_fields
|KF=>List.singleton_append
|KG=>List.sum_cons
|KH=>PySem.Paired.length
|KI=>PySem.W.looks_findIn
|KJ=>List.perm_cons_erase
|KL=>Nat.eq_sub_of_add_eq
|KM=>PySem.Heap.size_push
|KN=>PySem.wpAny_seqItems
|KO=>PySem.wpAny_tryCatch
|KP=>List.extract_eq_take_drop
|KQ=>Int.lt_of_not_ge
|KR=>List.map_congr_left
|KS=>PySem.Heap.SameBut.update
|KU=>PySem.codeAny_mono
|KW=>Nat.zero_mul
|KY=>List.take_append_getElem
|KZ=>Array.size_setIfInBounds
|K0=>List.count_cons
|K1=>if_false
|K2=>List.range_succ
|K3=>List.count_pos_iff
|K4=>Nat.pos_of_ne_zero
|K5=>PyProof.Rows.boot_tuple
|K6=>List.length_nil
|K7=>List.of_mem_zip
|K8=>List.cons.inj
|K9=>PyProof.Rows.listUpdate_at
|Lb=>PyProof.Rows.get?_update_seq
|Lc=>List.nodup_cons
|Ld=>PySem.tupleKind_room_in1
|Lf=>PySem.codeAny_builtin
|Lg=>PySem.slot_listiter_next
|Lh=>PyProof.Rows.bitAnd_pp
|Lj=>Option.map_eq_some_iff
|Lk=>Nat.mod_eq_sub_mul_div
|Ll=>PySem.W.cellsFrom_some
|Lm=>PySem.F.entry_min_loop
|Ln=>Nat.le_of_succ_le_succ
|Lo=>List.pairwise_map
|Lp=>PySem.wpAny_call
|Lq=>Nat.add_sub_assoc
|Lr=>Nat.lt_add_one
|Ls=>le_of_le_of_eq
|Lu=>Nat.le_add_left_of_le
|Lv=>Int.ofNat_add_one_out
|Lw=>PyProof.Rows.boot_max
|Lx=>PySem.F.slot_list_clear
|Ly=>Nat.lt_of_sub_eq_succ
|Lz=>Nat.le_of_ble_eq_true
|LA=>List.mem_of_mem_erase
|LC=>Nat.add_le_of_le_sub'
|LD=>Nat.sub_eq_zero_of_le
|LF=>Array.getElem?_toList
|LG=>Nat.div_eq_of_lt
|LH=>List.drop_length
|LI=>List.exists_mem_of_length_pos
|LJ=>List.not_mem_nil
|LK=>List.map_snd_zip
|LL=>PySem.W.any_some
|LM=>Nat.le_of_not_ge
|LN=>PySem.wpAny_isInstance
|LO=>Nat.mul_le_mul_right
|LP=>PySem.SeqAt.EqAt.bool_bool
|LQ=>PySem.Around.under_plainId
|LS=>Array.toList_extract
|LU=>Nat.mul_add_div
|LV=>Nat.not_lt_zero
|LW=>List.filter_map
|LX=>List.length_set
|LY=>Int.natCast_pos
|LZ=>List.mem_map_of_mem
|L5=>PySem.wpAny_letGo
|L6=>List.filterMap_cons
|L7=>PySem.W.plainGet_of
|L8=>PySem.SeqAt.RcNeAt.tuples
|L9=>PySem.F.slot_enumerate_next
|Mb=>Nat.sub_le_sub_left
|Mc=>Nat.mod_mul_right_div_self
|Md=>Nat.mod_two_eq_zero_or_one
|Mf=>Int.fdiv_eq_ediv_of_nonneg
|Mj=>Nat.le_of_add_le_add_right
|Ml=>Array.toList_setIfInBounds
|Mm=>List.map_nil
|Mn=>List.getElem?_take
|Mp=>Int.ofNat_le
|Mq=>Nat.le_total
|Mr=>Nat.sub_right_comm
|Ms=>List.take_take
|Mt=>Bool.false_and
|Mu=>List.take_left
|Mv=>Nat.lt_trichotomy
|Mw=>Nat.not_lt
|Mx=>Nat.le_succ_of_le
|My=>Bool.not_eq_true'
|Mz=>Option.isSome_map
|MB=>Nat.mul_left_comm
|MC=>Array.toList_push
|MD=>List.drop_sublist
|ME=>Int.ofNat_inj
|MF=>List.take_add
|MG=>List.perm_nil
|MJ=>List.filter_cons
|MK=>List.mem_flatMap
|ML=>PySem.W.makes_of
|MM=>List.all_eq_true
|MN=>Nat.sub_add_comm
|MO=>Nat.lt_add_right
|MP=>Nat.max_eq_right
|MQ=>Nat.ToInt.of_le
|MR=>List.map_const'
|MS=>Nat.le_add_left
|MT=>Int.le_of_lt
|MU=>Eq.trans
|mi ζ=>.a (.v ζ)
|By ζ η θ ι μ ν=>NL.by' ζ η θ ι μ ν rfl
|Vh ζ η=>mi ζ (.n η)
|Os=>.v 1
|LE=>.v 0
|Id=>List Nat
|Φ ζ=>some (.lst ζ)
|ZV ζ η θ ι=>by obtain⟨_,_,ζ⟩:=η;obtain⟨_,_,θ⟩:=ι
|TD ζ=>some (.ref ζ)
|E4 ζ η θ=>upd ζ η (.lst θ)
|Ε ζ=>(ζ:Int)
|CF ζ η=>.a ζ (.n η)
|IO=>some o
|Tm=>.v 2
|vQ ζ η θ=>NL.of0 ζ η θ rfl
|CD ζ η=>.a (.m ζ η)
|SZ=>pv 0
|Bu ζ η θ ι μ ν ξ=>By ζ η θ ι μ (Fx ν ξ)
|kZ ζ η=>wpAny (model ζ η)
|Tl=>Array Keyed
|On=>Vh 0 1
|Ax ζ η=>⟨_,ζ,η⟩
|Ex ζ=>⟨ζ,rfl⟩
|Ο ζ=>(ζ).map vN
|Χ ζ=>some (vN ζ)
|NE=>List V
|Bx ζ=>aa ζ xqT
|yx ζ η=>List (ζ×η)
|o4 ζ η=>by obtain⟨ζ,rfl⟩:=η
|xJ7 ζ=>xee (i:=ζ)
|Br ζ=>.a (.n ζ)
|xyi ζ=>Inv ζ M6
|kL ζ η=>aq (λ _ ζ=>η)
|nL ζ=>ζ≤sizeLine
|UF=>hr.mono Z9
|PP=>pv 1
|Cg ζ η θ=>ac (xJ7 ζ η θ)
|Be=>.v 3
|A9=>mi 0
|P3=>A9 Os
|Tu ζ η θ=>some (.ins ζ η θ)
|Κ ζ=>autoParam ζ xdx
|xH ζ η=>aa ζ (Bx η)
|jG=>λ _ _=>rfl
|fF ζ=>starEach ζ X.env
|ZU ζ=>ζ->Prop
|ω=>.ref a
|Uf ζ η θ=>xwm ζ η (am θ)
|xyj ζ η=>{cls:=.type ζ,data:=η}
|SL ζ η=>ζ=some η
|A8=>.ref l
|xXL=>Option MW
|CQ ζ η θ ι μ ν=>by obtain⟨ζ,η⟩:=θ;obtain⟨ι,μ⟩:=ν
|f9 ζ=>af (xed ζ)
|xC0 ζ=>(List.range ζ).map
|jS ζ=>xyi ζ σ
|jb=>λ _ _=>False
|Zh ζ=>eval ζ X.env
|Μ ζ η θ=>by rw [ζ] at η;cases θ
|AN ζ=>.inl (Ng.of ζ)
|Ty=>pv 2
|xXM ζ η=>SL (X.env.cells.lookup ζ) η
|eE ζ=>(ζ:Str)
|SC ζ η=>λ ζ η=>?_
|Fp ζ η θ ι μ ν ξ ο=>Bu ζ (mi η θ) ι μ ν ξ ο
|Dq ζ η θ ι μ ν=>NL.J' (By ζ η θ ι μ ν)
|Ψ=>Vh 1 1
|Cf ζ=>by refine wpS_bind ζ
|vo ζ η θ ι=>by generalize E4 ζ η θ=ι at*
|ja=>Κ ((backTo pos (starEach es X.env)).any (·.1)=false)
|xXN=>congrArg Int.ofNat
|Ep ζ=>Ax ζ ?_
|Bw=>.ref p
|Fm ζ η=>SL ζ (.tup η)
|Bc=>s.heap.get? b
|UV=>FO _
|xyk=>Int.ofNat_le.2
|DH ζ η=>(ae ζ η).symm
|Aw=>mi 1
|Θ=>Aw Tm
|AJ ζ=>CF ζ 1
|Aq ζ η θ=>SL ζ[η]? θ
|υ=>List MV
|Fl=>ts.map V.ref
|DG ζ η θ ι=>by obtain⟨ζ,η⟩:=θ;refine ι
|Sc=>xdo Z8
|xC1 ζ=>.str (Str.ofString ζ)
|pj ζ η=>putF ζ (.ref η)
|lu=>jS X
|Υ ζ=>Ax rfl ζ
|xXO ζ=>ak (o:=ζ)
|Az ζ=>xXO (.lst ζ)
|Zg ζ η=>(List.replicate ζ η).flatten
|π=>pv 3
|EK ζ η θ ι=>if ζ=η then θ else ι
|Α=>xsP SZ rfl
|vn ζ=>(Rs.take ζ).flatten.length
|Tt ζ η=>ai (ae ζ η)
|x36=>sIx items.size
|ET ζ η=>.frz ζ (.own η)
|xJ8 ζ η=>((ζ).drop η).take
|Ν=>pv 4
|AI ζ η θ=>show ζ=η from θ
|Ap=>.ref C
|ER ζ=>.m ζ Os
|An=>List Str
|Zf ζ=>xdB (top ζ)
|o6 ζ=>λ ζ=>?_
|jP ζ=>L.getD ζ 0
|Ts ζ η=>SL (h'.get? ζ) η
|Dm=>.inl rfl
|Cy=>.n 0
|Bq ζ η θ ι μ=>by obtain⟨ζ,η,θ⟩:=ι;refine μ
|tI=>ord κ
|Av=>List Bool
|dt ζ η θ=>upd ζ η (.tup θ)
|xJ9 ζ η=>xvx ζ (af η)
|Ω=>NL.xc0 _ _
|jF=>seqObj "list"
|Au ζ=>Φ (Ο ζ)
|B8 ζ η θ ι μ=>by obtain⟨ζ,η,θ⟩:=ι;exact μ
|pZ=>T.map vN
|De ζ η θ ι=>by obtain⟨ζ,η⟩:=θ;exact ι
|xXP ζ η=>SL (X.env.scope.names.lookup ζ) η
|yv=>.ref f
|Ζ ζ η θ=>xrF K mg ζ η θ f fd
|xKa ζ η=>SL (scope.names.lookup ζ) η
|xG=>lu H
|Bj ζ η θ ι μ ν=>by obtain⟨ζ,η,θ,ι⟩:=μ;exact ν
|Tr ζ η=>SL (h.get? ζ) η
|vP ζ η θ ι μ=>Cg ζ η θ (ac ι μ)
|xKb ζ η θ ι=>y' ζ w η mg base Ni θ ι fd
|AH ζ=>xKb P K ζ f
|BV=>Option V
|WX ζ η θ=>by(rcases F9.mp ζ with η|θ)
|xyl ζ=>Binds ζ fd
|yt=>congrArg List.length
|yr=>Vh 2 1
|EH=>λ _=>?_
|jZ ζ=>autoParam ζ xdH
|dn=>s1.trans s2
|vm ζ η=>by obtain⟨_,_,_,_,_,_,_,_,_,ζ,_⟩:=id η
|Bt ζ=>⟨_,ζ⟩
|Vg ζ η=>(ζ++η).length
|WW=>Int.ofNat_lt.2
|Tq ζ=>(ai ζ).trans
|xKc ζ η=>s.heap.push (xyj ζ η)
|Fj ζ=>Q ζ H'
|Tp ζ η θ ι=>EK (eE ζ) η θ ι
|xKd=>kZ X.prog X.w
|AX ζ η=>by exact absurd ζ η
|CN=>mi 2
|vk ζ=>{s with heap:=ζ}
|vO ζ η θ ι μ ν=>by show ZV ζ η θ ι;obtain⟨_,_,μ⟩:=ν
|tH ζ η=>putF ζ (vN η)
|E3=>xrD κ
|vM=>B.map vN
|pW ζ η=>ap ζ η aj
|ZC=>C' H
|lJ ζ η θ ι=>xvA ζ η θ (Bx ι)
|ZA ζ η=>(ζ).lookup (eE η)
|ρ ζ η θ=>by rw [ζ] at η;exact θ
|Vf ζ η θ=>by obtain⟨ζ,η,rfl⟩:=θ
|vj ζ η=>{s with heap:=ζ,toks:=η}
|Fh ζ=>⟨ζ,?_⟩
|VU ζ=>.int ζ t
|vi ζ η θ=>by obtain⟨ζ,_,_,_,_,_,_,_,_,η,_⟩:=id θ
|WV=>S.map vN
|xF ζ η=>λ ζ=>decide η
|xKe ζ=>ζ≠X.env.locals
|A4 ζ=>ζ.2.1
|ST=>xG s
|Cc ζ η θ ι μ ν ξ=>by obtain⟨ζ,η,θ,ι,μ⟩:=ν;exact ξ
|Z3 ζ η θ ι μ ν ξ ο=>Fp ζ η θ ι μ (.n ν) ξ ο
|Ρ ζ=>ζ=false
|Am=>PE X
|qS=>.v 4
|lI=>ZU Hp
|χ=>yx MV M4
|WU=>kf κ
|WT ζ η θ ι=>NL.no ζ η θ ι rfl
|wR ζ η=>SL (s.heap.get? ζ) η
|AD=>F8 rfl
|jE=>.builtin "object.__class__"
|xKf ζ=>instObj ζ s.heap.objs.size
|xym ζ=>aD (j:=ζ)
|tG ζ=>some (.int ζ)
|xyn ζ η=>.Call (.Name ζ η)
|Ι=>ZC H'
|xKg=>s.heap.push emptyDict
|Fg ζ=>(FR.mp ζ).1
|dU ζ η θ ι μ=>thn ζ (λ η θ ι=>μ)
|B7 ζ η θ ι μ ν ξ ο=>Bu ζ (.a η θ) ι μ ν ξ ο
|wQ ζ η=>SL (H ζ) η
|lH ζ η=>∀b∈ζ,η
|tF=>Value.ref a
|WS ζ η θ=>aa ζ (xH η θ)
|jY ζ η θ ι μ=>⟨ζ,rfl,η,θ,ι,μ⟩
|A7 ζ η=>Aq ζ i η
|B5=>List MW
|WR ζ η θ ι=>by rw [ζ,η] at θ;cases ι
|vh ζ η θ=>λ ζ=>absurd η θ
|VT ζ η θ=>⟨ζ,η,rfl,θ⟩
|dI=>Option Int
|BG=>List Bd
|dE ζ η=>Tu ζ dx η
|gY ζ η θ ι μ ν=>By ζ η (.n θ) ι (.n μ) ν
|pT=>W13.puts It
|EE ζ η θ ι=>⟨ζ,η,rfl,θ,ι⟩
|vL ζ η θ=>(ζ.2 η θ).trans
|Tj ζ η θ ι=>upd ζ η (.ins θ dx ι)
|E1 ζ η θ=>EK ζ true η θ
|wO=>Fz this.symm
|wN=>SG.kf SG.kInt
|Ak=>ER 8
|pN ζ=>.m ζ Tm
|WQ=>X.s₀.heap.get? b
|EO=>upd X.H₀
|pM=>xKd X.A
|AV=>[_]
|xXQ ζ=>xdA (i:=ζ)
|AU=>.n 1
|yl=>r.map vN
|EI ζ η θ ι μ=>by show vo ζ η θ ι;refine μ
|ED ζ=>M' ζ _
|Tg ζ η=>Ep (ac ζ η)
|A3=>g1 _ _ ?_
|pL=>.int 0
|yk ζ=>.m ζ LE
|Eo=>CN Be
|vg ζ η θ=>⟨_,ζ,η,θ⟩
|Ps ζ=>Ε (ζ:Nat)
|xC2=>kv.toArray.zip its.toArray
|vf=>Ex rfl
|gU=>L.map vN
|zH ζ=>P.length+ζ
|xC3 ζ=>T.length≤ζ
|Bb ζ η θ=>Fx ζ (Fx η θ)
|CZ ζ η θ=>xna ζ η θ (xmz _)
|AG ζ η=>⟨ζ,η,?_⟩
|xKh ζ=>(pendingOf ζ).size
|Z2 ζ=>kL g1 ζ
|Ec=>s1 _ _
|jX=>.ref s.heap.objs.size
|pK ζ η θ=>.cons ζ (.cons η θ)
|vK=>none_of s1
|jD=>arrOf sq0
|BX ζ η θ ι μ=>By [_,_] ζ η θ ι μ
|pI ζ η=>pM ζ η X.xe
|El ζ η=>(ζ).length≤η
|EM ζ η θ=>by(rcases F6.mp ζ with η|θ)
|Z1 ζ η=>by refine ζ;clear η
|DE ζ=>by show Z1 ζ g1
|Ff ζ=>by show DE (Z2 ζ)
|xyo ζ η θ ι=>by obtain⟨its,ζ,η,θ⟩:=ι
|pH ζ=>by exact False.elim ζ
|jC ζ η=>by show ρ ζ this η
|Z0 ζ η θ ι=>HP ζ η (λ _ _ θ=>ι)
|CA=>List Id
|x37=>HT.sIx xs.length
|ve=>W.map vN
|ym=>ps.map V.ref
|Bh ζ η θ=>⟨ζ,SC η θ⟩
|gP ζ=>yx Str ζ
|VM ζ=>CD ζ Tm
|xyp ζ=>Q (.bl ζ)
|xKi=>NoAttr K
|vJ=>xsM X.len
|DX=>mi 3
|EL ζ η θ ι μ ν ξ=>NL.xdl ζ η θ ι μ ν ξ rfl
|pG=>R.map vN
|U7=>ns.map V.int
|xKj ζ η=>SL (K.lookup ζ) η
|pF ζ=>["self",ζ]
|Dz=>A9 Tm
|EC ζ=>c≠ζ
|xKk=>Int.ofNat_lt.1
|Cw=>.ref x
|jA ζ=>⟨Z9,ζ⟩
|B4 ζ η=>(ζ).length=η
|DD=>Aw LE
|zG ζ=>xXO (.tup ζ)
|Fc ζ η θ ι μ=>vP ζ η θ ι (f9 μ)
|DC=>CN Os
|jW ζ=>T.take (64*ζ)
|dD ζ η θ ι μ=>by obtain⟨ζ,η,rfl,θ,ι⟩:=μ
|C8=>pv 5
|iz ζ η θ ι=>by obtain⟨_,ζ⟩:=η;obtain⟨_,θ⟩:=ι
|Dy ζ η=>decide (ζ=η)
|pD=>I.hok.fresh UV
|jV=>.ref it
|jU=>am st
|pC ζ η θ=>E4 ζ η (Ο θ)
|DW=>AJ Cy
|Δ ζ η θ=>∃f fd,Ζ ζ η θ
|xC4 ζ=>xym ζ rfl
|qR ζ η=>aT (o6 ζ) (o6 η)
|xKl=>.builtin "getset_descriptor.__get__"
|zF ζ η=>xJ9 ζ η xmy
|xyq ζ=>ζ≤xs.length
|DU=>List α
|jR=>cdAt L
|AS=>Fj A8
|pB ζ η θ ι μ ν ξ ο=>by obtain⟨ζ,η,θ⟩:=ι;obtain⟨μ,ν,ξ⟩:=ο
|Bo=>yx Nat Nat
|fq ζ=>X.s₀.heap.objs.size≤ζ
|AM=>Gj _
|j8=>K w.params
|sj=>Y.map vN
|U6 ζ=>Br ζ LE
|U5 ζ η θ ι=>(WT ζ η θ ι).elim
|xQo ζ=>Obj.mapSeq (λ _=>ζ)
|pA ζ=>(jW ζ).drop
|j6=>Option Nat
|Γ=>EC p
|xyr=>xs.toList.drop i
|EB ζ=>ζ<256
|AA=>Ε n
|Cv=>pN 8
|EA=>A9 Ψ
|XC ζ=>Ep (f9 ζ)
|U4=>List Keyed
|xys=>xv0 co
|D7 ζ=>Vh 0 ζ
|zE=>le_trans tI
|ij ζ η θ=>by show Z1 (kL ζ η) θ
|xuA=>bt R
|V7 ζ=>xnc SZ ζ rfl
|U3=>Fz hl.symm
|Ar=>Φ xs
|xuB ζ η θ ι=>by generalize ζ=η at*;generalize θ=ι at*
|p8 ζ η=>AJ (CF ζ η)
|xKm ζ=>List.replicate ζ none
|τ ζ η θ=>λ ζ η θ=>?_
|Fb ζ η θ ι μ ν ξ=>⟨ζ,η,θ,ι,rfl,μ,ν,ξ⟩
|xC5 ζ=>(B.take ζ).drop
|Sj=>tots ps
|Vj ζ η θ ι=>⟨ζ,η,θ,rfl,ι⟩
|ig=>Hb.mp z
|xyt=>P'.take i
|wM=>Z.drop b
|sh ζ η θ ι μ=>xvA ζ η θ (xH ι μ)
|xQp=>.seq its.toArray
|xXR=>eE "whole_bytes"
|ie ζ η θ=>by obtain⟨ζ,rfl,η⟩:=θ
|aN ζ η θ ι μ ν ξ ο=>⟨ζ,rfl,η,θ,ι,μ,ν,ξ,ο⟩
|wL ζ=>lH ζ (EB b)
|SB ζ=>ζ=true
|ix ζ η=>SB (keepIn ζ η)
|xyu ζ=>ζ<xs.length
|D5 ζ η θ ι=>by subst ζ;show Μ η θ ι
|qO ζ η=>E4 ζ l η
|DT ζ η θ=>xsO (v:=.int ζ) Z7 η (Ex θ)
|ky ζ η θ=>cutV ζ η (some θ)
|wK ζ=>xdX (xvv ζ)
|wJ=>upd H
|qN ζ=>⟨rfl,ζ⟩
|d8 ζ η=>Fx ζ (Fz η)
|d5=>aK xqT
|Ei ζ=>Az (Ο ζ)
|xuC ζ=>ζ<s.heap.objs.size
|AR ζ=>by refine FG ζ
|lG ζ η=>by show AR ζ;show AR η
|Wp ζ η=>by refine ζ;refine η
|E9 ζ η θ=>by show Wp ζ η;refine θ
|xC6 ζ=>xyj "list" ζ
|kq ζ η=>⟨ζ,η,rfl⟩
|ko ζ=>Vals ζ us
|xuD ζ η θ=>show s.heap.IsTuple ζ η from θ
|Dv=>xrF K mg
|BC ζ η=>(FA ζ η)
|B1=>kp _ _
|K'=>s.heap.objs.size+1
|xuE=>standAt apos.atName
|xKn ζ η=>SL (sc.names.lookup ζ) η
|A6=>8*R.length
|WO=>Nu.refl _
|WF ζ=>ζ=none
|A1 ζ=>WF (H ζ)
|Ξ=>A1 l
|zD ζ η=>CD ζ (.n η)
|qH=>AJ P3
|E8=>ap xqU
|kn ζ=>.a (Vh ζ 1)
|EJ ζ η θ=>dU ζ η θ z9 ?_
|U2=>X.take n
|wH ζ η θ=>SL ((ζ).get? η) θ
|xKo ζ=>ζ<sizeLine
|EG=>xKo ys.length
|xC7=>Nat.sub_eq_zero_iff_le.1
|WM ζ=>xwJ ζ Rb.length
|zC ζ=>AH ζ Jab
|zB ζ=>Ps (ζ).length
|xyv ζ=>.cons ζ .nil
|Ea=>most S p
|xuF ζ=>zF (PW.pt ζ) xsN
|WL ζ=>xs.length-ζ
|wG=>.ref t
|qG ζ η=>.inr ⟨ζ,η⟩
|XL=>H a
|iu ζ η=>SL (s'.heap.get? ζ) η
|wF ζ η θ ι μ=>by refine ζ;obtain⟨η,θ,ι⟩:=μ
|sQ ζ η=>ac ζ (af η)
|EF=>none_of s0
|xyw ζ=>fO ζ S.length
|wD=>ZU SortSt
|Τ=>by intro z;cases z
|xQq=>Nat.not_lt.1
|Ab=>p.1
|xyx=>K25.C.bt R
|yj ζ η θ ι=>by obtain⟨⟨ζ,η⟩,hC,θ⟩:=ι
|ki ζ η=>List.replicate (ζ+η)
|z8 ζ η θ=>by show o4 ζ η;exact θ
|wC ζ=>occ ζ p
|Eh=>.int i
|sP=>‹_›
|xC8=>xsM T.len
|xQr=>Nu blt
|qF ζ η=>decide (ζ≤η)
|x38 ζ=>xKc "list_iterator" (.fields ζ)
|xXS ζ=>Heap.ExtBut ζ s.heap
|yz ζ=>ζ≤B.length
|xQs ζ=>A'.length+ζ
|U1=>xQs M.length
|yi ζ=>Ε (ζ).length
|qE=>A9 Be
|cW=>AJ On
|U0=>ER 64
|Tz ζ η θ ι μ ν=>xXN (FA (vQ ζ η θ) (vQ ι μ ν))
|CM ζ η θ ι=>by(rcases Ha ζ η with θ|ι)
|xyy ζ=>tots (puts ζ)
|Tv ζ=>CD ζ Be
|kh=>.type "list"
|EZ=>.n 3
|kM ζ=>ζ≤1000
|x39 ζ=>λ _ _ _ _ _ _ _ q=>ζ
|iq=>eqv blt
|wB ζ η θ=>by have:=ζ;show jC η θ
|sI=>I.tok _
|xKp=>.builtin "object.__init__"
|xuG ζ η θ ι=>holding ζ (getMethod η θ ι)
|AE=>H' c
|Aa=>g _ _ ?_
|wA=>some v
|yy ζ η=>by show Wp (Ep ζ) η
|RG ζ=>by show ζ;decide
|jy ζ=>by show RG (nL ζ)
|E2=>λ _=>rfl
|vI=>.v 5
|xuH ζ η=>Uf ζ Jab η
|sH ζ η=>by show WX ζ rfl η
|C7=>s2 _ _
|DR ζ η θ ι μ=>by have ζ:η:=θ;generalize ι=μ at*
|D4=>Ec e
|ip ζ=>⟨dx,ζ⟩
|AL=>H' l
|WJ ζ=>CD ζ Os
|w6=>Br 1000
|xuI ζ η θ=>by show Vf ζ η (He.mp θ)
|xC9=>.Name x
|AZ=>s5 _ _
|xDa=>Nat.not_lt.2
|xKq=>I.base.free b
|kc ζ=>ζ<L.length
|Bg ζ η=>by rw [<-ζ];exact η
|yd ζ η θ ι=>by obtain⟨_,_,ζ⟩:=η;have θ:=ι
|Aj ζ η θ=>xwM K ζ η θ f fd
|kb ζ=>(F6.mp ζ).elim
|yK ζ=>ζ≤S.length
|qA=>CN LE
|px ζ η θ ι=>λ ζ η=>absurd θ ι
|w4=>List Env
|WI=>ai QO.symm
|x4a=>((s.heap.push (seqObj "list" #[] 0)).update s.heap.objs.size (Obj.mapSeq (·++its.toArray))).push
|xKr ζ=>(Qs.take ζ).count
|WG=>["reader"]
|kX=>.bl true
|xKs ζ η=>wpAny _ ζ η _ _
|W1=>H c
|iP ζ η θ ι μ ν=>by obtain⟨ζ,η,θ,ι,μ,ν⟩:=h
|RF ζ=>ζ<S.length
|kR ζ=>xdY (C:=ζ)
|yY ζ=>(ζ).Pairwise E3
|RE ζ η=>vQ AV ζ η
|xXT ζ=>Walk ζ W.length
|yU=>X.env.qual++"<lambda>"
|DZ=>.ref e
|mz ζ η=>(tr ζ η).trans
|xKt=>KK κ
|vH=>pairs B
|x4b=>λ(J:R1 [some (.ref p),some (.bl fn),some (vN n),some (.int (0+(i:Int))),some (.bl fn)] H2)=>?_
|xXU ζ=>pj "signs_check" ζ
|aG ζ=>dE C ζ
|yS ζ η=>WF ((ζ).lookup η)
|xuJ ζ=>List.replicate ζ a
|jx ζ η θ ι μ ν ξ ο=>by obtain⟨ζ,η,θ,ι,μ,ν,ξ,ο⟩:=h
|Gl=>Ε 0
|my=>Bx aj
|DY=>Fh rfl
|D9=>cn Q
|a8=>Gk e
|xyz ζ=>ζ≠s.heap.objs.size
|xyA ζ=>s.heap.objs.size≤ζ
|RD=>Option MV
|xQt ζ=>W.length≤ζ
|xDb ζ=>X.length-ζ
|iN ζ η θ=>by obtain⟨_,_,_,ζ⟩:=η;exact θ
|cN=>jA Z9
|yR=>K.In s.heap
|sE=>List Pc
|kP=>nL xs.length
|xDc=>xC0 C.length
|xyB ζ η=>AI ζ true η
|yI ζ η θ=>BX ζ Os η Os θ
|Ey ζ η θ ι=>by refine ζ;obtain⟨η,θ⟩:=ι
|RC ζ=>ζ≤L.length
|xuK ζ=>(L.take ζ).count
|mx ζ η=>by(rcases ζ with rfl|η)
|xDd ζ=>.int (kf ζ)
|xuL ζ=>call (.builtin ζ)
|xyC ζ η θ=>SB (codeIn ζ η θ)
|xDe ζ=>(List.range ζ).filter
|xDf=>.type "ValueError"
|mw=>["before"]
|vG=>kf x
|mv=>G.map vN
|RA ζ=>.m ζ Be
|AQ ζ η=>by refine F.ok ζ η;intro _
|kO ζ=>L.length≤ζ
|vF=>A9 Θ
|vE=>vk h'
|Ew=>Bx SZ
|CJ ζ=>ζ.2.2
|kK ζ=>A4 (CJ ζ)
|xXV ζ η=>KS ζ η (Obj.mapFields (·.setIfInBounds 0 Value.none))
|xuM=>.bool true
|bu=>pv 6
|BB ζ=>by exact .inl ζ
|xyD ζ η=>xv9 ζ η aj jG
|bq=>U6 1
|vD=>F3 ?_
|yJ ζ=>(ζ,.local)
|D2=>aq (SC R1 g1)
|xyE ζ=>ζ=ps.length
|Ay ζ η θ ι=>by have ζ:=η;rw [θ] at ι
|xyF=>Int.ofNat_inj.1
|xKu=>.type "BaseException"
|xDg ζ η=>(xs.extract ζ η).toList
|xyG=>C9.cdAt L
|WE=>h'.get? b
|xuN=>WF X.A.handled
|xKv=>run a
|Bn=>nB T
|Eu ζ=>(false,Zh ζ)
|WD ζ=>⟨ζ,[]⟩
|xXW ζ=>["_law_cell",ζ]
|xQu ζ η=>xyj ζ (.fields η)
|Et=>L.map (sgl wt)
|Es ζ η=>FE ζ (Fz η)
|mr ζ=>SB (ζ).isSome
|WB ζ=>WF (mg ζ)
|vz ζ=>WF (H1 ζ)
|ju ζ η θ ι=>Ep (Cg ζ η θ ι)
|xXX ζ=>tots (pP ζ)
|WA ζ=>.ref (os ζ)
|Sd ζ η=>AI ζ η rfl
|je=>yk 8
|pd=>ap bi
|yH ζ=>Tt e ζ
|DQ=>FQ h
|Qz=>FS _
|xKw=>R.take i
|kI=>.dT []
|yF ζ η=>EJ ζ η s1
|iJ=>xyE vs.length
|Cz=>NJ _ _
|Em ζ=>ζ<X.length
|yG ζ=>lH fp ζ
|bS ζ=>xuH Jab ζ
|xyH ζ η θ ι μ=>by obtain⟨ζ,η⟩:∃θ,ι:=μ
|Ct ζ=>Nat->ζ
|Cs=>Ct Nat
|Qf=>xdi κ
|pX ζ η θ ι=>Cg ζ η θ (af ι)
|vC=>ER 2
|EX=>Φ pZ
|vB ζ η=>decide (ζ<η)
|xKx ζ η=>xvw (Hb.mpr ζ) (Gq η)
|mn ζ=>ζ≤T.length
|xDh=>tail.drop m
|rq ζ η θ=>(ζ).map (λ η=>θ)
|xyI=>yk 64
|yE=>DX qS
|ml=>DX Tm
|mj=>SB X.calm
|qM=>FX _
|xuO=>Le blt kf
|xDi=>b.toList.drop ib
|Bf=>[Bw]
|xXY ζ=>tH "blocks" ζ
|pV ζ=>.a ζ Tm
|LT ζ η=>by rw [ζ];exact η
|XV ζ η=>by show LT (ai ζ) η
|Ai ζ=>by show LT Fy ζ
|pQ ζ η=>by show LT (yH ζ) η
|Qe ζ η=>by show LT (Ge.mp ζ) η
|vy=>xKv L
|xuP ζ η θ ι=>codeAny ζ η (.call θ ι)
|xn ζ=>FZ ζ e1.symm
|xQv=>SM.Nu SG.kInt.blt
|m7 ζ=>Ax ζ rfl
|xQw ζ η=>.Call (.Attribute ζ η apos)
|pO=>.a yr
|xm ζ=>none_of ζ nl
|xQx ζ=>λ _ _ z=>ζ
|kH ζ=>WF (X.mg ζ)
|p9 ζ η θ=>by refine ζ;show LT η θ
|x4c=>xvK Cp Ce CO CK
|jz=>.dT Nj
|jI=>Gp _ _
|Bm=>TD a
|W9=>h.get? b
|x4d=>wpS (model prog w)
|rg=>D7 3
|xKy ζ η=>(Qj.heap.update ζ η).get?
|Qd ζ=>.cons ζ ih
|xyJ ζ=>ζ=xs.length
|xuQ ζ=>S.length+ζ
|xQy=>I1.hok.fresh UV
|qL ζ=>xKs _ ζ
|kF ζ=>xyD xmu ζ
|CY=>Ex _
|xj=>.inr rfl
|xKz=>.fields vs
|xKA ζ=>.seq (ζ).toArray
|xQz=>Builtin.Tuple.tupleExact _
|xQA=>xuY false
|xKB=>xjg κ
|xuR ζ=>W13.Of ζ It
|k8=>["number"]
|jB=>nb A'
|jt=>eE "course"
|jO=>eE "blocks"
|il ζ η θ ι μ ν=>xvA ζ η θ (WS ι μ ν)
|Al ζ η=>by refine F.F.ok ζ η;intro _
|Eg ζ=>∀x∈ζ,EB x
|xh=>xQr kf
|xDj=>L.drop vy
|xyK=>xuQ T'.length
|xyL ζ=>M' ζ X.A
|B0 ζ η θ=>by show WR z ζ η θ
|xa ζ η=>CZ xsJ ζ η
|EV=>2*L.length
|E7=>Ε 1
|Qc ζ η θ ι μ ν=>⟨ζ,η,θ,ι,rfl,μ,ν⟩
|yC=>H' b
|qK ζ=>I.hok ζ _
|xuS ζ η=>xwt ζ (.builtin η)
|xKC=>λ _=>none
|xuT=>Value.bool _
|xyM ζ=>tots (pcP ζ)
|xDk=>pendingOf sq0
|xDl ζ=>ζ+As.flatten.length
|xuU=>List W13.Itm
|xDm=>B.take 3
|CV=>[ω]
|vA ζ=>.a ζ Os
|Bv=>ED 1
|Zz ζ=>Br ζ Os
|xX ζ=>At κ ζ pe
|xuV=>["thing","most"]
|xQB=>Nat.lt_sub_iff_add_lt'.2
|wI ζ η=>L.filter (xF ζ η)
|vw ζ=>A7 ζ x
|C4=>q.1
|xyN=>.type "int"
|xW ζ=>tots (pR ζ)
|xN ζ η θ ι μ ν=>aB (bo ζ η θ ι μ ν)
|k7=>Z.map vN
|xDn ζ η=>SL (bootBuiltins ζ) η
|Bz=>Txt K mg
|Ej ζ η=>by unfold ζ;show AR η
|EU=>q.2
|xyO=>["before","most"]
|Cn=>s3 _ _
|yA=>sm _ _
|xK=>kZ prog w A
|xXZ ζ=>ζ==sysModules
|xQC ζ=>W.length+ζ
|x4e=>Az ((Z'.map (λ z:MV×Bd=>(((z.2.1:Nat):Int),V.ref z.1))).map (·.2))
|tC ζ η=>ac ζ (f9 η)
|xJ=>DX LE
|DO ζ=>ζ≠p
|Ef ζ η θ ι=>Vj (.bl ζ) η θ ι
|Zy ζ η θ ι μ ν ξ=>by obtain⟨ζ,η,θ⟩:=ι;have μ:ν:=ξ
|xDo ζ=>h1.push (seqObj "tuple" its.toArray ζ)
|AK ζ=>1≤ζ
|x4f=>I.base.keep b
|xyP=>congrArg some
|pf=>kv.zip its
|qJ=>List Itm
|xD=>hr.hd Z9
|Β=>Str->xXL
|kr ζ=>by show Cf ζ;dsimp only
|jN=>lu H'
|ES=>s4 _ _
|xDp=>Loc X.env.scope
|xu0 ζ=>autoParam ζ xdJ
|xDq=>AllBare s'.gens
|xKD=>D.nx σ
|xDr=>eE "many_signs"
|W8 ζ=>ζ->ZU MX
|AB=>W8 MW
|k6 ζ η θ ι=>by show xyo ζ η θ (I.tuple ι)
|xu1=>pF "size"
|xu2=>Fz e.symm
|xu3 ζ=>(ζ).Pairwise xuO
|QN=>FM rfl
|jk=>by simpa using this
|xKE=>["_law_e"]
|qI=>.ref c
|EY=>.ref b
|jj ζ η θ ι=>by obtain⟨ζ,η⟩:=θ;cases ι
|ji ζ=>pW xxB ζ
|jM=>(jD).toList
|xyQ ζ=>WF (failedOf ζ)
|gs ζ η θ ι=>Tp ζ η _ (θ::ι)
|jL ζ=>Ct (Ct ζ)
|xKF ζ=>Heap.SameBut ζ s.heap
|xDs=>xdf Tb
|gm=>Φ ys
|xu4=>gP NameKind
|xyR ζ η θ=>by obtain⟨_,_,ζ⟩:=η;refine θ
|QM ζ=>(wL ζ)
|xKG ζ=>B.length≤ζ
|xKH ζ=>some (.builtin ζ)
|xDt=>xys wt bg
|QL=>xDt fn
|jK=>chk 16 45
|xX0 ζ=>ζ==Value.none
|xyS ζ=>xX0 (Value.ref ζ)
|jJ ζ η=>λ _ ζ=>nomatch η
|xKI ζ η=>.BoolOp ζ η pos
|xyT ζ η=>.Subscript ζ η pos
|xDu=>.type "bool"
|jH ζ=>(JS ζ).symm
|x9=>ND.of ht
|xKJ=>a.toList.drop ia
|y9=>.ref o
|rZ=>mi 4
|W7=>Aw yr
|QK=>model prog w
|Q5=>S.pos D9
|xu5=>xdC I q
|gX=>xu5 Z6
|xyU ζ=>I.base.slot ζ o
|xDv ζ=>ID ζ I.kIn
|Rn ζ=>Vh 1 ζ
|xDw=>.type "tuple"
|xQD=>.type "StopIteration"
|EW ζ=>DH ζ nl
|p7=>St->lI
|W6 ζ η θ=>∀ζ∈η,xKB θ
|Zx=>vN s
|DJ=>h.1
|xyV=>I.pin p
|xDx=>False.elim z
|wd=>List Int
|xKK=>congrArg Nat.succ
|jh=>ND.of ad
|ik=>TD f
|xyW=>nL Nj.length
|ow ζ η θ ι μ ν ξ=>Z3 ζ η θ ι μ 2000 ν ξ
|wY ζ η θ ι=>jY ζ η rfl θ ι
|rX=>Ps n
|W5=>xC3 1000
|xyX=>model X.prog X.w
|xX1=>xwN CO CK
|jg=>.tbl ps
|AP ζ=>by show RG (ζ<1000)
|xyY ζ=>ζ=its.length
|QJ ζ=>CF ζ 8
|xDy ζ η θ=>SL (List.lookup ζ η) θ
|xDz ζ η θ ι=>by obtain⟨_,_,ζ⟩:=η;show AQ θ ι
|xyZ ζ=>I.ok.bs ζ o
|xu6 ζ=>.Constant ζ j
|gQ ζ=>FK ζ Z9
|xy0 ζ=>Pv ζ ys
|xX2=>.error e
|DN=>GG _ _
|w8=>xv4 C
|x4g=>Κ ((backTo pos (starEach (e:: []) X.env)).any (·.1)=false)
|xKL ζ=>xXP ζ .local
|jf ζ η θ ι μ ν ξ ο=>by show ZV ζ η θ ι;show ZV μ ν ξ ο
|zy=>x.2
|xKM ζ η=>Ρ (behindInMarks ζ η)
|vp=>yk 2
|PO=>xKk this
|xy1 ζ=>A.under (.builtin "type.__call__" ζ)
|W4 ζ=>FK (Fz ζ)
|xDA=>qO H1 []
|P9 ζ η θ ι=>gY AV LE ζ η θ ι
|oo=>aV ?_
|qD ζ=>ζ<a.size
|xy2 ζ η=>Ex ⟨ζ,.inr η⟩
|xX3=>xyB false hs
|xDB=>xXW "_law_k"
|xQE=>xxX Ce CO CK
|xy3 ζ η θ=>(I.hok ζ η θ).stay
|xKN=>.type "object"
|zx=>vN 184
|xy4=>Y8.drop 7
|W2=>ae e
|xu7=>Q .non
|qC=>sgl wt
|xy5=>pF "text"
|Fw ζ η=>τ ζ η e
|P8 ζ=>(Gg ζ).symm
|oP ζ η θ=>(if ζ then η else θ)
|xu8 ζ η θ ι μ ν ξ ο=>by(rcases ζ with⟨η,θ,rfl,ι⟩|⟨μ,ν,ξ,ο⟩)
|xDC=>X.base.get? b
|xDD ζ=>I.base.tups ζ xs
|xDE ζ=>I.base.tbls ζ ps
|P7=>.sg s
|xy6=>V.int 0
|x4h=>Nat.not_le.1
|xKO ζ=>st.heap.objs.size+ζ
|xy7 ζ=>SL ζ true
|qB=>jW j'
|Du ζ η θ=>(E4 ζ η θ)
|xKP=>y' X.prog X.w X.K X.mg X.base
|zk ζ=>pW xqU ζ
|Ee=>A1 b
|jd=>Array MW
|xDF=>Value.ref b
|xKQ=>List Key
|xQF=>σ.set i
|rV=>GJ _ _
|pz=>rl T
|xDG ζ η θ ι μ=>by obtain⟨ζ,η⟩:=θ;dsimp only at ι μ
|xy8 ζ η=>B.take (max ζ η)
|xu9 ζ η θ ι=>Due ζ η (.thing θ ι)
|rT=>Ε i
|jc=>Array xXL
|QI=>.n 8
|xy9 ζ η=>SB (makesIn ζ η)
|xza=>xKt xs
|W0=>X.mg x
|xy ζ η=>(ζ+η).toNat
|x4i=>xw8 κ left key arr
|xDH ζ=>(x38 ζ).objs.size
|xDI=>arrOf st'
|xzb=>C'.refl H
|Y9 ζ η=>(ζ,V.ref η)
|P6=>ak nl
|nD ζ=>ζ<xs.size
|xzc ζ=>HK (Fz ζ)
|xQG=>s3.trans s4
|xDJ ζ η=>SL (cl.lookup ζ) η
|Y7 ζ η=>κ.blt (WU ζ) (WU η)
|rS ζ η θ ι μ ν ξ ο=>Fp ζ η θ ι μ ν (Fz ξ) ο
|gh ζ=>some (Ε ζ)
|gM ζ η=>xv9 xv8 ζ η jG
|Y6 ζ η=>CF (.n ζ) η
|pk ζ η θ ι μ ν=>∀(ζ:Nat) (η:θ) (ι:μ),ν
|QH=>.int j
|P1=>Ga _
|xQH=>putF f
|oM ζ η θ=>(ζ).take (η-θ)
|x4j=>s.heap.update a
|gK ζ η=>["self",ζ,η]
|P0=>X.drop m
|QG=>krf 12
|xQI ζ=>congrArg (List.take ζ)
|xKR=>["_law_opener"]
|Y5=>.ref q
|Y4 ζ η=>xvt (xH ζ η)
|xw=>o6 z
|zv=>pN 64
|Y3 ζ η θ ι μ ν=>by obtain⟨ζ,η,θ⟩:=ι;have μ:=ν
|QF ζ η θ=>zF (CZ ζ η θ) xsN
|zu=>xC8 SZ
|zh ζ η=>by show wB ζ η this
|gJ ζ=>aK (Bx ζ)
|QE=>256^B.length
|CU ζ=>by exact .inr ζ
|zr=>QJ On
|tx=>s6 _ _
|xQJ=>s.heap.IsSliceOf sl
|Oz ζ=>by simpa [FJ] using ζ
|tj=>kv.1
|xzd ζ η θ=>SL (findIn ζ η "__init__") θ
|QD ζ=>qL ζ s
|A5 ζ η=>by exact⟨ζ,η⟩
|zq=>List M3
|xze=>xc1 X
|xX4 ζ η θ=>swapsWith ζ η θ X.env
|Od=>.dK Nj
|Qn=>HV _ _
|zg=>far p
|mZ=>fW d
|OQ=>FQ h1
|xzf=>Y.drop pl
|xDK ζ η θ=>Ts ζ {η with slots:=θ}
|mX ζ η=>xvx ζ η xmy
|Qh=>vN n
|xDL=>eE "waiting"
|iH ζ η θ ι=>⟨_,ζ,η,θ,ι⟩
|Y2=>Vh 3 1
|rR=>Qz e
|OM=>Ng.of ad
|xX5=>xrE X M6
|xKS=>["singles","most"]
|Y0=>.frz o u
|xzg ζ=>Value.int ζ t
|iE=>k _
|zf=>iE _
|gH ζ η=>Hf (FN ζ η)
|xDM=>Option Bool
|gF=>.ref c'
|x4k ζ=>congrArg (List.map ζ)
|xQK ζ=>bw ζ T0.cl
|gE=>xC1 "copy"
|OA ζ η=>wQ ζ (.own η)
|xv ζ=>xyp ζ H
|O9 ζ η=>wJ ζ (.own η)
|xQL ζ=>ζ+Y.length
|gD=>xQL X.length
|Xa=>IQ _
|rQ=>Gz _ _
|xDN ζ η=>M' ζ (A.deeper η)
|xzh ζ η=>{X with pn:=ζ,xe:=η}
|xDO=>cxHand X
|gC=>bitsP ps
|xzi ζ η=>congrArg (λ ζ=>η)
|xzj=>S.take p
|xzk=>JT.mp this
|zp ζ=>aD (xdP ζ)
|xKT ζ η=>xs.toList.take (ζ+η)
|xzl=>["bundle"]
|xKU=>us.map V.ref
|xQM=>List.mem_append.1
|xKV=>["_law_opener","_law_thing"]
|zm ζ=>jP (th ζ)
|xKW=>jF its.toArray
|vv=>Φ vM
|g9 ζ η θ=>lJ ζ hr η θ
|xzm ζ η=>xec (xXQ ζ η)
|vt=>Φ gU
|Wz ζ η θ=>Bb ζ (Fz η) θ
|vq=>G1 _ rfl
|vZ=>h _
|jv=>vZ _
|xQN ζ η θ=>by obtain⟨_,ζ,η,_⟩:=I.ok.funs.mem θ
|gB ζ η=>Value.ref ζ::η
|jr ζ η θ=>show ζ∈η from θ
|xDP ζ=>by obtain⟨_,_,ζ⟩:=z9
|xKX=>pos C
|m8=>Bx PP
|xQO ζ η=>I.fpOk ζ (I.hok.fresh η)
|xzn ζ=>backTo pos (fF ζ)
|xzo ζ η θ=>(ζ).filter (xF η θ)
|m6=>W2 np
|xDQ ζ η=>mX ζ (f9 η)
|xQP ζ=>.ListComp elt ζ scope pos
|lz=>by simpa using hb
|vY=>Hk _
|ze=>x.1
|xQQ=>wpAny_newList ?_
|Mk ζ=>aM ζ ?_
|eg=>BP.val R
|xQR ζ η θ ι=>by obtain⟨_,_,ζ⟩:=η;obtain⟨_,θ⟩:=ι
|xt=>tl T
|xX6=>List.append_eq_nil_iff.1
|Qg=>TD p
|jq=>x36 0 lo
|xr=>jP q
|zd=>Ec hp
|fj=>xKi C
|xzp=>xQx z
|Ww ζ=>xa ζ aj
|xzq ζ=>Ng.of (yA ζ)
|xDR=>start N vs
|xQS ζ η=>by obtain⟨_,_,_,_,o,_,_,ζ,_⟩:=η
|jo=>Jh Z9
|xQT=>Nat.lt_one_iff.1
|xDS=>["bundles"]
|xX7 ζ η θ ι=>by obtain⟨ζ,_,_,_,_,_,_,_,_,η,_,_,_,_,_,_,θ⟩:=id ι
|xDT=>mg "Behind"
|xDU ζ η=>Aq ζ η Value.none
|zi=>Az []
|Wv ζ η=>by show AX (FM ζ) η
|xQU=>putF "many_signs"
|xo=>ap xmw
|xKY ζ=>envOfC qual ζ s.heap.objs.size
|Wu=>FE 64
|Wt ζ η θ=>xsK Gd rfl ζ (xXQ η θ)
|QC ζ η=>h ζ (qM η)
|lF=>.a On
|xk=>vw xs
|xQV=>List.replicate EU
|jm ζ=>Ps (ζ+1)
|eQ=>.inr vf
|xDV ζ η θ=>fnOf ζ η (xqS st) (xxD st) jU θ kV
|yu=>Jk _
|xX8=>Value.ref g1.objs.size
|xKZ=>ixN xs.length
|xX9 ζ=>(s1.heap.push ζ).objs.size
|xDW=>F5.mp h.s1
|xDX=>F5.mp h.s2
|xQW ζ η θ=>(ζ).eraseIdxIfInBounds (η+θ)
|xzr=>Y'.take l
|xzs=>Y'.drop l
|xzt=>Fz this
|PF=>ed L
|xzu=>.ref cd
|jl=>.ref r
|xQX ζ=>xKa ζ .local
|fb=>vN b
|zc ζ η θ=>by have:=ζ;rw [η,θ] at this
|xc=>Ps b
|xYa ζ=>ζ=.function
|xDY=>xYa scope.kind
|O5=>CD 2 LE
|Ws=>jW j
|eO ζ η θ=>upd ζ η (.own θ)
|Wr ζ η=>⟨rfl,ζ,η⟩
|rL ζ η=>Tj ζ p CO η
|jQ=>C7 e
|eM=>xC9 pos
|Ds=>(lcAt S q).2
|xQY=>xXW "_law_size"
|Wq ζ η θ ι=>jY ζ rfl η rfl (aT θ ι)
|Ez ζ η θ=>by show LT (Tt ζ η) θ
|Bp ζ η=>xX1 ζ η ck
|eK ζ η=>aq (λ R1 ζ=>η)
|xzv=>Ng.of hB
|rK=>SC b hb
|yq=>al S p
|j7=>s0 _ _
|Η ζ η=>by rw [ζ];refine η
|xK0 ζ=>IsRangeIter ζ it
|xK1 ζ η θ=>by obtain⟨_,_,_,_,ζ⟩:=η;exact θ
|xQZ=>λ _ _ _=>False
|AO ζ=>by have ζ:=rv.length
|zt ζ=>eval ζ env
|xDZ ζ=>A.units+ζ
|xD0=>ps.zip us
|eG ζ=>by show ζ;decide+kernel
|xD1 ζ=>Walk ζ p
|xD2=>xxS.refl _
|yo ζ=>(none,ζ)
|dO=>codes L
|xQ0=>h1.symm.trans e
|dN=>.ref ea
|PX=>xXM x c
|u9 ζ η=>Tg (aB ζ) η
|xK2 ζ=>ζ≤1900
|xD3=>xK2 r.length
|lE ζ=>Ep (af ζ)
|x8 ζ=>Fm ζ xs
|lD ζ=>ζ->Bool
|xzw ζ=>xK ζ Q E
|oK=>Nat×Nat
|xD4=>IU _
|xK3 ζ η=>tupleKind (xv3 ζ η)
|xK4=>fs.lookup f
|zZ=>ai hb
|xYb=>s.heap.FunFrames X.base
|u7=>PSs X
|iy=>PA X
|cX=>Sem Bool
|zY=>val B
|zX=>xeb Gd
|xK5 ζ η=>(As.flatten.length,ζ,η)
|bK ζ=>ζ<Rs.length
|xQ1=>SG.ord SG.kInt
|xzx=>C9.Good L
|xzy=>["piece"]
|xQ2=>plainId_quiet IL
|xD5=>.tbl #[]
|xQ3=>s₁.heap.get? b
|u6=>four n
|zo=>Aw Be
|zW=>Φ WV
|fZ=>RelV v u
|xb ζ η θ ι μ ν ξ=>Fx ζ (Dq η θ ι μ ν ξ)
|xZ ζ η=>by refine ζ;show Ff η
|u5 ζ η=>Tg (V7 ζ) η
|zj ζ η=>SB (blt ζ η)
|fV=>AH 1
|lB ζ=>zF (wK ζ) xsN
|zV ζ η θ=>xC0 ζ (λ η=>θ)
|fG=>h.2
|xzz=>.inl vf
|xD6=>pV P3
|iU=>Br 64
|bO=>AK b
|xzA ζ η=>min 66 (run ζ (L.drop η))
|bF ζ η θ ι μ=>xvB ζ Z7 η θ (xH ι μ)
|xYc=>items.toList.drop jq
|xQ4 ζ η=>attributeBase ζ η X.env
|E6=>s _ _
|yw ζ η=>E6 ζ (.inr η)
|X5 ζ=>(Hs.mp ζ)
|xQ5=>Om.k.trans hk
|xD7 ζ=>Rs.flatten++ζ
|yp ζ η=>BP.num (xJ8 xuA ζ η)
|AY ζ η=>by have:=ζ;exact η
|xQ6 ζ=>LN ζ isSubtype_stop
|x4l=>IsTup s.heap
|yn=>by simpa using h1
|i6=>z.1
|xYd=>s.heap.Ns X.env.locals
|xQ7 ζ=>X.env.scope.kind==ζ
|yg=>List M5
|xYe=>I.mod.glob.keeps I.bk
|Fv=>e::es
|xK6 ζ=>(ζ).stop i
|xYf ζ η=>Builtin.Slice.slicePlaces ζ η 1
|xQ8 ζ=>subscripted ζ false
|SV=>c.1
|xK7=>ok_needrow N
|xYg=>b.extract ib
|xQ9=>SM.Nu SG.ltI
|xY=>b.1
|yX=>V.ref q
|tZ=>Good L
|X4=>hP L
|xD8=>W13.Walk L
|fJ=>xd9 hu
|Vt ζ=>Fx ζ this
|xK8=>call yv
|bM ζ η θ ι μ=>By [_,_,_] ζ η θ ι μ
|xRa=>.int hi
|x6 ζ η=>Aq L ζ η
|x4m=>κ.blt (WU key)
|VR ζ=>x4m (xza ζ)
|fD=>tots pT
|zU=>Ps m
|et ζ η θ=>xKx ζ ⟨η,.inl (Υ θ)⟩
|rH ζ η=>⟨o,ζ,η⟩
|xzB=>.ref K'
|rG ζ η=>Tj ζ p C η
|iL ζ η=>by show LT (FY ζ) η
|xzC=>rem T Rs
|xD9 ζ=>dot c ζ c.length
|dw=>pcAt S p
|aY ζ=>two (jK ζ)
|tX=>L.length=272
|rF ζ η θ ι=>by have ζ:=η;show Wp θ ι
|Wo=>vg _ jb jb
|xRb ζ=>ha M6 ζ σ
|xRc ζ η θ ι=>Tj ζ p Ce (xys η θ ι)
|aP=>O6 P w
|SU ζ η θ=>⟨ζ,rfl,η,θ⟩
|xRd=>Vis X.env.scope
|xK9 ζ=>I1.kept (t':=ζ)
|xRe=>Option NameKind
|xYh=>s.heap.IsList p
|SS=>ExC K
|xRf=>Int.ofNat_le.1
|xLa ζ=>(ζ).symm.trans z
|xEa=>Rb.map vN
|xRg=>["_law_script"]
|SR=>ZC H2
|gO=>Ec ha
|qy ζ=>by show z8 t' ry ζ
|xV ζ η θ ι μ ν=>by show DG ζ η θ (F.F.ok ι μ);intro ν
|VQ ζ η=>aG (fC ζ η)
|oI ζ=>.inl ⟨rfl,_,Ng.of ζ⟩
|xLb ζ=>xDv ζ True.intro
|xU ζ η θ=>P9 ζ LE η θ
|Zw=>g2 _ _ ?_
|gN ζ η θ ι=>Np ζ η p d (cT θ ι)
|CS ζ η=>by unfold ζ;rw [η]
|xYi=>s.heap.FunFrames base
|xEb=>Iw _
|tW=>xEb Z9
|xEc=>B.take i
|xYj ζ=>IE (I:=ζ)
|fh=>xwA 0
|xEd=>C.map vN
|xLc ζ=>cn (Qs.take ζ)
|VP=>pv 8
|xLd ζ=>some (V.ref ζ)
|xLe=>Y8.take 7
|xRh ζ η=>SL (X.env.kindOf ζ) η
|xLf ζ η=>wpS_bind (xqV ζ η)
|VO=>.ref d
|xYk=>xs.toList.Pairwise E3
|oF=>b.2
|xzD=>WU key
|Wm ζ η=>VT ζ η rfl
|TY=>pN 2
|xLg=>pF "wide"
|x4n ζ η=>backToKw ζ (keywordEach η X.env)
|xLh=>pyNext jV
|xEe=>U6 3
|xRi ζ=>by show AR (wpAny_standAt ζ)
|du ζ η=>Cg ζ NY.nd η
|tV ζ η θ=>.a ζ (kn η θ)
|TX ζ η=>Ng K ζ η xs
|xzE ζ η θ=>xy7 (mroIn ζ η θ)
|tU ζ η θ ι μ ν=>∀(ζ:η) (θ:ι) (H':μ),ν
|tT ζ η θ=>CZ ζ (vJ η) θ
|tR=>xze x
|aH=>xw7 r H
|xRj ζ=>ζ=s.heap.objs.size
|Yy=>X.pn++M6
|xYl ζ=>{s with toks:=ζ}
|xRk=>.ref sl
|Yx ζ=>S.length-ζ
|aC ζ=>B.length-ζ
|a9 ζ=>B.length+ζ
|fE ζ=>ζ<b.size
|xLi ζ η θ=>by obtain⟨⟨old,ζ⟩,η⟩:=θ
|xLj=>["many_signs","signs_check"]
|xLk=>["_law_script","_law_k"]
|xzF ζ=>show ζ from r
|VN=>V7 cf
|xzG ζ=>xH ζ aj
|SQ ζ η θ ι=>∀ζ∈η,Qf θ ι
|xLl ζ=>(xuR ζ).length
|xYm ζ η θ ι μ=>jN {ζ with heap:=η,gens:=θ,drawn:=ι,toks:=μ}
|VJ ζ=>(ζ).count p
|SP=>W2 nx
|TP ζ=>gM SZ ζ
|x4o=>xnb X N scope cl fp
|Rl=>Bx Ty
|xYn ζ η=>P1 (P1 (xdZ ζ η))
|CR ζ=>by rw [ζ];simp
|xYo=>s.heap.IsListIter it
|xEf ζ η=>seqItems? ζ>>=η
|QW=>.str x
|xLm ζ η=>by simp only [List.lookup,ζ,η]
|SO=>[y]
|xEg=>qO H4 (ys++SO)
|xLn=>Decidable c
|xYp=>ys.toList.map (·.1)
|T2=>stAt L
|Wl=>cy ?_
|xLo=>Nu.mem O
|xLp=>Nu.trans ?_
|xYq ζ=>ζ++Eb.reverse
|x4p ζ=>h4.update ζ (Obj.mapSeq λ _=>out.map (·.2))
|xRl=>congrArg V.int
|QV=>row L
|xLq=>Pp.map th
|xzH=>["head"]
|xLr=>pb.parts tw
|Py=>nb F'
|xLs=>none_of s2'
|xLt=>mg "BadRow"
|xRm=>Sy.map V.ref
|Wk=>ZU MV
|eu=>xyi X
|T1=>y' P w K mg base Ni
|xzI=>h.get? a
|xRn ζ η θ=>by obtain⟨_,_,_,ζ⟩:=η;show pH θ
|qw=>gP V
|xEh=>CD 64 LE
|Ry=>B1 e
|Re ζ=>λ z=>ζ
|zS ζ=>Re (hb ζ)
|xEi=>L.drop p
|Rx=>xQt 192
|Wj=>Nu κ.blt WU
|x5 ζ η θ ι=>by show xyH ζ rfl η θ ι
|Oo=>WF (H' b)
|Wg=>jN s'
|xEj=>xwI X.prog X.w
|PL ζ η=>∃t,SL (mg ζ) (VU η)
|eN=>Ε b
|Wf=>mZ r k
|xYr=>Option oK
|xzJ ζ=>xqV (i:=ζ)
|WZ=>aH H'
|zR=>SC l nl
|xT=>st _ _
|xEk=>xdh κ a0
|qr=>sp vs H Q E
|Ed ζ=>by(rcases ζ with z|z)
|xEl ζ η θ ι=>PS ζ (.Assign η θ ι)
|xLu ζ=>.Attribute ζ f
|t8 ζ=>Inv ζ []
|xLv ζ=>autoParam ζ xdq
|xEm ζ=>(ζ).getD none
|xLw ζ=>E ζ none
|xzK ζ=>xLw (.ref ζ)
|dF ζ η θ=>by unfold ζ at η;split at θ
|xLx ζ=>a.extract ζ na
|xLy ζ=>b.extract ζ nb
|xRo=>sm.trans s3
|xEn=>Q.count q
|xEo=>["signs"]
|xEp ζ=>tryCatch ζ _
|xLz ζ=>by(rcases u with _|_|_|_|ζ)
|Rw=>mk bg
|xzL ζ η θ ι μ=>by(rw [ζ,η] at θ;injection ι with μ)
|Nv=>.ref l1
|NS=>.ref l3
|N6=>.ref l4
|Hq=>.ref l2
|xEq=>.lst xs
|xEr=>(dn).trans
|WY ζ=>by show o4 rfl ζ
|xS ζ=>b≤ζ
|Rv ζ η=>lH ζ (xS η)
|xEs=>xys wt true
|Ru ζ=>by show mx ζ rfl
|xzM ζ=>us.length=ζ
|rz ζ η=>by show LT (F8 ζ) η
|xEt ζ η θ ι μ ν=>cxOf ζ η θ ι μ base ν qual
|CL=>Bool->lI
|xEu ζ=>(ζ).length<1000
|xRp ζ η=>κ.negTrans ζ (xza η)
|Rt ζ η=>xxL ζ η cls
|x4q=>Calls.Name_function_global I.ok.kind
|xLA=>X.wish E
|xEv=>P.zip vs
|dS ζ η θ ι μ ν ξ=>by obtain⟨ζ,η,θ,ι,μ,ν,ξ⟩:=h
|xzN=>kf y
|xEw ζ η=>by dsimp only at ζ;subst η
|cb=>pv 7
|xYs=>Data.seq vs.toArray
|xLB ζ=>(FY ζ).trans
|xLC=>hT.same s1
|tQ=>xwJ a b
|xLD ζ η=>by obtain⟨_,_,ζ,GT'⟩:=η
|xRq=>.type "dict"
|xRr=>SL X.env.frame X.env.locals
|bZ=>xmz _
|mq=>vN 0
|xLE ζ=>aq (SC R2 ζ)
|Rr=>xLE g2
|SN ζ η θ ι μ=>by show EI ζ η (Ο θ) ι μ
|cS=>Ps i
|xRs=>pendingOf Pd
|tO=>xC4 0
|rn ζ=>.a ζ qS
|b8=>by show jy 2
|bW=>RA 8
|xLF=>b.drop s
|bL=>yA e
|xzO ζ η=>cF Nj (kk ζ η)
|xYt=>xyY its.toArray.size
|tN=>jv z
|vX=>xsR T Rs
|xYu ζ=>FM (xwK.mpr ζ)
|xzP ζ=>.a ζ Be
|SK ζ η=>by have:=ζ;rw [η] at this
|xRt ζ=>ha pos M6 ζ σ
|xEx=>s.toks+1
|oE ζ η=>∀p∈ζ,η
|bz=>x.d c
|xRu=>I.base.frzs b
|xEy ζ η=>W ζ m' η σ3
|xYv ζ=>cellsFrom ζ scope.names
|bj=>sIx n
|bE=>FE 14
|xEz ζ η=>xmp ζ (xdR η)
|rm ζ η θ ι μ ν ξ=>by have ζ:=η;obtain⟨θ,ι,μ,ν⟩:=ξ
|rk ζ=>x4i (base+ζ)
|bA=>FN hj
|xEA=>bb.2
|xRv=>pb.facts tw
|b9=>vN 66
|xRw=>["_law_bale"]
|xRx=>["_law_cell"]
|xRy ζ=>tb6.ne ζ (nofun)
|az=>Φ []
|ay=>Φ Fl
|me ζ=>ζ=S.length
|xRz=>Y.Pairwise E3
|mE=>ZC H1
|zQ ζ=>xsl X (compareOp ζ)
|xEB=>zQ .NotEq
|mD=>Φ ve
|o9 ζ=>kL g ζ
|lp=>fF es
|xEC ζ=>R.length≤ζ
|bD=>.m 64
|CI=>H p
|Rq ζ η θ=>by unfold ζ;show LT η θ
|xLG ζ=>(Ps ζ).toNat
|ll=>Vals OS ds
|xED ζ η=>x4c ζ η p T Rs
|Ze ζ η θ ι=>xED ζ η θ ι rest
|xO ζ=>(xyk ζ)
|lX=>kindOf sq0=oneType'
|mI ζ=>Fj (vN ζ)
|lW=>xyl X.K ps ds
|xLH ζ η=>(cpy ζ b η).length
|lV=>fF Fv
|xRA=>Dv "is_whole" xxC Jaa
|S9 ζ η θ ι μ ν=>by show Cf (Jf (xYj ζ η θ ι μ) ν)
|zP=>hb b
|xLI=>pure false
|DM=>[x]
|aX=>K.In h
|lU ζ η=>(none,ζ,η)
|xYw=>a.toList.take na
|xYx=>b.toList.take nb
|xYy=>SM.eqv SG.kInt.blt
|aO ζ η=>(ζ++η).Perm
|xRB ζ η=>Beg ζ (rest.take η)
|xYz=>S.drop W.length
|xLJ=>K25.C.xwC G
|xYA=>T.drop W.length
|aI=>two c
|x3=>H3 c
|xEE ζ=>ζ++Rs.flatten
|xzQ=>.str z
|xRC=>["_law_opener","_law_whole","_law_way"]
|xM=>TD C
|aE ζ η θ ι μ=>by obtain⟨ζ,η,θ,ι⟩:=id μ
|xzR=>AJ yr
|xzS=>A9 yr
|rj=>VU i
|wz=>xKe b
|rh ζ η=>vh h ζ η
|xzT=>Aw Eo
|wy=>VM 8
|wx=>EC d
|wu=>xC4 1
|xI ζ=>by show Z1 ζ g2
|xEF=>.n 256
|x4r ζ η θ=>tb {ζ with nx:=η,ct:=θ,bk:=D.nx}
|wq=>K25.Txt K mg
|zO=>p.2
|xLK=>List.replicate L.length V.non
|wo=>Eu e
|xzU=>kF π
|xzV=>kF Ν
|wm=>Eg T
|xzW=>vA On
|aA=>xX sq0
|Wb=>Cls X.K C
|ZZ ζ=>l≠ζ
|lT ζ=>Ct (ZU ζ)
|xor ζ η θ ι=>wY ζ η (Bt (Ng.of θ)) ι
|lS=>(tI).irr _
|lR=>Ε k
|xzX=>te σ H
|WN ζ η=>xuF (xvk ζ (xsE η))
|xzY=>qM hy
|xzZ=>lF Ψ
|zM=>jm i
|xYB=>relabel scope X.env
|xYC=>eE "signs_check"
|xz0=>O5 Os
|Zd=>x4o s H
|rf ζ η θ ι=>Am (xyn ζ η θ ι pos)
|wk=>dl _ _ _ _
|wj=>xdL _ _ _ _
|E5=>H b
|xLL ζ=>Value.str ζ t
|xRD=>frs X.stack
|xLM ζ=>⟨o.slots,ζ⟩
|xLN ζ=>(ζ).yld i
|x4s=>wpAny_newFunctionEnv_cells S.kind
|Tn ζ=>GQ ζ Z9
|xYD ζ=>RR ζ s3.heap.objs.size
|qb=>k l
|lP ζ=>ζ*S.length
|qo ζ=>ζ≤12
|x4t=>Builtin.Builtins.bindParams "min"
|xLO ζ=>ns.length≤ζ
|Zc=>SC p hp
|TZ=>vj h' t'
|xYE ζ=>Builtin.bitAnd (Ε ζ)
|Za=>qR h1 h1
|lQ=>pj "course" x []
|Qv ζ=>CD 64 ζ
|xEG ζ=>p8 (A9 ζ) 200
|xRE ζ η=>call_meets ζ (m7 η)
|ZY ζ=>Fx ζ jI
|Qu ζ=>ji (pW xmt ζ)
|xLP=>gK "text" "before"
|lM ζ η=>⟨ζ,rfl,η⟩
|qk ζ=>xzw ζ s
|lO ζ=>(ζ).get? b
|xLQ ζ η=>(QY ζ η).trans
|xz1=>.cell v
|xEH=>J.stop i
|xRF=>bindL kindOf
|xRG=>bindC kindOf
|xYF=>HT.sIx its.length
|xRH=>SeqAt.EqAt A
|xz2 ζ η θ ι μ ν ξ=>by obtain⟨ζ,η,θ,ι,μ,ν⟩:=I.lstM ξ
|yh=>H4 l
|xRI=>λ _=>True
|rI=>FY h2
|yf=>H2 c
|xLR ζ=>(Io.mp ζ).1
|xRJ ζ η=>xs.toList.drop (ζ+η)
|x4u=>a.extract ia
|xEI=>hB.sm.2
|xYG=>kla_fn "<lambda>"
|xz3=>sld R
|ye=>TD l
|yc=>Χ n
|xRK=>nL ys.length
|ZT=>Zh o
|xEJ=>Ng.of Su
|rA=>AH 32
|xLS=>.int c
|qz=>Φ pG
|Yz=>CD 8 LE
|xLT ζ=>SB (flatV ζ)
|xRL ζ η=>SB (hasDictIn ζ η)
|xEK ζ=>d8 ζ e.symm
|qx=>ko xs
|ya=>zC 1
|qq=>x36 items.size hi
|Qt ζ η=>by show yy (af ζ) η
|qa=>by show jy 1
|xz4 ζ η=>dig (xyG ζ η)
|Qr ζ η=>by show LT ζ (Hg η)
|xLU ζ η=>x4d A E s ζ η sq0
|ax ζ=>xLU ζ Q
|xz5=>vw X.N
|xEL ζ η=>(ζ).push (jF #[] η)
|yZ=>Cls K C
|Q3=>xQC n
|yW=>DO b
|qZ ζ=>b≠ζ
|wg=>qZ e
|xRM=>AK Pp.length
|qp ζ η=>(ζ).toList=η
|xEM ζ η θ=>gs "blocks" ζ η θ
|xEN ζ=>xs.length=ζ
|xRN=>xy0 xs.length
|qm=>xsh mg base
|SH=>j7 e
|uj ζ η θ=>by show ρ (ai ζ) η θ
|xYH=>(lcAt S q).1
|vW ζ η=>by simp at ζ;exact η
|Px=>ND K H
|lN ζ η θ=>xDV ζ η dV dc pm an θ ct
|zL ζ η θ ι=>by show Μ ζ η θ;exact ι
|yV=>TX H a
|xYI ζ=>s.heap.IsList ζ items
|xYJ ζ η=>{ζ with heap:=s3.heap.push η}
|xRO=>s4.trans s5
|xYK ζ=>wpAny_updateSeq ζ rfl
|iZ ζ η θ ι=>hC.keep (λ ζ η θ _=>ι)
|xRP=>pF "tail"
|xRQ ζ η=>SB ((ζ).contains η)
|zK=>NL.xdp _ _ rfl
|xz6 ζ η=>num ((b.drop ζ).take η)
|xEO ζ=>dot c ζ N
|iV ζ=>Pv ζ σ H
|iS ζ η=>SB (iq kf ζ η)
|xLV ζ=>E6 ζ (nofun)
|gy=>X4 Pp
|xRR ζ η=>(xwL ζ η).length_eq
|fP=>Q ()
|ui=>hf b hb
|x4v ζ=>wpAny_pyIter_range (IsRange.new ζ)
|eW=>pure x
|xz7 ζ=>F3 (FG ζ)
|xRS ζ=>F.run ζ X.stack
|x4w=>Around.frames_deeper e0.frames
|zJ=>y.1
|x4x=>codeAny_call_function hr.depth
|xYL ζ=>seqIndex_neg (KQ ζ)
|xLW=>numAt ys
|d4 ζ η=>FK ζ (Fz η)
|xRT ζ=>(S.map ζ).sum
|xRU=>Fz T5.symm
|xLX=>["lengths","place","ahead"]
|xRV=>["bale","place","many_signs"]
|zI=>vN 1
|cx=>xws r
|D8=>xdU _
|D3=>H0 c
|S8 ζ η θ ι μ ν=>by obtain⟨ζ,η⟩:=θ;have ι:μ:=ν
|Qb ζ η θ ι=>by obtain⟨ζ,η,θ,ι⟩:=h
|D1=>vN m
|xLY=>eE "rest"
|xLZ ζ η=>Nj.any (xF ζ η)
|cw ζ η=>Am ζ (xuX η)
|cg ζ η=>xvw ζ (Gq η)
|cU ζ η=>Au (pA ζ η)
|hJ ζ η θ ι=>by have ζ:=η;generalize θ=ι at*
|lL ζ=>CF P3 ζ
|lK=>Tv 8
|gq ζ η θ ι μ ν ξ ο=>by obtain⟨ζ,η,θ,ι,μ,ν⟩:=ξ;exact ο
|Qa ζ=>RE ζ On
|kx=>.m 8
|CE=>z.2
|bJ=>StateT SortSt Sem
|xEP=>xyl K ps
|aZ=>xX st'
|BU ζ η=>λ ζ η=>A3
|aQ=>λ _ _ q=>q
|xz8 ζ=>R.drop (ζ-ok)
|kz ζ η=>Fm (H' ζ) η
|xRW ζ=>putF "finished" (.bl ζ)
|ku ζ η=>(ζ++η).drop
|kj ζ=>ho M6 ζ σ
|xEQ=>xwI P w
|BS=>Se _ _
|xRX ζ η θ=>by obtain⟨_,_,_,ζ,_⟩:=η;exact θ
|xRY=>FK I.ok.bsz
|xYM ζ η θ=>by obtain⟨ζ,⟨η,_,_,θ,_⟩,_⟩:=I.loc
|kY=>by simpa using h
|gp=>h2.1
|gi=>FY h1
|x4y=>.type "method_descriptor"
|xL0 ζ=>σ3.length=ζ
|xL1=>ExI K
|xRZ=>Tx.map vN
|xL2 ζ=>none_of ζ n5
|gZ=>Gx hk
|x4z=>Nat.eq_zero_of_le_zero hB
|xER=>G8 hx
|xR0=>ak nq
|xES=>xqJ Z6
|x4A ζ=>by obtain⟨_,_,_,_,_,_,_,_,_,_,_,_,_,_,_,_,op⟩:=ζ
|xR1=>K25.C.Lns K
|xR2=>K25.Ck.xk6 K
|xYN ζ η=>SL (s₁.heap.get? ζ) η
|we=>[Bw,ω]
|gW=>AH 31
|xYO ζ η θ=>λ ζ η⟨vs,H2,I2,r,q2⟩=>Fh θ
|gR=>Φ yl
|ft=>Gq vf
|fg=>gP MV
|ao ζ η θ=>(pC ζ η θ)
|xET=>xvv Α
|ug ζ η θ=>by rw [ζ];show Wp η θ
|xR3=>(U2).reverse
|x4B=>Builtin.Tuple.tupleItemsOf wG
|fU=>WF (K.lookup Tb)
|xL3 ζ=>xQu "range" ζ
|xR4=>xh xs
|xR5=>.bl false
|QB ζ=>λ _ h=>ζ
|xEU=>rZ vI
|xEV=>Rn 63
|Q7 ζ=>Q (some ζ) sq0
|kS=>Eb++D0.reverse
|kG ζ η=>Gq (xy2 ζ η)
|xL4=>FK rV
|xEW=>wpS_lift (J8 DY)
|xEX=>Fz Sn
|ke ζ=>wQ b ζ
|xR6=>xK2 Z.length
|xz9 ζ=>.a (AJ ζ)
|jT ζ η=>aK (xH ζ η)
|xR7=>xS Z.length
|Q6=>ET (exO cls vs) e
|xR8=>.a P3
|xYP ζ=>xKc "range" (.fields ζ)
|xEY=>exO cls vs
|iD ζ η θ=>Binds K (lN ζ η θ)
|xEZ=>b∉X.fs
|eI=>b∉ch
|de=>xEP []
|xE0=>CF U0 64
|xE1=>CF xyI 64
|xE2=>xvt (Bx cm)
|xAa=>xyV hp
|x4C=>PySem.Within mA
|x4D=>X.s₀.heap.FunFrames X.base
|xYQ=>s.heap.IsCell c
|gz=>PT X
|Rz=>xde K a
|xR9=>Lc.mp nd
|xSa=>λ _=>true
|x4E=>Builtin.Slice.sliceAdjust lo
|xYR=>s.heap.update p
|xYS=>Fz hlen.symm
|xAb ζ η=>xdd ζ η scope
|x4F=>wpAny_comprehension_free rfl
|xYT=>ms.map V.int
|x4G=>X.stack.filterMap (·.frame)
|Rd=>c.2
|xSb=>B.drop n
|dJ=>fR d t
|xSc ζ η=>(runP ζ η).length
|xL5=>by simp;assumption
|xYU ζ η=>(SM.xwL ζ η).length_eq
|xYV=>hp.subset hb
|RZ=>H2 l
|xSd=>u.drop t
|d7=>nb A
|x4H=>List.getElem?_eq_some_iff.1
|xYW=>mg "PressError"
|xL6=>xeu hu0
|RW=>Χ b
|gv=>A4 h
|gu ζ η θ ι μ ν ξ ο=>NL.J' (B7 ζ η θ ι μ ν ξ ο)
|RV=>RelV y u
|xYX=>pF "lengths"
|RU=>EC b
|xAc=>jR q
|xAd=>U6 0
|xL7=>Ng.of hl
|ZX ζ=>by show ij g ζ g
|xSe=>B.take n
|xAe=>wJ a
|RT=>A1 p
|gG=>xC9 p4
|ka=>xDb 1
|xAf=>RA 2
|ir=>CJ h
|xAg=>hidT s₁.heap H
|xSf ζ η θ ι μ=>Me ζ η θ "BitReader.take" ι μ f fd
|RS=>xyL k
|xSg=>N.map xKC
|RQ=>Rows K mg
|xE3 ζ η θ ι μ=>aB (xms Gn ζ η θ ι (Bx μ))
|xSh=>xzc Yg.symm
|kW ζ η=>(ζ-η).toNat
|RO=>ix K yv
|xSi ζ η=>xvw ζ (wpS_bind η)
|RN=>g x σ H
|xSj=>xzF False
|RM=>xqc K mg Cp
|RK=>aP H h
|uf=>Ε m
|xAh ζ η=>xQE ζ p co ck η wt
|xAi=>xC6 (xQp n)
|YZ=>yq b m
|xYY ζ η=>xv0 ζ η false false
|iO=>xAe o
|RJ=>xdT _ _ _
|RI=>xxY H x W
|RH=>xdW _ _ _ _
|xE4=>E.sum c
|xAj ζ=>o.data=ζ
|xSk ζ=>assign ζ X.env
|xE5=>J.yld i
|cq=>W i m ys σ' H'
|xSl ζ=>ζ≠.free
|x4I=>wpAny_sequenceKey ht.typeIs
|x4J ζ η=>(List.replicate ζ η).flatten.toArray
|xYZ ζ=>d.params.defaults=ζ
|xL8 ζ=>{X with H₀:=ζ}
|xE6 ζ η=>cutV ζ η none
|xE7 ζ η=>out.push ζ[η]
|xAk ζ=>ζ≤xs.size
|xE8=>G9 hx
|xAl ζ=>xs.toList=ζ
|xE9 ζ=>u.length-ζ
|xSm=>spCInit C
|xFa=>sld X
|xY0 ζ=>Rs.flatten.length≤ζ
|xSn ζ=>(ζ).nameGoes hN
|xFb=>Rf.xsg K
|xSo ζ=>pj "waiting" ζ
|xY1 ζ η θ=>λ ζ η⟨vs,H1,I1,r,q⟩=>Fh θ
|YY ζ η θ ι μ ν ξ=>Z3 ζ η θ ι μ 1000 ν ξ
|Fu ζ=>ζ->Fj .non
|ue ζ η θ=>EE ζ η rfl θ
|YX ζ=>(ζ:Nat)
|vV ζ η θ ι=>⟨ζ,λ η θ=>ι⟩
|xFc ζ=>zD ζ 64
|BQ=>λ z=>nomatch z
|xAm ζ η θ ι=>EK ζ η (some θ) ι
|fz ζ η θ ι μ=>by show xuI ζ η θ;rw [ι] at μ
|xSp ζ=>CJ ζ.2
|iK ζ=>CJ (xSp ζ)
|xFd=>yJ ".0"
|xFe ζ=>(ζ).count q
|x4K=>xKH "object.__setattr__"
|kU ζ=>qO H ζ
|xFf ζ η θ ι=>gs "course" ζ (Y9 η θ) ι
|cj ζ=>by show o4 t ζ;rfl
|uc ζ=>Bp ζ co
|xFg ζ=>PSs ζ body
|cY ζ η θ ι=>bM ζ η θ ι this
|x4L ζ=>["signs","back","size",ζ]
|xL9=>x4L "end"
|ua ζ=>xyl K ζ []
|xFh ζ=>RB C ζ r d b
|BO ζ η θ ι=>⟨ζ,H,η,θ,ι⟩
|bp ζ η θ ι=>BO (.int ζ) η θ ι
|vU ζ=>by show LT e ζ
|xSq=>.fields us
|xSr=>I.stkSub b
|xY2=>Array GenState
|fu=>HE _
|xAn=>Sem MW
|xSs=>.Compare a
|xAo=>Q true
|xSt=>Iz hl.symm
|x4M=>wpAny_pyNext_range_item st
|xMa=>T.keep _
|xSu=>plainGet K
|x4N=>Str.ofString "__getitem__"
|xY3=>seqIndex_of h0
|xY4=>sliceBounds lo
|x4O=>unbindBehindTheSuite X.env
|xSv=>IntsAre kv
|xAp=>FM z
|Ve=>aF z
|xAq=>Hx t1
|xMb=>X.drop x
|Vd=>no _
|xAr=>[.non]
|xSw=>["things"]
|xY5=>.type "module"
|xMc=>BP.val A
|xSx=>spLeft C
|fk ζ η=>V.int (ζ%η)
|xY6=>tb4.same s5
|uZ=>TD d
|Vc=>Χ s
|xAs=>some x
|sF=>ae hp
|xAt=>Zf 125
|sD=>AH 33
|Vb=>vN c
|uX ζ η θ ι=>∀ζ∈η,E3 θ ι
|xY7=>Y'.Pairwise E3
|xMd=>eE "way"
|xFi ζ η=>Ρ (blt ζ η)
|UZ=>pL 0
|sC=>xKh Pd
|xMe=>(jD).size
|xY8=>pF "reader"
|UW=>EC r
|rY=>EC ck
|qe ζ η θ ι μ ν=>Bu ζ η θ LE ι μ ν
|uV ζ η θ ι=>by show ie ζ η θ;cases ι
|xY9=>Dv "are_whole"
|UU=>A1 c
|rW=>aG fs
|xMf=>L.take p
|bf=>(lcAt S p).2
|rU ζ η=>by subst ζ;show BB η
|xMg=>Ge.mp hb
|xSy ζ η θ=>gs "many_signs" ζ η θ
|UT=>xv7 0
|rP=>xDs H'
|xZa=>.builtin id
|iI=>cF Nj k
|xSz=>codeAny xyX
|wc=>Pv (i+1)
|xZb=>s2.trans xQG
|xZc=>Fz hsz.symm
|vT ζ=>xea T.isi (Z.m ζ _ _ rfl rfl)
|xAu ζ η=>fO ζ η ck g
|xZd=>O6 X.prog X.w
|xMh=>(dw).size
|xAv ζ η=>by rw [ζ];show AR η
|xAw=>xS 255
|rO=>yx κ V
|xSA=>he M6 s σ
|ag ζ η θ ι μ=>yF (xSA ζ η θ ι) μ
|Tf ζ η θ ι μ=>⟨ζ,η,θ,rfl,ι,μ⟩
|rN=>xRA fW QS
|rM=>KV Nj vs
|xSB=>HF _ _
|aJ=>xSB M8
|iG=>xqz K H
|US=>QR _ _
|xAx=>s9 _ _
|UR=>k3 _ _
|uU=>g i j
|x4P=>wpAny_pyIter_rangeiter st
|x4Q=>es.toList.any (·.refKey)
|UQ ζ η θ=>by rw [ζ] at η⊢;exact θ
|xFj=>noA b
|x4R=>lim.keeps x.toInCall.keep
|xSC=>.type T
|x4S=>numsOf its.toArray.toList
|xSD=>.inl hl
|xSE ζ=>its.toArray[ζ]
|x4T=>Builtin.Range.rangeSize i
|xMi ζ=>ζ<ns.length
|xFk ζ=>ζ*B.length
|x4U ζ=>(Nat.mul_lt_mul_right ζ).mpr
|xAy ζ η=>xd3 ζ (xd4 η)
|iF=>FM Z5
|Ft ζ=>∀H',ζ
|xSF ζ η θ=>some (HO.ins ζ η θ)
|xFl ζ=>S.length=ζ
|qd ζ=>out++ζ
|xSG=>Y.drop k2
|x4V=>List.length_eq_one_iff.1
|x4W ζ=>(As.flatten.length,ζ)
|x4X=>Nat.le_min_of_le_of_le m2
|xSH ζ=>kf (φ ζ)
|xFm ζ=>Xc (T3 ζ)
|x4Y=>Builtin.Range.rangeSize 1
|i'=>FL OL
|xFn=>["first","inside"]
|xSI=>["row","many_signs"]
|xZe ζ=>pj "whole_bytes" ζ
|uT ζ=>wQ a ζ
|a6 ζ=>∀x∈scope.names,ζ
|xSJ ζ η=>Δ "need_row" ζ η
|UO ζ=>by exact(ζ).elim
|UN=>by show sH hb hb
|gn ζ η=>(lc S p ζ η).2
|UM=>gn Ea j
|UK ζ=>by show LT FW ζ
|xSK=>Ge.mp z
|xAz ζ η=>.a ζ (pO η)
|gk ζ η θ=>xsL bd ζ (xxE η) (xxE θ)
|xFo ζ=>DX (rZ ζ)
|xSL=>xQF none
|rJ ζ η θ ι=>Wt (bP ζ) η θ (af ι)
|xAA=>by show DE (eK g1 A3)
|rE ζ η θ=>by refine ζ;show Η η θ
|xFp=>Ps xY
|xMj ζ=>xEj ζ s.heap
|xMk=>["signs","size","end"]
|xZf ζ=>(xYP ζ).objs.size
|xFq=>.Name y py
|BA ζ=>λ b hb=>ζ
|xFr=>At c
|xZg=>IF hit.typeIs
|x4Z=>args_listiter_next _
|xFs=>by simpa using hu
|xZh=>Data.fields _
|rD=>hb _
|xSM ζ=>F.run ζ outer
|xSN ζ=>ζ==items.size
|xZi=>Int.not_lt.1
|xMl=>sub e
|xZj=>I.base.frzs c
|xMm ζ=>(Io.mp ζ).2
|xZk=>Nat.lt_min.2
|xFt ζ η θ=>by have ζ:η:=θ;dsimp-zeta only
|x40 ζ=>PyProof.Rows.callWith_kw (e:=ζ)
|xFu ζ=>by simp [pairs] at ζ
|xAB=>xwA 1
|xZl=>VX.trans s4
|xZm=>Nat.le_min.2
|xMn=>u1 hr
|xMo ζ η=>tots (cP ζ η)
|xMp=>FY hb
|xZn=>qs.map V.ref
|xSO=>Z.drop e
|xFv=>.v 6
|xMq=>Ε 272
|kT=>Ε 8
|xMr=>f9 aj
|xSP=>y' P w K mg base
|xMs=>ER 16
|uS=>Bt e
|xAC=>Tq n
|xMt=>Bx Α
|xFw=>.n 2
|xMu=>A9 qS
|xFx ζ=>Ps (A4 ζ)
|YW=>zH j
|xMv=>DX Os
|xZo=>pF "signs"
|xZp=>pF "block"
|xZq=>pF "other"
|kJ=>xyq i
|xFy=>D7 2
|xFz=>D7 0
|kD ζ=>by show Μ ζ e e
|xMw=>.inl (Υ rfl)
|xZr ζ=>WF (fs.lookup ζ)
|uN ζ η=>by show z8 rfl ζ η
|kB=>WJ 8
|xMx=>w6 Os
|xMy=>EB Gl
|xMz=>Hf a8
|xFA ζ η=>L.take (ζ+η)
|rC=>num (b.take 3)
|xMA=>RA 64
|YV ζ=>kK ζ.2
|YB ζ=>κ.blt (xKt xs ζ)
|xAD=>os i
|xFB ζ η=>.bl (vB ζ η)
|xMB=>AJ xyI
|xMC=>Aw ml
|Xy=>xQA T
|gj=>ES e
|xFC=>Rn 8
|kA=>Am a ta
|xMD=>QJ qH
|UJ ζ η θ=>Qc _ rfl ζ _ η θ
|xME=>AJ vp
|xMF=>x4h OO
|xMG=>xC6 (.seq vs.toArray)
|xSQ=>gK "number" "size"
|xAE ζ η=>BindsTo ζ fd (WD η)
|gc ζ η θ=>QD (E1 ζ η θ)
|BN ζ η θ ι=>bw ζ η θ ι NA
|xFD=>Fz e
|xMH=>(xuA).drop t
|xMI=>qM hx
|ic=>PF j
|xFE ζ η θ=>(zV ζ η θ).sum
|xAF=>(lcAt S p).1
|uL ζ η θ ι μ ν=>BC ζ (bM η θ ι μ ν)
|xMJ=>x37 xs.length hi
|xMK=>xEb xD4
|xML=>["signs","place","back","most"]
|yT ζ η=>∀x∈ζ,η
|xMM=>xEh Os
|xFF ζ=>Mk (Re ζ)
|xFG=>MH κ a b out
|jw=>PS X
|xFH ζ=>yI On On ζ
|xMN=>xzP Θ
|xMO=>xYl xEx
|fX=>rk i
|fQ ζ η θ=>Zh (xQw ζ η θ [] pos)
|fK ζ η θ=>Am (xQw ζ η θ [] pos)
|yQ=>by exact .nil
|xFI ζ=>aV (Υ ζ)
|mh=>TW T W
|rB ζ η θ ι=>xsH (D:=ζ) (K:=η) (a:=θ) (xs:=ι)
|xMP=>fu hp
|xAG ζ η=>aT EH (rh ζ η)
|xFJ ζ=>g1 _ _ (Υ ζ)
|oz ζ η θ ι=>BC ζ (BX Os η Os θ ι)
|mf=>Q8 _ _
|xSR=>xd8 _ _
|oy=>xSR Z8 Z8
|xAH=>cM κ a b
|om ζ η θ ι=>xRc (E4 H l1 ζ) η θ ι
|mW=>x4d A E s
|wa ζ=>ζ≤n
|xSS=>.Tuple es
|fH=>hf it Z6
|eV=>hc.1
|xST=>IsPart vl
|xSU=>IsPart vu
|xSV=>.Try body
|eJ=>dig n
|eF=>PU.1
|xZs ζ=>ζ<xs.toList.length
|xZt ζ=>seqEpoch_at ζ rfl
|x41 ζ=>(List.nodup_append.mp ζ).1
|xAI=>Ite K a
|dz=>C' H2
|x42=>List.Sublist.count_le _
|dv=>Hu hx
|xSW=>["block"]
|x43=>Nat.ToInt.mod_congr rfl
|xAJ=>["bale","end"]
|xSX=>ND.of ht6
|x44 ζ=>(Rs.drop ζ).flatten.length
|xSY=>K25.Cds K
|xSZ=>K25.Shw K
|xS0=>Option Tl
|Oj ζ η=>by show Cf (xqV ζ η)
|xS1=>xC1 "bale"
|uK ζ=>Tr a ζ
|yP ζ η θ ι μ=>by show De ζ η θ ⟨ι,μ⟩
|OT=>xC3 64
|xFK=>Ec hw
|mV ζ η θ=>SL (kitOne K ζ η) θ
|OP ζ η=>mV ζ η true
|xS2=>Option j6
|xFL=>E8 PP
|xMQ ζ=>holding [ζ]
|xMR=>WJ 64
|OJ=>h.Ns mainGlobals mg
|OI=>putF "blocks" pL []
|xZu ζ η=>{cls:=ζ,data:=.fields η}
|xS3=>(E7).toNat
|xFM=>.bl b
|OH=>It->lI
|xS4=>.ref zy
|O8 ζ η θ=>E1 ζ (te σ3 H5 η) θ
|O7=>Vals xs its
|xS5 ζ=>zf ζ (nofun)
|xMS=>aM Z9
|xFN=>Ep xzp
|Nz=>lD κ
|Nd=>WF SV
|NZ=>FY F7
|NN=>cT ps
|xZv=>Ry n1 n2
|xS6 ζ η θ=>xzJ ζ η (wpS_bind θ)
|xS7=>I.kept (t':=s.toks)
|DK=>by simp at h
|NG ζ=>⟨M9,iter,ζ,0⟩
|N9=>tt σ3 H3
|CH=>Lt blt kf
|CC=>FA hi (xQq M8)
|xFO=>FZ SA hn
|xMT ζ η θ=>xsO (v:=ζ) η θ rfl
|xAK ζ η θ=>xMT (.ref ζ) η θ
|CB=>k b ob
|wW=>eu σ' H' s'
|xS8=>xvu xmv Z7 X.list
|Af ζ=>by rw [ζ];rfl
|Dr ζ η θ ι=>by have:ζ=η:=θ;subst this;exact ι
|xZw=>sb1.extBut a
|xZx=>sb1.extBut b
|xFP=>keep b
|xZy=>env.kindOf x
|xFQ=>J.go i
|xMU ζ=>X.A.units+ζ<cLine
|xFR ζ=>xDZ ζ<cLine
|x45=>.ref s1.heap.objs.size
|xZz=>r.append hd
|xZA=>List Keyword
|xZB=>Iz hlen.symm
|xZC=>PySem.call f
|x46=>h'.Ns s.heap.objs.size
|xZD=>intKind_is _
|oj=>hn _
|xMV=>n.pin p
|xS9 ζ=>N2.toArray[ζ]
|xMW=>.dK []
|xZE=>Fz h.symm
|xMX=>this.1
|xTa ζ=>("rest_size",ζ)
|xMY=>[.none]
|xTb=>dbl of
|xTc=>X.take k
|xZF=>SM.Nu.refl _
|xZG=>ks.map kV
|xZH=>s0.trans s01
|xFS=>pin Z6
|iY=>hb x
|xFT ζ=>(ζ,.cell)
|xTd ζ=>(GU ζ).symm
|xZI=>A2.map vN
|xFU=>vN 256
|xZJ=>Y8.map vN
|xZK=>K25.Ck.Hds K
|yO ζ η=>Aq ζ j η
|xFV=>Zf 129
|xAL=>jP s
|xZL=>methodObj yv
|uJ=>xKd A
|xTe ζ η=>RL.filter (λ ζ=>η)
|uI=>Ps p
|xAM=>aT (o6 h)
|xMZ ζ=>xAM (λ _=>ζ)
|xFW=>(j8).In
|xFX=>xuA t
|xM0=>DT 272 hm tm
|xM1=>DT 12 hm tm
|xAN ζ η=>ky ζ none η
|xZM=>WF A.handled
|BM=>H x
|xZN=>xKo Nj.length
|xTf=>xyv rfl
|uH=>wC R
|xZO ζ=>pyNext (.ref ζ)
|xM2=>.inl cN
|iX=>kf i
|xM3=>qM hb
|xFY=>xKB key
|xAO=>.Name "_law_e" p3
|xM4=>Ο xDm
|xM5=>jF #[] e1
|uG=>wL R
|xTg ζ η=>W6 ζ xs.toList η
|sf ζ=>by show RG (Gl<ζ)
|xAP=>qO H []
|xFZ ζ η θ=>by obtain⟨_,ζ⟩:=FR.mp η;simpa using θ
|xAQ ζ η=>show qD ζ from η
|xZP=>xzc hmb.symm
|ra=>xQH v
|xM6=>xv true
|xF0=>Gz _ 1
|yN ζ η=>pI ζ η s
|uF=>RelV x v
|ql ζ η θ=>⟨rfl,ζ,η,θ⟩
|xZQ=>eE "things"
|xF1=>ND X.K H
|uE=>T1 1
|mQ ζ=>by show LT FD ζ
|uD=>zf Dm e
|uC=>iy Fv t
|uB=>ZZ d
|iW ζ η θ ι μ=>xsI MI ζ η θ ι μ .nil
|oh ζ η θ ι=>∃f fd,Me K ζ η θ ι Jab f fd
|xM7=>b∉X.ex
|xF2=>xvE X M6 D
|xTh=>xJ8 xuA t
|pY=>xTh s
|uA=>CodeHd base c Tb
|xF3=>ua Jab
|vd=>xFh H
|uz=>MA κ a b out ia ib
|xZR=>its.toArray.size*k.toNat
|xF4=>A σ' H'
|xF5=>B σ' H'
|xM8=>en T Rs
|xTi ζ η=>yT ζ (W13.xqZ η)
|uy ζ η=>(AI u ζ η)
|xM9=>xC0 272 ln
|xNa=>t {nx:=λ _ H'=>Fj .non,rt:=Q}
|xF6=>xRt s H _ I h
|xZS ζ=>wpAny_of_eq ζ ?_
|xNb=>X.env::X.outer
|xTj ζ=>Q (.bool ζ)
|xTk=>mA name
|xAR ζ=>min ζ n
|xZT=>xAR v.toNat
|xZU ζ η θ=>operate ζ (getItem η θ)
|xTl=>by exact Nat.one_pos
|xAS ζ=>b.size-ζ
|xAT=>a.size+b.size
|x47=>Nat.add_sub_cancel ..
|xTm ζ=>{s' with heap:=ζ}
|xTn=>pairs r
|x48=>(Z'.map (·.2)).Perm
|x49=>hZ.symm.subset hz
|xNc ζ=>ζ<C.length
|x5a ζ=>IW.mp (hLp.symm.subset ζ)
|x5b=>Int.ofNat_add_ofNat _
|og ζ=>xvO ζ xs
|xNd ζ=>xd1 (ns:=ζ)
|xZV ζ=>X.A.mark (TD ζ)
|xTo ζ=>pj "group" ζ
|oa ζ=>pW xmw ζ
|xNe ζ=>xnc PP ζ rfl
|xNf=>xNe Α
|iQ=>by show pH hq
|oZ ζ=>xsl X (binaryOp ζ)
|xNg ζ=>kq ζ rfl
|xTp ζ=>S.length≤ζ
|xNh ζ η θ=>by show xyo ζ η hz (I.list θ)
|iA=>by show Cf (wpS_get ?_)
|oY ζ=>xDd ζ t2
|xNi ζ=>bo ζ T0.cl
|UI ζ=>SL ζ u
|xTq ζ=>AK (ζ).length
|i9 ζ=>Ps (p+ζ)
|ZW ζ η θ ι μ=>Fb _ rfl ζ η θ ι μ
|oX ζ η=>bitsP ζ++η
|xF7=>(xyx).drop t
|xF8=>B.take (EV-2)
|xTr ζ=>F'.drop (64*ζ)
|xF9=>xTr Py
|xTs ζ=>Re (r.hd ζ)
|UH ζ=>Nk C ζ r d R
|O2 ζ=>ζ≤j
|pU ζ η θ ι=>by obtain⟨ζ,η,θ,rfl⟩:=ι
|UG ζ η θ=>By AV ζ LE η LE θ
|pS=>xO (RE Cy LE)
|i8=>by show AX xX3 F7
|oV=>A'++T
|pJ=>A'++M
|xGa ζ η=>xL4 (FK ζ η)
|mO ζ η θ ι μ=>aN ζ η θ rfl rfl ι rfl μ
|i7=>by show o4 t rx
|xNj ζ=>xso K ζ f
|xQ ζ=>aF ζ hp
|mK=>xAu b m
|xGb=>g1 _ _ (Ep rfl)
|xAU=>Y++tail'
|hV=>by show kD en
|ux ζ=>ζ≤2000
|xE ζ=>(ζ:An).Nodup
|BL ζ η θ=>oh C ζ η θ
|xTt ζ=>xdQ ζ hg hm
|xAV ζ=>xRb s H ζ I h
|xNk ζ=>AJ (AJ ζ)
|DI ζ η=>by subst ζ;exact η
|Fs ζ=>by show DI e ζ
|xAW=>y.d c
|xAX=>x.p j
|xZW=>Value.ref e
|xZX=>sb.extBut b
|xZY ζ=>xmn (hq.keep ζ)
|xZZ=>I.ok.noex b
|sW=>[a]
|xAY=>Kd hp
|xTu ζ η=>λ _ _ _ _ _ st ζ=>η
|xZ0=>Data.cell v
|xTv=>.inl e
|xTw=>xes I.hok
|xZ1=>frs outer
|x5c=>args_tuple_getitem _
|xAZ=>SlR X
|xTx=>max 0
|x5d=>SeqAt.EqAt.str_str a
|x5e=>ns.map WData.int
|xA0=>C' H1
|xZ2=>tz N.length
|xA1=>.cp b
|xA2=>val R
|xNl ζ=>Hh (Gi ζ)
|xZ3 ζ=>(P.map ζ).sum
|xTy=>rlF n
|xA3=>FY xpc
|Dk=>H' p
|xA4=>IH Z9
|xZ4=>hx.same s1
|xNm ζ=>JG (IZ ζ)
|Dj=>a.1
|xTz=>IK.mp hb
|x5f=>wpAny_pyIter_enum he
|xZ5 ζ=>(R.map ζ).map
|Di=>H6 c
|xZ6=>u.take k
|xZ7=>u.drop k
|xTA=>xom I.hok
|xTB=>xpk I.hok
|xTC=>hB.sm.1
|xZ8=>T.take i
|xZ9=>fI.at nI
|x0a=>ff.at nf
|x0b=>ok_cinit FI
|xA5=>RnR R
|x5g=>S'.drop W.length
|x0c=>K25.C.Mk2 K
|xA6=>dig 0
|xA7=>xd5 hb
|xA8=>blk F i
|xTD=>["text"]
|xTE=>["bale"]
|x0d=>C'.refl _
|x0e=>s5.trans s6
|x0f=>spWhole K
|x0g=>spIsRow K
|xTF=>K25.xqb K
|x0h=>K25.Ck.xwO K
|x0i=>K25.Ck.xqa K
|xA9=>.w Os
|Dh=>Χ p
|xA=>vN i
|xBa=>xJ7 2
|xTG=>Ng.of hS
|x0j=>le_of_lt tI
|xBb=>xG s'
|x5h=>b.toList.Pairwise E3
|x5i=>a.toList.Pairwise E3
|mJ ζ η θ=>lJ ζ NA η θ
|vS ζ η=>by cases ζ;cases η
|Dg=>ED 3
|pE ζ η=>vg ζ η rfl
|oC ζ η=>vg rfl ζ η
|x0k=>zH X.length
|Df=>RelV x u
|xBc=>EC co
|BK ζ η=>τ ζ η q
|mH ζ η θ=>BX ζ Os η Ψ θ
|Dd ζ=>by obtain⟨_,_,FI,bI,MI⟩:=ζ
|xBd=>ko vs
|sV=>H l
|xTH=>xyw b ck1 g1
|xBe=>xyy Pp
|x0l=>kM B.length
|Dc=>kc q
|xBf=>aG []
|xGc=>Zh e
|DV=>FE 8
|x5j=>vz s1.heap.objs.size
|xBg=>xXX Pp
|Xz=>Qz q
|xBh=>.a Ψ
|DS=>m7 _
|xTI=>W13.Of a
|DP=>DO l
|DL=>DO e
|xBi ζ η θ=>xsL bd ζ η (xxE θ)
|DF=>xKD H
|xNn=>I.freeC x c
|xGd=>xNn e
|xTJ=>nomatch e
|xNo=>NE->lI
|xNp ζ=>FK (Gi ζ)
|xBj=>te σ3 H3
|xNq=>I.cell x c
|xGe=>xNq e
|xBk=>r.length+3
|xNr ζ η=>Zg (ζ).toNat η
|x0m=>Ε W.length
|xTK ζ=>.inr (Ex ζ)
|xNs=>tx hp
|xGf ζ=>⟨#[],ζ⟩
|x0n=>x4k Prod.fst
|xBl=>xQK SZ
|xTL=>xv false
|xBm=>AK xr
|xGg=>x≠"__name__"
|xBn=>xsG Z7 X.range
|DB=>xxd X M6 σ Q
|xNt=>gH a8 I.ok.above
|x0o=>eE "held"
|xBo ζ η=>ζ+(η).length
|XB ζ η=>.inl (Ax ζ (Rf.xdn η rfl))
|x0p=>xEs false
|x4 ζ η θ ι μ ν=>xEt ζ η θ ι μ ν scope
|xBp=>xX5 H'
|DA=>xX5 H
|xTM=>SM.eqv SG.ltI SG.xpA
|xNu=>cpy B b
|xGh ζ η=>A9 (VM ζ η)
|Cj=>iV i
|xGi=>a.size-1
|xBq=>xR4 ys
|Cb=>Ts b u
|xBr=>ap xx6 aj
|xNv=>(pz).take i
|xBs=>xAx e
|xBt=>Ft (Fu Ι)
|CG=>x6 q s
|xGj ζ η θ=>xSP (CXE ζ η) θ f fd
|mF ζ η θ=>Dq AV ζ LE η LE θ
|x0q=>["_law_j","_law_number"]
|xGk ζ η=>Cg ζ xxa.nd (pd PP η)
|xNw=>Es 8 hlen
|C6=>OX u W T ps
|xTN=>xTx total
|C5=>sT _ _
|Bk=>Sv _ _
|xGl=>fr _ _
|BZ=>SE _ _
|xNx=>xyw b c g1
|xGm=>QV j p
|xGn=>xNu n
|x5k=>a.toList.drop xGi
|xBu=>xFG na nb
|BY=>xEQ H h a
|EN ζ η θ ι μ ν=>(FA (vQ ζ η θ) (vQ ι μ ν))
|x0r ζ=>Value.float ζ t
|xGo=>by simpa using e
|x0s ζ=>h.objs.size≤ζ
|x0t ζ=>wpAny_Name ζ hd
|xGp ζ η θ ι=>thn ζ (λ _ η θ=>ι)
|x0u ζ=>ζ<recursionLimit
|x0v ζ=>I1.laid (t':=ζ)
|aw ζ=>h ζ Gb
|XA ζ η=>ζ≠some η
|x5l ζ=>typeLookup ζ "__getitem__"
|x5m=>pre_splitW hpre
|x5n=>if_false_right.mp h
|xGq ζ=>R.length=ζ
|wV ζ=>ζ+b.toNat
|xTO=>Hi N8
|xTP=>xd0 hn
|x5o=>Nat.not_le_of_lt M8
|x5p=>Int.lt_irrefl a
|xTQ=>L5 ?_
|x5q=>SortSt.mk' oneType'
|xTR=>xoo ry
|xTS=>Ld hu
|xNy=>["reader","codes"]
|x5r=>X.mg "__builtins__"
|x0w ζ=>ζ≠mainGlobals
|x5s ζ=>.ExceptHandler (some ζ)
|x5t=>(l.map (·.1)).zip
|x5u=>Ε its.toArray.size
|xGr=>vN ah
|aU ζ=>SL ζ v
|xTT=>Bt NB
|xBv ζ η θ=>aK (WS ζ η θ)
|xTU=>xuX pL
|xTV=>AJ Eo
|xTW=>D7 13
|xTX=>D7 14
|xTY=>.n 12
|x0x ζ η=>(ζ).app (Nu.refl η)
|x5v=>A1 s.heap.objs.size
|xBw ζ η θ=>ac ζ (sQ η θ)
|xTZ=>xC8 Ty
|x5w=>xXS s.heap.objs.size
|BJ ζ η θ ι=>Tz AV ζ η AV θ ι
|xNz ζ=>xgX (x39 ζ)
|xGs ζ=>aF e ζ (nofun)
|xBx=>xGs QZ
|xNA ζ=>by obtain⟨ζ,H1,I1,r1,q1⟩:=z9
|aL ζ η=>by refine ζ;show xNA η
|xT0 ζ η=>Aj "number" ζ η
|WH ζ η θ ι=>xXT ζ η (Vg θ ι)
|xT1=>S.xv4 D9
|xT2=>xyB false fx
|xNB ζ=>xG (vk ζ)
|BW ζ η=>autoParam (∀ζ,η) xdI
|Fq ζ=>∃m',ζ
|x0y ζ=>xQv ζ out.toList
|x5x=>xyJ its.toArray.size
|xT3=>kF SZ
|xT4=>WD CV
|xT5=>CN xJ
|Zv ζ=>Q (.int ζ) H
|uw=>jL (NE->p7)
|xT6=>rZ Be
|xT7=>QJ Cv
|xGt=>by simpa using z
|xT8=>zk Ty
|xT9=>zk Ν
|xUa=>xQF wA
|x5y=>(xDI).toList.Pairwise
|xUb ζ η=>xX4 ζ η pos.line
|xUc=>Fz hl
|xBy ζ η θ=>Tg (xDQ ζ η) θ
|xNC ζ=>Am (xQP ζ)
|xUd=>Ww C8
|xUe=>Wu hi
|xUf=>x4j (xQo #[])
|xND ζ η=>by show Bg ζ (Ng.of η)
|xUg=>V7 aj
|xUh=>V7 d5
|xUi=>AJ (D7 64)
|xUj=>AJ (D7 63)
|xUk=>TP Ty
|xUl=>xEh U0
|Zu ζ=>ζ≤64
|xUm=>rn xD6
|xUn=>xzP Dz
|xUo=>bD P3
|xGu ζ η=>aT (rh ζ η)
|tu ζ η θ=>x4r ζ η θ σ2
|Zs ζ=>autoParam (¬m=ζ) xk4
|xNE ζ=>WW (Tn ζ)
|xUp=>Qu PP
|xUq=>Yz Os
|xGv ζ η=>xEL (x38 ζ) η
|tP ζ η θ ι μ=>xN ζ TB.cl η θ ι (xzG μ)
|x0z ζ=>NI ζ A ts bs
|B9=>x0z H
|xBz ζ=>cst ζ W T
|Zr ζ=>CF ζ 0
|xUr=>lK vI
|xUs=>kx On
|wZ=>xsU K mg B D G' CW C0 C1 C2 C3 CK Ny CO C G Ce
|xUt=>xR8 yr
|xUu=>xR8 Eo
|Zq ζ η θ ι μ ν ξ ο=>Cg ζ η θ (Fc ι μ ν ξ ο)
|xUv=>xSl zy
|BI ζ η θ ι μ=>bv ζ η Z7 θ ι μ .nil a7
|Zp=>xKP CX k f fd ps sp
|xUw=>rD Z6
|xNF ζ=>WW (xFH ζ)
|xUx=>iU (xMR Tm)
|xUy=>ra fs
|Qq ζ η θ=>xdS ζ Z7 η θ rfl
|xUz ζ η=>BL "number" ζ η
|x0A ζ=>xmo ζ hg hm boot_range
|xNG ζ=>ap xqE (gJ ζ)
|xUA=>xmT I.hok eb
|xBA ζ η θ=>pK (kk ζ _ rfl) (kk η _ rfl) θ
|Cm ζ η θ ι μ ν ξ=>(Bu ζ η θ ι (.n μ) ν ξ)
|x0B=>λ _=>0
|Qp=>F8 h
|Qo=>FY h
|xNH=>Q none
|x0C=>.fields ts
|x5z=>vs.setIfInBounds 1
|xUB ζ=>(JO.mp ζ).1
|x0D ζ η=>h.DictOf (xv3 ζ η)
|x5A=>h'.Ns X.env.locals
|x0E=>AllBare g'
|tM=>hl i
|x0F=>I.ok.cab x
|xBB=>tn i
|x5B=>letOwnedTupleGo tg
|tK=>hs i
|x0G=>Un.kept hk
|x5C=>X.s₀.heap.get? c
|xUC ζ η=>T.map (λ ζ=>η)
|xUD=>exp rs
|x0H=>.ty "list"
|x0I=>spMove C
|x5D ζ=>V.str (Str.ofString ζ)
|x0J=>hx.same s0
|xNI=>.ref u
|x0K ζ η=>(Pc.cp ζ η).size
|UE=>h k
|xNJ=>by simpa using hy
|QT ζ=>Hm ζ hz
|xUE=>jp2 ()
|xNK=>Hx Xh
|xUF ζ=>(Kv ζ).mp
|xUG ζ=>ζ=As.length
|x5E=>Nat.le_max_right _
|xUH ζ=>ζ*RP.length
|xNL=>by simpa using h0
|x5F=>N5 (Z'.map (·.2))
|x0L=>Itm.rep r
|x5G ζ=>List.count_le_length (a:=ζ)
|tJ=>xd6 L
|tE=>xqO e
|tD=>xqP e
|xUI ζ=>Nj.length+ζ
|xUJ ζ=>valueAt ζ k
|x0M=>ND.of htt7
|x0N=>hD.uniq hn
|x0O=>kp.tr NJ
|xNM=>.ref h
|x5H ζ=>bitsP (W13.Itm.puts ζ)
|xUK ζ=>Rb.length+ζ
|xNN=>blk F'
|x0P=>h.b0 rfl
|x0Q=>.ref fa
|x0R=>.ref D0
|x0S=>some v'
|xUL ζ=>SL l.most ζ
|x0T=>Zh iter
|x5I=>eE "__classdict__"
|Q1=>SC j hj
|x0U ζ=>by show Cf (wpS_modify ζ)
|xNO=>Zf 117
|xNP ζ=>Q A8 (kU ζ)
|tB=>Q Bw
|x0V=>xKd X.A.in1
|xUM ζ=>tH "wide" ζ
|xUN=>ZA dJ "take"
|x0W=>eE "begun"
|xUO ζ η=>decide (ζ∈η)
|UD ζ η θ ι=>upd ζ η (.ins θ ι [])
|sr=>Ps 0
|xGw=>zH k
|Oy=>x37 0 lo
|sk=>EC l
|OD ζ=>zG ζ nt
|UC ζ η θ ι=>sh ζ hr η θ ι
|x5J=>Dv "are_of_things"
|x0X=>K.lookup a
|si=>mg x
|x0Y=>puts Pp
|UB ζ η θ ι=>gY AV On ζ η θ ι
|x0Z=>.ret xuM
|x00=>WB "tuple"
|wX ζ η=>by have:ζ:=η;subst this
|x01=>none_of XF
|x02=>kH "range"
|O3 ζ=>SL yC ζ
|xGx ζ=>(ts++ζ).map V.ref
|se=>AK s
|LB ζ=>(xqL ζ nl).symm
|sZ=>xDs H
|sU=>Am o ta
|EP=>Y9 xXR d
|x03=>xze "range"
|x04=>out.toList.Pairwise (SG.xrD SG.kInt)
|x05=>V.str ze
|xGy=>putK Nj k v
|x5K=>I.hok.fresh yu
|xGz ζ η θ=>by show AR (Il ζ η θ ?_)
|xBC ζ η θ ι=>bF ζ T.isi η θ ι
|xUP=>.bl fn
|xNQ=>(xDo 0).objs.size
|xBD=>xzC j
|xBE=>fC n s
|sR=>fC d e
|xUQ ζ=>λ i j=>.int ζ
|xBF ζ η=>xot ζ (xUQ η)
|CP=>xYn hb e
|xNR=>Meth X.K C
|sO=>[mq]
|xUR ζ η=>PW.pt (xEz ζ η)
|sN=>qb _
|sM=>ai n
|vR ζ η=>by show Μ e ζ η
|xUS=>["signs","back","size"]
|zN=>Ers K mg cP cs
|x5L=>x4C (fs.map (·.1))
|xUT ζ η=>wpAny M A ζ η E
|sL=>xy0 i H
|U9 ζ η=>xE3 G6 Hd xqR ζ η
|xNS=>xxJ X M6
|x06=>OldK s₁.heap s'.heap
|sJ=>A v H'
|sG=>B v H'
|zA ζ=>PE ζ elt te
|vc=>UJ _ rfl ?_
|xUU ζ=>bo PP TR.cl Tk GT ζ my
|xNT=>xUU PY
|x07=>A.units<cLine
|xGA=>xFX 6
|xNU=>SC l1 n1
|yM=>Am e te
|x08=>xNg none
|xBG=>Fw c o
|yD=>xNj C
|yB=>g x σ' H2
|xNV=>F3 (Υ (F3 h))
|y8=>Sl _ _
|xu=>s0 b o e
|xq=>OY _ _
|xp=>xwJ 0 0
|xi=>xeZ _ _ _ _
|xg=>xeT _ _ _ _
|Nn=>by simp [z]
|xNW ζ=>(ζ).map kV
|xGB ζ=>ζ∈X.fs
|xUV=>I.cne x
|xUW=>cellK x
|xUX=>IB hiσ
|x09 ζ=>isTrue ζ X.env
|xGC=>hc M6
|x5M ζ η=>λ ζ s3⟨z,H3,I3,r3,k,e,q3⟩=>η
|xUY=>F.len _
|xNX ζ=>xmf (us:=ζ)
|xUZ=>e0.bs b
|xGD=>F8 Z5
|xGE=>IxR X
|x5N=>.seq its'.toArray
|x5O=>SeqAt.EqAt.same _
|x1a ζ=>I.lset (its':=ζ)
|x5P ζ=>wpAny_isSubtype_exc ζ ?_
|xU0=>ExC X.K
|x5Q ζ η=>Builtin.«list.sort» ⟨ζ,η⟩
|x1b ζ=>I.step (ch:=ζ)
|va ζ=>by unfold ζ at h⊢
|xU1=>Good ps
|xNY ζ=>ζ<T.length
|xU2=>Ord blt
|xU3=>O.neg _
|x5R=>OC.k.trans hk
|xU4=>O.tot _
|x5S=>OR.k.trans hk
|x5T=>OR.f.trans hf
|x5U ζ=>h.sq0.app (Nu.refl ζ)
|x5V=>pe.toList.map two
|xGF ζ=>min ζ Pz
|xGG ζ=>K9 ζ rfl
|xU5=>.refl _
|x5W ζ=>(h.trans ζ).cons_inv
|xU6=>MG.mp h
|xGH=>xvG sg
|xGI=>ba.1
|xGJ=>bb.1
|xGK=>num u
|xNZ ζ=>atKey ζ k
|xGL=>aF Vl
|x1c ζ=>ζ≠builtinsNs
|x5X=>defaultsOf params
|x5Y=>congrArg Nat.pred
|xU7=>CK.xsS n
|xU8 ζ η θ=>Vr ζ η (b.drop θ)
|xN0=>two (n%65536)
|x5Z=>mk3.take W.length
|x50=>Int.emod_nonneg _
|xU9=>Br 1712
|x51=>I2.hok.fresh UV
|uv ζ=>FA ζ (vQ AV Cy LE)
|xVa=>List BV
|xGM=>VU lo
|xGN=>Ρ fn
|xGO=>ED 31
|xGP ζ=>El ζ 300
|x1d ζ η=>kitOne ζ (.ref η)
|uu ζ η=>xwM K "__init__" ζ η f fd
|x52 ζ=>uu "CodeReader.__init__" ζ
|x53 ζ=>uu "BitReader.__init__" ζ
|uk ζ=>jR ζ (j+1)
|ud=>uk p
|xVb=>List j6
|xVc=>List U4
|xGQ=>SB fn
|xVd ζ η θ=>by simp only [ζ,η];show AR θ
|xGR=>A1 g'
|xVe=>E8 Ty
|xGS=>Tv 14
|xGT=>kM T0
|xGU=>ip ad
|xGV ζ η=>xyC ζ η qual
|xGW=>xvz Et
|ur ζ=>xKs X.A.in1 ζ _
|xGX=>Cz Pn Pk
|xGY=>Ct MV
|xGZ ζ=>xh ζ all
|x54=>(xDk).setIfInBounds
|xG0=>Cls K
|xG1=>AK EU
|xVf=>W8 Bool
|xN1 ζ=>xKI .And ζ
|xVg=>.int rT
|xG2=>zi nl
|xVh=>Cn jQ
|xG3=>vN Ds
|xBH ζ η=>by show Η (FY ζ) η
|xG4=>IntsAre vs ns
|xG5=>yo ()
|xG6=>K25.Rows K mg
|uq ζ=>Q (vN ζ) H
|xG7=>yG Oo
|xG8 ζ=>Nk C ζ p d R
|xG9=>yx xKQ V
|xHa=>vN xYH
|xVi=>iq kf vG
|xVj=>FZ SA lC
|xN2 ζ=>runP ζ Pp
|xHb=>xAj xKz
|xVk=>cutV xs
|xHc=>xFc 14
|xHd=>Ts b o'
|xHe=>RB C H' r d
|xBI ζ η=>by show xAv (F8 ζ) η
|xHf=>iG ω
|Zo=>[u]
|xN3=>xK8 Zo
|xHg=>a6 (zy≠.cell)
|xHh ζ η=>Gb (a:=ζ) (l:=η)
|xVl=>EO b (ET ob b)
|uY=>xVl c
|xHi=>(xM8 x).2
|x55 ζ=>JP ζ hit.typeIs entry_listiter_next
|uW ζ η θ=>⟨σ,ζ,η,θ⟩
|xHj=>CD 8 qS
|xHk ζ=>Np ζ H p d N
|uo ζ=>xUT ζ Q
|xHl=>uy tF rx
|xHm=>N σ' H'
|xN4=>FnD K mg
|xVm=>FZ Ss hn
|xHn=>Bts K mg
|xHo=>TOk L Pp
|xHp=>Rds K mg
|xN5 ζ=>xx7 ζ O.cl Fe.m
|xBJ ζ=>ζ->Hp->ZU VK
|um=>xBJ NE
|xHq=>Cz xZv n1 n2
|x1e=>Mg blt kf all
|xHr=>Mh blt kf all
|xHs=>KT H Nj xs
|xVn=>fnOf name qual params body scope
|xHt=>CRe K mg Ce
|Zn=>by rintro rfl
|xN6 ζ η=>F3 (hQ ζ η)
|x1f=>rawInt L
|x1g=>Sum.inl a
|x1h=>Sum.inl b
|x1i=>Sum.inr a
|x1j=>Sum.inr b
|x1k=>K.In base
|xf ζ η=>BkH ζ η c
|BH=>[b]
|x56 ζ=>λ _ _ _ _ _ _ ζ=>h.elim
|xBK ζ η θ=>xqi K ζ (xsj (xv7 η) θ)
|x57=>intBits_le_64 h1
|x1l=>xxM s.heap
|uR=>[ov]
|x58=>c.names.lookup x
|x59=>tupleItemsOf_ ht
|x6a=>wpAny_typeOf hTs
|x6b=>Obj.mapSeq f
|x1m=>mg d.name
|x1n=>xnx X.prog
|x6c=>λ _ _ _=>xa2
|xVo=>.int 8
|x1o=>I.list h2
|xVp ζ η=>.cons ζ η .nil
|uQ=>FY c
|xVq ζ=>by simp [List.getD,ζ]
|xN7 ζ η=>FN (Jg ζ η)
|x6d ζ η θ ι μ=>by obtain⟨ζ,⟨_,_,η⟩,⟨_,_,θ⟩,⟨_,_,ι⟩,⟨_,_,μ⟩⟩:=Y
|x6e=>getElem?_pos arr
|x6f=>xs.toList.take i
|xVr ζ=>ζ=A'.length
|xN8=>HX M8
|xN9 ζ η=>R.take (ζ-η)
|x6g=>l.eraseIdx i
|uP=>FE _
|xBL=>ln p
|x1p=>LY.mpr h0
|uO=>FY e
|uM ζ η θ ι μ=>by obtain⟨ζ,η,θ,rel,ι⟩:=μ
|tS=>pi L
|ou=>xeJ L
|x6h=>C.keeps I.bk
|x6i=>toString ".loop"
|x1q=>fS.at nS
|x6j ζ=>Nat.xor_lt_two_pow ζ ?_
|xOa ζ η=>GT' ζ η base
|x1r=>.done rfl
|xOb=>hd H2
|x1s=>op.fi rfl
|x6k ζ η=>xf9 ζ η PySem.F.type_list_clear
|oq=>vN 9
|x1t=>K25.Wys K
|x1u=>K25.Bts K
|x1v=>K25.Shs K
|x1w=>K25.Raw K
|x1x=>K25.Run K
|x1y=>K25.Cpy K
|x1z=>K25.Shr K
|oi=>Χ m
|oW=>xJ7 4
|x1A=>xC1 "sign"
|x1B=>.ref wt
|x6l=>putF "rest_size"
|x1C=>eE "wide"
|x1D ζ η=>C.filter (xF ζ η)
|x6m=>(x==eE "__debug__")
|sS=>jZ (Ρ x6m)
|oS=>ED 2
|x6n ζ=>Builtin.bitXor (Ε ζ)
|x6o ζ=>Builtin.bitXor (Ps ζ)
|xVs=>["bits","lengths"]
|x1E ζ η=>Δ "are_whole" ζ η
|x1F ζ η=>Δ "need_size" ζ η
|Zm ζ=>xuA (t+ζ)
|oQ=>xyu i
|xHu=>DT 3 hle tl
|x6p=>Dv "need_window"
|xVt ζ η θ=>Ng.of (B1 ζ η θ)
|xOc=>yi WV
|cD=>aF e
|x1G ζ=>Aj "is_number" "is_number" ζ
|xHv ζ η=>xDc (λ ζ=>vN (wC η))
|x1H ζ η=>bindArgs ζ (WD η)
|bh=>FE 2
|zw ζ=>by show LT FU ζ
|PH ζ=>by show pQ nl ζ
|x6q=>Qj.heap.update S
|xHw=>pcAt S q
|bV=>Br 0
|aS=>Br 3
|x1I ζ=>ND.of (yA ζ)
|xBM ζ=>Χ (ζ+1)
|x1J ζ η=>gs "whole_bytes" "rest_size" ζ η
|aR=>[Zx]
|x6r ζ=>λ _ _ _ _ _ _ _ _ ζ=>xDx
|x6s ζ=>Builtin.bitAnd (Ps ζ)
|xHx=>jP (253+y)
|Yv=>xu7 H
|xHy ζ=>⟨o,ζ⟩
|x1K ζ=>xwK.mp (FQ ζ)
|xBN ζ η=>by cases ζ;show o4 t η
|Yu=>xvN A s.heap
|Yt=>K25.xxK K mg
|xHz ζ η=>by refine ζ;show DE η
|x6t=>List.replicate k
|YQ=>xD1 S
|xHA=>xKY scope f cd
|x1L=>xYg b.size
|xBO ζ η=>by show Wp (XC ζ) η
|oU ζ η=>CZ cL ζ η
|x1M=>xLo h.symm
|xHB=>xEk st' L
|Xn=>foldedSetIterable iter X.env x
|x1N=>x4u a.size
|xVu=>iq kf k
|x1O=>Ng.of Vo
|x1P=>Ng X.K H
|xOd=>aV A3
|xHC=>xz8 k
|x1Q=>Walks.list (prog:=X.prog)
|WC=>xAc s
|x1R=>xAj .plain
|x1S=>by show vU True.intro
|Vs=>k b o
|xBP ζ η=>LoQ κ ζ η sq0
|xBQ ζ η=>HiQ κ ζ η sq0
|oR ζ η=>xmx (D:=Wo) (lo:=ζ) (n:=η)
|x1T=>OG K "__init__" "Check.__init__" sCInit
|VL=>neC b o e hx
|xVv=>Xo lo n
|xVw=>xsp κ X
|Uw=>e≠Tb
|xHD=>xQP [NG cs]
|xVx=>λ _ _ _ e=>e
|UA=>Am b tb
|TO=>A7 xs v
|Sx=>oE Yy (Ab≠b)
|xHE ζ η θ=>IC (xTt ζ η θ)
|xVy ζ η=>xSP ζ η f fd ps
|x1U=>lc S p m
|xHF=>x1U n
|xOe ζ=>by(rcases ζ with rfl|rfl|rfl)
|x1V=>SL o.dict builtinsNs
|NK ζ η=>ζ->ZU η
|xVz ζ η=>xO (xU ζ 1000000 η)
|xHG=>xBz i
|x1W=>xBB s.heap
|oO ζ η=>by show xGz ζ η rfl
|Rm=>PI X M9 iter wi
|Pg=>xqa K mg CK CO
|xOf=>app B x
|x6u ζ=>uu "Presser.__init__" ζ
|x6v ζ=>uu "Reading.__init__" ζ
|P5=>z≤18
|P4=>xjL H a
|P2=>xwu a b c
|Oq=>VW _ _
|Og=>Kk X G a
|xOg=>253+z
|OW=>xwz CX X E
|OK ζ η θ=>by show LT (IS _ _ _ ζ η) θ
|di=>xdN _ _ _
|df ζ η=>wpS M A E s ζ η sq0
|dY=>xd7 _ _ _ _
|dX=>xeN _ _ _ _
|dW=>xeq _ _ _ _
|xVA ζ=>FA (HI ζ)
|xVB ζ=>J8 (FG ζ)
|x6w=>assignEach elts
|xOh=>env::outer
|xVC ζ=>.dict ζ ep
|xVD ζ=>h.Ns1 ζ mA
|x1X ζ=>ζ<h.objs.size
|xOi=>.tbl (ps++more)
|oN ζ=>by rw [ζ];decide
|x6x=>storeName X.env
|xHH=>b::rest
|x6y=>h.IsListIter it
|x6z ζ=>wpAny_pyIter_list ζ ?_
|Td=>r x
|xVE ζ=>InstAt ζ x
|x1Y ζ=>JL (first:=ζ)
|x6A=>N.take P.length
|x6B=>codeAny_func ?_
|dR=>by unfold cutV
|x6C=>call_list_seq p
|x6D=>r.append r2
|xVF=>xqQ rv
|x6E=>intItems ys
|x6F ζ=>wpAny_loadPart_at ζ ?_
|x6G=>JX I.ok.mod.kin
|x1Z ζ=>Vk.get (i:=ζ)
|xOj ζ η θ=>B.foldl (λ ζ η=>θ)
|xVG ζ η=>(ζ++η).foldl
|xVH ζ=>ζ*T.length
|xBR ζ=>xxF ζ ts
|x6H ζ η=>Nat.succ_lt_succ (FN ζ η)
|xVI ζ=>JG (KL ζ)
|x6I=>b.toList.take 1
|x6J ζ=>(l.map ζ).eraseIdx
|xHI ζ η=>FM (show ζ from η)
|xVJ ζ=>(ζ).keep s5
|xVK=>ak nt
|x6K=>rawInt pos.line
|x6L=>J2.turn fS2
|x6M=>Data.fields #[]
|x6N=>PySem.W.WalkO q
|x10=>["row","before"]
|xHJ=>["state","byte","wide"]
|x6O=>λ {m n}=>ME.mp
|x11 ζ η=>((ζ).mono η).imp
|x6P=>Vu.trans s5
|xOk=>two (n/65536%65536)
|oJ ζ=>ζ++rest
|x12 ζ=>ζ≤A2.length
|x6Q=>Fz hnR.symm
|x6R ζ=>Gg (e.symm.trans ζ)
|xOl=>CF xEe 2
|x13 ζ=>SL A.frames ζ
|xHK ζ η θ=>xJ9 ζ η (af θ)
|xVL ζ=>xKa ζ .cell
|xHL ζ η=>⟨vK ζ,li η⟩
|x14 ζ=>Dy ζ Z.length
|qj ζ=>ζ=.non
|xVM ζ η=>some (Dy ζ η)
|x15 ζ=>(Str.ofString "key",ζ)
|dP=>[x15 yv]
|Tc=>by intro y;cases y
|xVN ζ=>FG (HR ζ)
|xVO ζ=>xKn ζ .cell
|xVP ζ η=>(ζ).app (xyv η)
|x6S=>κ.keyOf Ab
|x16 ζ=>.int ζ s.toks
|x17 ζ=>xs.length≤ζ
|xVQ ζ=>CodeHd ζ c
|xHM ζ=>Fm (H b) ζ
|Ob ζ=>Fm (H t) ζ
|x6T=>WB "ValueError"
|qi ζ=>ζ->Nat
|Sa ζ=>by show XV ζ e
|xVR=>yA hp
|xHN ζ η θ=>SL (nsIn ζ mainGlobals η) θ
|x6U=>failedOf Qw
|xBS ζ=>xsj (xv7 ζ) xqh
|xBT ζ=>pW xmt ζ
|xVS ζ=>ζ+R.length
|xOm ζ η=>FK ζ (Gi η)
|x6V=>Pj.trans P6
|x6W=>gh W.length
|x18=>gK "code" "length"
|x6X=>Int.lt_trans OQ
|xVT ζ=>FN (Gk ζ)
|xVU=>envX qual scope s.heap.objs.size
|xBU ζ=>Az ζ nl
|xBV=>λ b=>xc
|x19 ζ=>(jW ζ).length
|x2a ζ η θ=>List.foldl ζ η (List.replicate θ its.toArray)
|xVV=>s'.heap.update c (xQo #[])
|SY ζ η=>t σ H (λ ζ H1=>η)
|xHO=>(xKX).map (sgl w8)
|xVW ζ=>x4l ζ items
|xBW=>(xKg).push (xKf C)
|xVX ζ=>C7 (Ec ζ)
|xHP ζ η=>rv.get (i:=ζ) (x:=η)
|xVY ζ=>SL ζ .cell
|O4=>vN (yp t s)
|xVZ=>xYq D0
|xV0=>xT NH
|xBX ζ=>ET (exO Ap vs) ζ
|x6Y ζ=>((xEA).take ζ).count
|x6Z=>rest.take s
|qh ζ η=>Au (ζ++η)
|oH=>mk3++xzC 0
|xV1 ζ=>.a (O5 ζ)
|xV2 ζ=>xu5 (congrArg not ζ)
|xBY ζ=>Px ζ xs
|xV3 ζ=>Fz (ζ).symm
|xV4=>Qa LE
|xOn ζ η=>ta σ H (λ ζ H1=>η)
|qg ζ=>xOn x ζ
|qW ζ η θ ι μ=>Me K ζ η θ ι μ f fd
|xBZ ζ η=>xdK (m:=ζ) ci η rfl rfl
|x2b ζ=>qd (ζ).reverse
|xHQ ζ=>by show xAA;refine ζ
|xV5=>Re (e (h1.trans z))
|xV6 ζ=>xMS (Gq ζ)
|xHR ζ η θ=>xer rfl (xzm ζ η θ)
|xV7=>SC l1 X9
|xV8=>A'++DM
|xB0 ζ=>yF (xAV _) ζ
|xB1 ζ=>hi M6 ζ σ
|xB2 ζ=>vL hs b ζ
|xV9=>by show Dd Z.init
|xWa ζ η=>(ζ++η).toArray
|x60 ζ η=>Qq ζ η PyProof.Rows.boot_bool
|NQ ζ=>Zf ζ 1
|N3 ζ=>Zf ζ 0
|xB3 ζ=>kR ζ nx Vw
|x61 ζ=>uu "BitRow.__init__" ζ
|x62 ζ=>uu "Opener.__init__" ζ
|x63 ζ=>uu "Course.__init__" ζ
|xWb=>mixN rX (Ps j)
|xHS ζ η θ=>aM (Re (hz ig)) (xx1 (Gq ⟨ζ,.inr η⟩) θ)
|xB4 ζ=>NK Hp ζ
|xB5 ζ=>I.turned ζ f0 f1 f3 f4 f5
|Fn ζ=>xwC C ζ p d e L
|SX ζ η θ ι μ ν=>by obtain⟨ζ,η,θ⟩:∃ι,μ:=ν
|xWc=>E.le c
|xOo=>Gh Z6
|xB6 ζ η=>by(injection ζ with η _)
|x64 ζ=>by obtain⟨_,⟨_,_,_,e,_⟩,_⟩:=ζ
|x2c=>u.keep b
|xWd=>hidT h H
|x2d=>X.H₀ b
|x65=>AllBare s.gens
|x2e=>id I.loc
|xB7=>PW X
|xWe=>Turn P
|xWf=>rule i
|xWg ζ=>.int (-ζ)
|xB8=>xq5 r
|x2f=>Hb.mpr h
|x2g=>JK.mpr h
|x2h=>xiD outer
|x2i=>CX outer
|x2j=>JL I.kIn
|x2k=>HT.sIx n
|xOp=>hd ys
|x66=>compEnvC scope
|x67 ζ=>(ζ).env.cells.lookup x
|x2l ζ η=>λ _ _ _=>xgr ζ η
|x68 ζ=>wpAny_getItem_of ζ hm
|x69=>excClassObj nm
|xB9=>Sk c
|x7a=>bindName X.env
|x7b=>s1.heap.get? T
|x2m=>.type t
|xOq=>val A
|xWh=>num bs
|xWi=>.int _
|xOr=>FY xhq
|xOs=>aF hp
|xWj=>["body","head","window"]
|xOt=>FL l1
|xOu=>FQ hc
|xOv=>xen hO
|xWk=>xxS st0
|x2n=>xw9.mp hk
|x2o=>X.drop n
|xOw=>OF Rs
|xCa=>[av]
|x7c=>W13.xqy tok.six
|xWl=>.cp bk z
|x2p=>ND.of Xq
|xOx=>FE 13
|x7d=>rawInt pos.col
|x7e=>X.base.get? bm
|x7f=>.Lambda params
|x7g=>h h'.objs.size
|x7h=>toString "min"
|x7i=>Qj.heap.get? b
|xOy=>xmj xwZ hb
|xWm=>PrAt C
|x2q ζ=>.inr (hd ζ)
|xOz=>hN.1
|x7j=>spAreWhole K
|x2r=>mg "Cut"
|xWn=>.row p
|xOA=>xsX H0
|x7k ζ=>(s.trans ζ).trans
|xOB=>Tol H
|xWo ζ=>PSs X0 ((xxD iT).drop ζ)
|xOC=>fr8 _
|xOD=>fr6 _
|xOE=>TD cB
|xCb=>TD o
|xCc=>TD r
|xOF=>TD l5
|xOG=>TD l3
|xOH=>TD lb
|xOI=>Χ ah
|xOJ=>Br 12
|xOK=>AN Pn
|xWp=>xC1 "1"
|x2s=>xC1 "row"
|xOL=>xdO tI
|xCd=>Fj v
|xOM=>ZC H4
|xWq=>.int k
|xCe=>tG c
|xCf ζ η θ ι=>aa ζ (WS η θ ι)
|Dx ζ η θ=>EE ζ η ad θ
|xON=>ED 33
|x2t=>(xC2).size
|x2u=>gP Bool
|xWr=>VM 256
|xOO=>VM 64
|BF ζ η θ ι μ ν=>EL ζ η θ ι LE μ ν
|xOP=>xwy AM
|Dw ζ η θ=>U5 AV ζ η θ
|xCg=>EB b
|xCh=>xC5 n m
|xCi=>xyu j
|xOQ=>qN A3
|xWs ζ=>F3 (qN ζ)
|x7l=>xuC mainGlobals
|x7m=>Dv "weight_of"
|x7n=>Dv "need_size"
|xOR=>A1 Pq
|xOS=>A1 ck
|xOT=>Fj wG
|xWt ζ=>xa4 (x39 ζ)
|xCj=>RF p
|xOU ζ η=>xDa (RE ζ η)
|xWu=>kO 300
|x2v=>WB "min"
|xCk=>H1 c
|xOV=>xXX xyt
|xWv ζ=>xBa Oc.nd (pd Ty ζ)
|x2w=>(xDh).drop
|x7o ζ=>I.base.there b o ζ hx
|xHT=>x7o e
|xCl=>Br 8
|xWw ζ=>A9 (Zz ζ)
|xOW=>base.Ns mainGlobals mg
|x7p=>bootBuiltins x
|oG ζ η θ ι μ ν=>vP ζ η θ ι (tC μ ν)
|xCm=>DO g
|xOX=>DO ck
|xOY=>BP.val (C.take i)
|xCn=>QM W
|x2x ζ=>Fj (.ref ζ)
|xOZ=>EW TC
|xO0=>EW XX
|xCo=>Am o
|xO1=>Ct p7
|xO2=>jL p7
|xWx=>cF Nj j
|qc=>by show AP 1
|xWy=>xyZ b e
|x2y=>L.map (sgl w8)
|xO3 ζ η=>if ζ then η else 0
|xO4=>max 1
|xHU=>tx e
|xO5 ζ η θ ι=>by obtain⟨ζ,η,_⟩:=θ;exact ι
|wU ζ η=>by unfold ζ;exact η
|x2z=>xwK.mp OQ
|xWz=>xDO ea G3
|xCp=>xXQ 0
|xO6=>xyn "isinstance" p2
|xO7=>Ps jq
|xO8=>xQX ze
|Zl ζ η=>aq (λ ζ g=>η)
|x2A ζ=>g (.int ζ) σ
|xWA=>Walk L
|x2B ζ=>pI ζ (xxd X M6 σ Q)
|Dt ζ=>x2B ζ s
|xO9=>u7 (xxD st)
|xWB ζ=>s2.heap.push (xC6 (xKA ζ))
|xCq=>t σ H Q
|xHV ζ η θ=>SU ζ (Bt (Ng.of η)) θ
|x7q=>xYh its.toArray
|qY=>64*i+T.length
|xPa ζ η=>SB (NL.le ζ η c.length)
|xPb=>g x σ H'
|xCr=>6≤vs.size
|xPc=>x4o s3 H3
|xPd=>K25.C.Mks K mg
|xPe=>T1 35
|xPf=>Mk (Re (hz ig))
|xCs=>MH κ a b
|xPg=>aG Wf
|xPh=>xS 64
|xPi=>tots (X4 xyt)
|xPj=>Beg L
|x2C=>setFlight DZ none
|xPk=>qb H2
|xWC=>Qv Ψ (CN On)
|xWD=>xLS t''
|Zk ζ η=>Vj _ rfl ζ η
|xWE ζ=>xyv (kk ζ _ rfl)
|xWF=>fP st'
|xPl=>fP s'
|xPm=>b∉ex
|x2D=>closureFor scope X.env
|xPn=>xES ?_
|xPo=>xy0 i σ
|xPp=>xQE H' p co ck
|xPq=>W i m σ
|xPr=>W 0 m σ
|xCt=>Exc1 K mg
|xCu=>k b u
|xCv ζ=>OG K x ζ st dV
|x2E=>AJ (.n 16777216)
|xPs=>xZd H'
|x7r=>xvu xmv Z7 T.list HA
|xWG=>x7r Ew
|xPt=>uT jz
|xCw=>xFr N
|xPu=>wC xKw
|xCx ζ η=>by have:=ζ;show B0 η this this
|xCy=>wa k
|x2F=>TP (xFL Ν)
|xPv=>xMU 64
|xPw=>OG.i l9 c9 k9
|xCz=>M' k A
|xPx=>Jr (pl:=pl)
|xCA ζ=>Prt K mg ζ Ny CO
|qX ζ η=>by show xNh ζ η hq
|xCB=>O2 i
|xCC=>tt σ H
|xCD=>xqY D P w
|xCE=>xxH L e
|xCF=>TxG R W
|x2G=>λ _ _ q=>Xz
|xCG=>xNa xDR H
|x2H=>kF (pv 13)
|x2I=>AJ (vA qE)
|x2J=>CN (QJ Ak)
|xPy=>PG Zd M9
|x2K=>xYu (Gg z)
|xWH=>xxS sq0 st'
|xWI=>spT u B
|x2L=>hr.hand Z9 Z9
|xPz=>.ins C dx fs
|x2M=>I1.fpOk UV xQy
|xWJ ζ η θ=>if ζ then some η else θ
|xPA ζ η=>upd (rG ζ η) e
|xWK ζ=>Φ (xGx ζ)
|xPB ζ η=>oZ ζ (T3 (xUQ η))
|xCH=>Inv X N4 σ
|xPC=>xNS H'
|xPD=>tb σ H1
|xPE=>by have hlen:=r'.length
|xPF=>hint+la
|x2N=>Ie M8 (HW _)
|xCI=>e≠ck
|x7s=>xN4 "pieces_of"
|xPG=>xBJ dI
|xWL=>x1e out
|xWM ζ η=>(xqK ζ η).symm
|x2O=>instObj C dx
|oB ζ η=>⟨ζ,?_,η⟩
|xHW=>xBM j
|xPH=>jP (253+z)
|xPI=>xVw D0 Eb
|x2P=>xqY D X.prog X.w
|x2Q=>(X.mg "__name__").getD .none
|xCJ=>xk6 K mg
|x2R=>Op T Rs
|x2S=>CF vC 2
|xPJ=>xHM (k.map kV)
|xPK=>xzA ah q
|x7t ζ η=>xKj f ⟨oc,od,.func ζ,η⟩
|xHX ζ=>x7t ζ osl
|x2T=>Υ (aV (iE (Pj.trans xR0)))
|xWN=>Ij _ _
|xWO=>xWN (Kc hb)
|xPL=>Un fs ex
|xHY ζ η θ=>xxQ P w ζ η base θ outer
|xCK=>su _ _
|xCL=>Vu _ _
|xCM=>Pj _ _
|xPM=>Hds K mg
|xPN=>Tbs K mg
|xCN=>s7 _ _
|xCO=>Xd _ _
|x2U=>xEG (pN 16)
|xPO=>xXS it h'
|xCP=>Ng K H
|xPP ζ=>show ζ from qK a ea
|xCQ=>Ρ (xXZ a)
|xPQ=>Dv "ones" xvb Jai fO fdO
|xCR ζ η θ ι=>oz (BX ζ Ψ LE η θ) LE LE ι
|x2V=>xEG (.m 16 Ψ)
|xWP=>xet Co.F S0.Zb R0.W.cl T.m T.b GT
|x2W=>Ww (ji (xVe π))
|xCS=>h M6 s σ H
|xCT=>xxG K mg C
|xPR=>x2R bg
|xPS=>cs C0 C1 C2 C3
|xCU=>P6 _ _ e
|xPT=>Dv "_law_word" xr2 xKE fw fdw
|xPU=>Dv "need_row" bY Jae fN Ul
|xPV=>xGl e a1 a2 a3
|xWQ=>xAh H g S b G
|xCV ζ=>xqb K mg B D ζ CW C0 C1 C2 C3
|x7u=>Value.bytes b
|x7v=>Paired.mapP r
|xPW=>λ _ q=>q
|x7w=>I.base.frzs _
|xWR=>Vn c z
|x2X ζ=>exec ζ X.env
|x7x=>.UnaryOp .Not
|x7y=>I.list_inj hy
|x7z=>IsRangeIter _
|xPX ζ=>A.depth+ζ
|x7A ζ=>h ζ s.heap.objs.size
|x7B=>codeRec_of KX
|xWS=>HR ?_
|xWT ζ η=>if c then ζ else η
|xWU ζ η=>js.map (λ ζ=>η)
|xPY=>zy=.local
|x7C=>I.hok.kept hk
|x7D=>I.base.keep c
|x7E=>I.base.free c
|xPZ ζ=>by(injection h with ζ)
|x2Y ζ=>rs.length≤ζ
|x2Z ζ=>xey ζ T.range
|xP0 ζ=>xew ζ key
|x7F=>pendingOf st'
|xP1 ζ=>λ ζ=>rfl
|xWV=>jp ()
|xWW ζ=>ζ<Y.length
|x7G=>Nat.max_le.2
|xWX ζ=>ζ<R.length
|x20 ζ=>(ζ,r.length)
|x7H=>Z'.map (·.1)
|x7I=>Z'.map (·.2)
|x7J=>sm.trans s5
|x7K=>ZD.trans s6
|xWY ζ η=>Nj.map (λ ζ=>η)
|x7L=>Paired.snoc r
|x7M=>Int.le_refl _
|x21 ζ=>ζ≤b.length
|xWZ ζ=>ζ≤F.length
|x22 ζ η=>ζ=Str.ofString η
|x7N=>["_law_pair"]
|x7O=>s9.trans Xd
|x23 ζ=>nL (ζ).length
|BE ζ η θ ι μ ν=>by show vo ζ η θ ι;have μ:=ν
|x24 ζ=>I.write ζ Dm
|x7P=>jF kv.toArray
|xCW=>Tr b u
|xP2 ζ=>AH ζ Jae
|oA=>Vg P X
|x7Q=>l.Pairwise E3
|x7R=>X.Pairwise E3
|x25 ζ=>.inl (Fh ζ)
|xW0=>Fg h1
|xW1=>A7 X.N y
|dC ζ η=>τ h' ζ η
|x7S=>xuC sysModules
|x7T=>Dv "in_pairs"
|x7U=>kM its.length
|Dp ζ η θ=>⟨ip ζ,η,θ⟩
|xW2=>AZ hp
|xW3 ζ η=>Aj "read" ζ η
|x7V ζ η=>Aj ζ "Reading.read_parts" η
|xW4 ζ η=>Aj "tell" ζ η
|x7W ζ η=>Aj ζ "Reading.go_through" η
|Zj ζ η θ ι μ=>by show iP ζ η rfl θ ι μ
|xCX ζ=>yI LE LE ζ
|xHZ ζ η θ ι μ=>by obtain⟨ζ,η⟩:=θ;have ι:=μ
|x26 ζ=>xQu "slice" ζ
|xP3 ζ=>p8 (A9 ζ) 5
|x27=>xP3 (.m 3 Ψ)
|x28=>xP3 (ER 3)
|d6=>(blk T j).length
|cH ζ η=>xnb ζ η scope [] fp
|o7 ζ η=>CZ ζ Ν η
|nr ζ η=>xsL bd ζ (xxE η) bU
|xH0 ζ η=>by obtain⟨ζ,e⟩:=η
|xW5 ζ η=>gs "whole_bytes" "rest" ζ η
|x7X=>xX0 Value.none
|xW6=>xyM P7
|ni ζ η=>Du H4 ζ η
|xW7=>vZ ?_
|x7Y ζ=>a.setIfInBounds ζ ze
|x7Z=>fj "finished"
|x29 ζ=>aT (λ _=>ζ)
|xW8=>j7 ha
|Zi ζ η θ ι=>Dq ζ η Os θ Os ι
|x3a ζ=>putF "begun" (.bl ζ)
|x70 ζ=>xQ9 ζ (Z'.map (·.2))
|xW9=>oI Vp
|x3b ζ=>getItem ζ xRk
|o8 ζ=>lH B ζ
|x3c ζ=>Rv ζ 1000000
|x3d ζ=>Rt s'.heap ζ
|xP4=>Δ "is_whole" xxC Jaa
|o5 ζ=>yG (xX5 ζ b)
|xP5 ζ=>W ζ m' σ'
|xXa=>xED N H
|xP6=>xXa fn
|nZ ζ=>autoParam (¬x=ζ) xk4
|nV ζ=>dt H2 t ζ
|nU ζ η=>xEO (λ ζ=>η)
|nQ ζ=>t ζ σ
|xP7=>xYY V6 wt1
|xXb ζ=>⟨?_,ζ⟩
|x71=>x4W X.length
|x3e ζ η=>tH "many_signs" ζ (xXY η [])
|xH1 ζ η θ=>xXU ζ (x3e η θ)
|nJ ζ η=>callWith pos ζ first (xzn η) (x4n pos [])
|xXc ζ η=>show uK ζ from η
|xXd=>(xyr).take k
|xXe=>wC xF8
|nP ζ=>by show DI hb ζ
|xXf=>xTy xDj
|nA ζ η=>τ ζ s' η
|xP8 ζ=>VT rfl rfl ζ
|nO ζ=>QD (field jV ζ>>=_)
|xXg=>Jy (Kc hj)
|nN ζ=>Zf ζ 2
|xP9 ζ η θ=>by show zc ζ η θ;exact this
|xXh=>hint+of
|x72 ζ=>uu "Head.__init__" ζ
|nK=>τ x H' y
|x73=>A.deeper xHA
|xQa ζ=>∃m,W 0 m [] ζ xDA
|xQb=>xQa (xKm n)
|x3f ζ=>pe.toList[ζ]?
|x3g ζ=>ζ="finished"
|xXi=>rG H (xDt true)
|mY=>3≤z
|x74=>Value.bool b
|x75=>Value.type n
|x3h=>List β
|x3i=>by simpa using I.len
|x76=>z.sameBut hs
|x3j=>s'.os=s₁.os
|xXj ζ=>I.kIn ζ o
|xH2=>PG X
|xH3=>y xs q
|x3k=>binT ha
|SW ζ η=>∀y∈ζ,η
|xXk=>by simpa using h2
|xH4=>J6 _ _
|x77 ζ η=>JP ζ η entry_tuple_getitem
|x78=>typeIs_int s
|x79=>PlainAttrs T
|xH5 ζ=>xqN ζ wi
|x8a=>hsb.extBut b
|xH6 ζ η θ ι=>⟨ζ,η,.int θ ι⟩
|x8b=>intKind_is P
|xXl=>by simpa using hp
|x3l=>tAt σ0
|x3m=>LL c.hd
|x8c=>xs.all flatV
|xH7=>F8 c
|xQc ζ=>256^(ζ).length
|x8d=>rlF L.length
|xH8=>vN x
|xH9=>xmr W
|xIa=>aV k
|xIb=>xrB O x
|xIc=>Jo _
|xId ζ=>xvw ζ ?_
|x3n=>FZ this
|xIe=>wt p
|xQd ζ η=>xdM ζ (B:=η)
|x8e ζ=>s1.heap.objs.size+ζ
|xXm ζ=>xev (N:=ζ)
|xXn ζ=>xex (K:=ζ)
|xIf ζ=>xva ζ iw
|xIg=>H8 c
|x3o=>FE 9 hq
|x3p=>FE 9 Yd
|x8f=>XE.trans s34
|xIh=>kf j
|x8g=>Data.dict es
|x3q=>xuY true
|xXo ζ=>(ζ,.free)
|xXp=>by simpa using m'
|xXq ζ=>by show Ru ζ;exact Pk.symm;exact QP.symm
|xQe ζ η θ=>by show xOe ζ;exact η;exact θ
|x3r=>V.bl bg
|x8h=>cI "waiting"
|x3s=>xeU Wi.F
|xQf=>wn F i
|xXr ζ=>Rs.length=ζ
|x8i ζ=>(ζ,.globalImplicit)
|x8j=>s3.trans s45
|x8k=>s2.trans s35
|x8l=>s1.trans s25
|x8m ζ=>Rs.flatten.length+ζ
|x3t=>LInv Cp
|x8n=>K25.Ck.Txt K
|x8o=>K25.Ck.Chk K
|x8p=>K25.Ck.Bks K
|x8q=>K25.Ck.Prz K
|x8r=>K25.Ck.Prt K
|x8s=>K25.Ck.Rds K
|x8t=>K25.Ck.Tbs K
|x8u=>K25.Ck.Tbk K
|x8v=>K25.Ck.CRe K
|xXs ζ η=>by show ZV ζ Z.R.whole η Z.needsize
|x8w=>Ε ns.length
|xIi=>Χ q
|xIj=>vN p
|xIk=>vN y
|x8x=>nL ns.length
|qV ζ η θ ι=>upd ζ η (.ins θ PN ι)
|xIl=>vn j
|qU ζ η=>dt H ζ η
|yL ζ η θ ι μ ν ξ=>Fp ζ η θ ι μ ν Ω ξ
|xIm ζ=>Tq ζ ad
|x8y=>putF "state"
|xIn=>vN a
|x3u=>.int 16 t3
|xIo=>a.2
|x3v=>A4 this
|x3w=>.int lo
|xIp ζ=>A7 cs ζ
|xIq=>ED 7
|xIr=>ED 4
|xIs=>[pL]
|xIt=>Ps q
|BD ζ=>by show EM ζ z z
|xIu ζ η=>.inl ⟨ζ,rfl,η⟩
|xIv=>VM 2
|xXt ζ=>Dy ζ .non
|xIw ζ η=>Δ ζ η Jal
|xIx ζ=>Az ζ n4
|x8z=>Dv "runs_of"
|x8A=>Dv "bits_at"
|x3x=>(WO).app
|xIy=>A1 a
|xIz=>AH 2
|xIA=>WL i
|xIB=>Tv 2
|x8B=>kM fs.length
|qT ζ η θ ι=>⟨⟨ζ,η⟩,θ,ι⟩
|xIC=>WJ 2
|xXu=>xKr i q
|xID=>[kX]
|xIE=>.m 2
|x8C=>xs.extract i
|xIF=>H1 b
|xQg=>wJ d kI
|xIG=>yF xF6 us
|x3y=>Ct Bool
|x3z=>.cons a
|xIH=>xyJ i
|xII=>x4f o
|xQh ζ η=>by obtain⟨ζ,η⟩:=h
|xIJ=>wL B
|xIK=>QM R
|xIL=>QM T
|xIM=>QM B
|xIN=>xKG n
|x8D=>.Subscript o
|xIO ζ=>pW ζ SZ
|x8E=>xDv kitx_list
|x8F=>xDv kitx_dict
|x8G=>PassesOwn xyX
|x8H=>fs.length<1000
|xIP=>R xX2 s'
|xIQ=>xKL x
|xIR=>[xy6]
|xIS=>nD i
|xIT=>Ε p
|x8I=>V.int.inj OQ
|x3A=>Vals ys
|xIU=>xv b
|xXv=>(rel.val k).isSome_eq
|xIV=>SB (X.fn x)
|xXw ζ η θ ι=>gs "waiting" ζ (Y9 η θ) ι
|x3B=>.str ze
|x8J=>fj "waiting"
|xIW ζ=>Az ζ n5
|xIX ζ=>Tj H1 p Ce ζ
|qQ ζ=>jY _ rfl _ rfl ζ
|x8K=>xK2 Y8.length
|xIY ζ=>xK6 ζ H'
|xIZ=>pj "things" d []
|xI0=>xRa u
|x3C=>V.ref l
|xI1=>kn 3
|xI2=>σ.length=n
|x3D=>List xYr
|xI3=>Meth K C
|xI4=>S.length<e
|xI5 ζ=>yI On LE ζ
|xXx ζ η θ=>ad (H:=ζ) (a:=η) (o:=θ)
|xCY ζ η θ=>xXx ζ η (.lst θ)
|x3E=>Hf (HW _)
|x3F=>.int cS
|xI6=>kk a b
|xI7=>MA κ a b
|xQi=>lU NR hi
|x3G=>RelV zO
|xI8=>ZZ r
|xI9=>xzX A
|xJa=>xzX B
|xJb ζ=>xLN ζ H'
|xQj=>tailR T.length (jK T)
|xJc=>.int 1 v
|xXy=>Fx jI zK
|xJd=>xEO f
|x8L=>iV xs.length
|x3H=>List.replicate z s
|x3I=>(xYB).names.lookup x
|xJe=>xL1 C
|xJf=>ke u
|xJg=>jA (BU l nl)
|xJh ζ=>gz ζ tA
|x8M=>tail_any hm.typeIs slot_dict_getitem.lookup
|xJi=>T.obj _ _
|U8 ζ η θ ι μ ν=>⟨ζ,η,θ,rfl,ι,μ,ν⟩
|xJj=>fC_no _ _
|qP ζ η=>λ ζ η=>Aa
|xJk=>Due L rest
|xJl ζ=>aF ζ Rc
|xQk=>2^bs.length
|xXz ζ=>(ζ).flatten++tail
|x3J=>Re (xSH z)
|xCZ=>by have hu:=hr.units
|xJm ζ=>(ζ).go i H'
|xJn=>xAC e
|xJo=>xAH r
|xJp=>wa i
|xJq=>wa m
|x3K=>Xo lo k
|x3L=>.cons rfl r
|xJr=>a≠Tb
|Dn=>by show Af e
|x3M=>λ _=>aV J
|xJs=>xF2 f
|xJt=>b∈X.ex
|xXA=>Fw b o
|x8N=>A'++M.reverse
|x8O=>.done (.ret .none)
|xJu=>xvy R e
|xXB=>i9 (xBk)
|xJv=>E4 H1 b ym
|xJw ζ=>et hz Om ζ
|xJx=>xmo I hg hm
|xXC=>3+Rb.length
|xJy ζ=>AH ζ ps sp
|xXD ζ=>kla_obj "<lambda>" ζ params body scope
|x3N=>putK Nj k y
|xJz=>Q2 H ts ps
|xJA=>wi σ H
|xJB=>kp7 _ _
|x3O=>xvH P pos
|xXE=>x3O qual
|xJC=>Vr [] 0
|m9 ζ η=>SL (findIn K Ap ζ) η
|xJD=>notedBy QK A env
|x3P=>o+r.length
|xXF=>xqM t.wb t.tb w
|xJE=>DT 3 h3 t3
|xXG=>253+y
|xJF=>x1P p
|x8P=>.compLoop xHD
|xJG ζ=>xVy CX ζ
|Dl=>xEy (i+1) (ys++SO) xEg
|x3Q=>Y.length-pl
|x3R=>Bs.flatten++tail
|xJH ζ=>Tw ζ ps xs
|x3S=>tailR S.length (jK S)
|x3T=>xzO (BP.num u) u.length
|xJI=>x6Y j
|xJJ=>xmW C m sp
|xJK=>k2 _ _
|x3U=>h.b1 rfl rfl
|x3V=>mixN c k
|xJL=>xuO x y
|x3W=>Ie M8 (Iu xD4)
|xJM=>CRd K mg C
|x3X=>Sk b o q
|x3Y=>Sk b o e
|xJN=>p≠d
|x3Z=>xHB Rs tail
|xJO ζ=>x7t ζ sl
|xXH ζ=>xWQ ζ true
|x30=>⟨σ',H',I.unlift,q⟩
|x31=>⟨σ',H',I.unwish,q⟩
|x32=>blt xzN vG
|x33=>s'.os=s.os
|xXI=>bn b e
|xJP=>PR l m
|xJQ=>xwQ K mg C
|x34=>occ xKw q
|xJR=>kk _ _
|xJS=>Yc _ _
|xXJ=>k1 _ _ e
|xJT=>Ys _ _
|xJU=>s8 _ _
|x35=>model P w
|xQl=>SC x hx
|x8Q ζ=>Δ "need_lengths" ζ Jag
|xJV=>xsl X f
|xJW ζ=>kR ζ np T4
|xJX=>NI H A
|xJY ζ=>hC.off ζ n1 n2 n3
|xJZ=>SB (isFn K yv)
|xJ0=>⟨xs,q,UV⟩
|xJ1=>xKq o e n hx
|xXK ζ=>m9 ζ none
|xJ2=>xG8 H t
|xJ3=>xHk C T
|xJ4=>xdV I1 ea c hm l ?_
|xJ5=>Shw K mg B D
|x8R=>Prz K mg B D
|xQm=>x8R G' CW C0 C1 C2 C3
|xJ6 ζ=>hb M6 s1 σ H1 ζ I1 q1
|xQn ζ η=>xem (P:=ζ) (w:=η) (base:=base) Pu.F
namespace NL
inductive E where
 |v (i:Nat)
 |n (k:Nat)
 |a (x y:E)
 |m (k:Nat) (x:E)
 |w (x:E) (k:Nat)
def At:Id->Cs
 | [],_=>0
 |x::_,0=>x
 |_::l,i+1=>At l i
def E.d (c:Id):qi E
 | .v i=>xFr i
 | .n k=>k
 | .a x y=>bz+xAW
 | .m k x=>k*bz
 | .w x k=>bz*k
def E.k:qi E
 | .v _=>0
 | .n k=>k
 | .a x y=>x.k+y.k
 | .m k x=>k*x.k
 | .w x k=>x.k*k
def E.p (j:Nat):qi E
 | .v i=>EK i j 1 0
 | .n _=>0
 | .a x y=>xAX+y.p j
 | .m k x=>k*xAX
 | .w x k=>xAX*k
def dot (c:Id)(f:Cs):Cs
 |0=>0
 |i+1=>dot c f i+f i*xFr i
theorem xiP:∀(c:Id) (i:Nat),c.length≤i->xFr i=0
 | [],_,_=>rfl
 |_::_,0,h=>absurd h (Nat.not_le.2 xD4)
 |_::l,i+1,h=>xiP l i (Ln h)
theorem u8 (c)(f g:Cs):∀N,nU j (f j+g j)=xJd+xEO g
 |0=>rfl
 |N+1=>by
  show nU j (f j+g j)+(f N+g N)*xCw=_;rw [u8 c f g N,Ju,Nat.add_add_add_comm];rfl
theorem xo7 (c)(k:Nat)(f:Cs):∀N,nU j (k*f j)=k*xJd
 |0=>rfl
 |N+1=>by
  show nU j (k*f j)+k*f N*xCw=k*(xJd+f N*xCw);rw [xo7 c k f N,JH,HQ]
theorem xlN (c)(k:Nat)(f:Cs):∀N,nU j (f j*k)=xJd*k
 |0=>(KW k).symm
 |N+1=>by
  show nU j (f j*k)+f N*k*xCw=(xJd+f N*xCw)*k;rw [xlN c k f N,Ju,Nat.mul_right_comm]
theorem xox (c):∀N,xEO x0B=0
 |0=>rfl
 |N+1=>by show xEO x0B+0*xCw=0;rw [xox c N,KW]
theorem xob (c)(i):∀N,nU j (EK i j 1 0)=xO3 (i<N) (xFr i)
 |0=>rfl
 |N+1=>by
  show nU j (EK i j 1 0)+(EK i N 1 0)*xCw=_;rw [xob c i N];rcases Mv i N with h|h|h
  ·rw [Qp,FY (Hf h),KW,F8 (J9 h)];rfl
  ·subst h;rw [FY Xa,AD,Nat.one_mul,F8 (HW _),HG]
  ·rw [FY (Nat.lt_asymm h),FY (JB h),KW,FY (xDa h)]
theorem E.sum (c:Id):∀x:E,bz=x.k+xD9 (λ j=>xAX)
 | .v i=>by
  show xFr i=0+xD9 (λ j=>EK i j 1 0);rw [xob,HG];by_cases h:i<c.length
  ·rw [Qp]
  ·rw [Qo,xiP c i (xQq h)]
 | .n k=>by show k=k+xD9 x0B;show Af xox
 | .a x y=>by
  show bz+xAW=x.k+y.k+xD9 (λ j=>xAX+y.p j);rw [xE4 x,xE4 y,u8,Nat.add_add_add_comm]
 | .m k x=>by
  show k*bz=k*x.k+xD9 (λ j=>k*xAX);rw [xE4 x,xo7,JH]
 | .w x k=>by
  show bz*k=x.k*k+xD9 (λ j=>xAX*k);rw [xE4 x,xlN,Ju]
def le (x y:E):x3y
 |0=>Nat.ble x.k y.k
 |i+1=>le x y i&&Nat.ble (x.p i) (y.p i)
theorem xn0 (c)(f g:Cs):∀N,(∀i,i<N->f i≤g i)->xJd≤xEO g
 |0,_=>UV
 |N+1,h=>Fx (xn0 c f g N λ i hi=>h i (J9 hi)) (LO _ (h N (HW N)))
theorem xiE (x y:E):∀N,SB (le x y N)->x.k≤y.k/\∀i,i<N->x.p i≤y.p i
 |0,h=>⟨Lz h,px i hi hi (LV i)⟩
 |N+1,h=>by
  have h:SB (le x y N&&Nat.ble (x.p N) (y.p N)):=h;rw [Kn] at h;show DG h1 h2 (xiE x y N DJ) (Bh h1 i hi);show CM i N q q
  ·exact h2 i q
  ·show LT (xVA hi q) (Lz fG)
theorem E.le (c:Id)(x y:E)(h:xPa x y):bz≤xAW:=by
 rw [xE4 x,xE4 y];show De h1 h2 (xiE x y _ h) (Fx h1 (xn0 c _ _ _ h2))
def by' (c:Id)(l r x y:E)(h:l.d c≤r.d c)(k:xPa (.a x r) (.a y l)):bz≤xAW:=
 Mj (FK (xWc (.a x r) (.a y l) k) (Jl h _))
def xdl (k:Nat)(c:Id)(l r x y:E)(h:l.d c≤r.d c)(q:xPa (xz9 (.m k x) r) (CD k (AJ y) l)):bz≤xAW:=by
 have h2:=Mj (FK (xWc (xz9 (.m k x) r) (CD k (AJ y) l) q) (Jl h _));have h3:k*bz<k*(xAW+1):=h2;exact HI (Nat.lt_of_mul_lt_mul_left h3)
def of0 (c:Id)(x y:E)(k:xPa x y):bz≤xAW:=xWc x y k
def no (c:Id)(l r:E)(h:l.d c≤r.d c)(k:xPa (AJ r) l):False:=
 Xa (GQ h (xWc (AJ r) l k))
def xc0 (a b:Nat):a≤a-b+b:=by
 rcases Mq b a with h|h
 ·show LT (Kt h) UV
 ·exact FK h (MS _ _)
def J' {a b:Nat}(h:xS a):a-b+b≤a:=Fz (Kt h)
def xdp (a k:Nat)(h:SB (Nat.blt 0 k)):a+1≤k*(a/k)+k:=by
 have h1:=IM a k;have h2:=Iw a (Lz h:0<k);rw [<-Nat.succ_eq_add_one,<-h1];show LT h1 (FN (GQ (Fz h1.symm) (Jg h2 _)) UV)
universe NL
def Z9 {p:Prop}(h:p:=by decide):p:=h
def Z8 {p:Prop}(h:p:=by decide+kernel):p:=h
def Z7 {p:Prop}(h:p:=by rfl):p:=h
def Z6 {p:Prop}(h:p:=by simp):p:=h
def Z5 {p:Prop}(h:p:=by lia):p:=h
def Z4 {p:Prop}(h:p:=by omega):p:=h
def xdu {p:Prop}(h:p:=by intro _;rfl):p:=h
def xdv {p:Prop}(h:p:=by first|exact Dm|exact xj|assumption):p:=h
def xdw {p:Prop}(h:p:=by intro _ _ _ _ h;(repeat obtain⟨_,h⟩:=h)<;>subst_vars<;>rfl):p:=h
def xdr {p:Prop}(h:p:=by first|exact Dm|show CU Dm|show CU xj):p:=h
def xk5:=xdr._auto_1
def xdx:=Z7._auto_1
def xdH:=Z9._auto_1
def xk4:=Z8._auto_1
def xdI:=xdu._auto_1
def xdJ:=xdv._auto_1
def xdq:=xdw._auto_1
namespace QQ
open PySem PyProof.Rows
def Cx2 (h:M2)(a:MV)(vs:jd):Prop:=xDU vs 2\/∃b ob us,vs[2]?=TD b/\qZ a/\Tr b ob/\ob.data=xSq/\6≤us.size/\xDU us 2
def xvN (A:M1)(h:M2):Prop:=xZM\/∃a o vs,A.handled=Bm/\xzI=IO/\xHb/\xCr/\Cx2 h a vs
def xvN.keep {A:M1}{h h':M2}(q:xvN A h)(k:∀a o vs,xzI=IO->xHb->xCr->h'.get? a=IO):xvN A h':=by
 rcases q with q|⟨a,o,vs,e,g,d,z,c⟩
 ·show BB q
 ·refine .inr ⟨a,o,vs,e,k a o vs g d z,d,z,?_⟩;rcases c with c|⟨b,ob,us,e1,n,e2,e3,e4,e5⟩
  ·show BB c
  ·show CU ⟨b,ob,us,e1,n,CB us e2 e3 e4,e3,e4,e5⟩
def xmU:SL (entryFor table "proto.unchain") Builtin.«proto.unchain»:=entryFor_of_fast (by kernel_rfl)
def xeC (hq:xvN A h0)(hk:∀b o,h0.get? b=IO->Bc=IO/\wg)(he:wR e oe)(hd:oe.data=xKz)(hz:2<vs.size)
  (h:∀h' o',Ts e o'->o'.cls=oe.cls->xKF e h'->E DZ vE):qk (raiseNew DZ:Sem α):=by
 show Ej raiseNew (wpAny_handled ?_);rcases hq with q|⟨a,o,us,ea,ga,da,zz,za⟩
 ·show LT q (FG (F3 (wpAny_throw (h s.heap oe he rfl (Heap.SameBut.refl ..)))))
 ·rw [ea];show S8 ga nae (hk a o ga) ne (SB (tF !=xZW)) (by simp [bne,nae])
  show qL (E1 (tF !=xZW) _ _) _;rw [F8 ne];have fin:qk (updateField e 2 ω>>= λ _=>throw DZ):=by
   show AR (J4 he hd hz ?_:QD (setField DZ 2 ω));exact wpAny_throw (jv (Jq _ he (KD (JY hd _))) (Obj.cls_mapFields _ _) (KS ..))
  show AR (HR (wpAny_runValue (Lf xmU ?_)));show QD (field ω 2>>=_);rcases za with za|⟨b,ob,vb,eb,nb,gb,db,sz,zb⟩
  ·show xGz ga da za;show gc (x7X) _ _;show xBI Z7 (F3 vD);exact fin
  ·show DG gb nbe (hk b ob gb) (FG (Il ga da eb ?_));have n1:Ρ (xyS b):=rfl;have n2:Ρ (xDF==xZW):=by simp [nbe]
   have n3:Ρ (xDF==tF):=by simp [nb]
   simp only [n1,n2,n3,IJ,K1];show AR (F3 (F3 ⟨Code.quiet_builtin _ Z8,Lf xmU ?_⟩));show QD (field EY 2>>=_);show xGz gb db zb;show gc (x7X) _ _;show xBI Z7 (F3 vD);exact fin
def xmn {prog:MY}(hq:Yu)
  (h:∀h' e,(∀b o,Bc=IO->WE=IO)->(∃o,h'.get? e=IO/\o.cls=xQD)->E' DZ vE):
  xK (newExc xQD []>>= λ v=>(raiseNew v:Sem α)) R E' s:=by
 show AR ?_;simp only [newExc,newTuple];show lG (JC ?_ (by size_fits)) (xZS (by first|rfl|(simp only [firstArgMember];rfl)));refine JC ?_ (by size_fits);have k2:∀b o,Bc=IO->lO ((xKc "tuple" (xKA ([]:B5))).push (xQu "StopIteration" (#[jX,.none,.none,.none,.bool false,.none]++ownMembersOf xQD [])))=IO:=
  λ b o e=>Qz rR
 refine xeC hq (λ b o e=>Fh (k2 b o e)) vq rfl (by show LT Array.size_append (FN (show 2<6 by decide) rQ)) λ h' o' ge ce sb=>?_
 ·intro z;show zc a8 z KM;show AX this (Mw.mpr yu)
 ·refine h h' _ (λ b o e=>xZX o xw (k2 b o e)) ⟨o',ge,ce⟩;show zc a8 z KM;show AX this (Mw.mpr yu)
def xtO {h:M2}(g:h.get? it=IO)(d:xHb)(z:vs.size<6)(g':uK o')(d':o'.data=xSq)(z':6≤us.size):a≠it:=by
 show Zn;show Μ g g' g';show zL d d' d' (WT AV (CF On 6) (U6 6) (Fx z z'))
def xdb {items}(hq:Yu)
  (hit:xYo l i) (hl:xYI l) (hx:WF items[i]?)
  (hQ:∀h',xPO->xNH vE):qk xLh:=by
 show aE o ho hc hd hit;obtain⟨ol,hol,_,nl,hdl⟩:=hl;show Ej pyNext (Kl (xZg Lg (x55 Lg ?_ x4Z)));show nO 0;show oO ho hd;show gc (xyS l) _ _;rw [FY (show¬(SB (xyS l)) from F7)];show nO 1;show oO ho hd;show QD (xEf A8 _);show AR (KN hol hdl ?_);show xVd Gr hx (xVB (J4 ho hd Z6 ?_));have sb1:=xXV (h:=s.heap) it;refine xZY (λ a o' us e d' z'=>xZw o' (xtO ho hd Z6 e d' z') e) (λ h' e k z9=>?_)
 show Bq o' ge ce z9 (FG (xQ6 (Ax ge ce) ?_));exact xN6 _ (λ b ob hb e1=>CB (xZx ob hb e1))
def xff {items}(hq:Yu)
  (hit:s.heap.IsTupleIter it t i) (ht:s.heap.IsTuple t items) (hx:WF items[i]?)
  (hQ:∀h',xPO->xNH vE):qk xLh:=by
 show aE o ho hc hd hit;obtain⟨ol,hol,_,nl,hdl⟩:=ht;show Ej pyNext (Kl (xZg F.slot_tuple_iterator_next (JP F.slot_tuple_iterator_next hit.typeIs F.entry_tuple_iterator_next ?_ (F.args_tuple_iterator_next_1 _))));show nO 0;show oO ho hd;show gc (xyS t) _ _;rw [FY (show¬(SB (xyS t)) from F7)];show nO 1;show oO ho hd;show QD (xEf wG _);show AR (KN hol hdl ?_);show xVd Gr hx (xVB (J4 ho hd Z6 ?_));have sb1:=xXV (h:=s.heap) it;refine xZY (λ a o' us e d' z'=>xZw o' (xtO ho hd Z6 e d' z') e) (λ h' e k z9=>?_)
 show Bq o' ge ce z9 (FG (xQ6 (Ax ge ce) ?_));exact xN6 _ (λ b ob hb e1=>CB (xZx ob hb e1))
def xjp {x left step:Int}(hq:Yu)(hit:xK0 s.heap x left step)(hleft:left≤0)
  (hQ:∀h',xPO->xNH vE):qk xLh:=by
 have hT:s.TypeIs jV "range_iterator":=m7 hit;show Ej pyNext (Kl (IF hT F.slot_range_iterator_next (JP F.slot_range_iterator_next hT F.entry_range_iterator_next ?_ (F.args_range_iterator_next_1 _))));show nO 0;show oO hit rfl;show nO 1;show oO hit rfl;show nO 2;show oO hit rfl;show QD (if left≤0 then _ else _);show xBI hleft (xVB ?_);refine xmn hq λ h' e k z9=>?_
 show Bq o' ge ce z9 (FG (xQ6 (Ax ge ce) ?_));exact xN6 _ (λ b ob hb e1=>CB e1)
def xei (hq:Yu)(ht:xVW t)
  (hQ:∀h',x5w h'->Q items.toList vE):qk (unpackItems wG items.size none):=by
 have nt:xyz t:=by show xO5 o ho ht (Hf (Gk ho))
 show Ej unpackItems ?_;show Ej notIterableAtAll (wpAny_specialOf ht.typeIs slot_tuple_iter.lookup vD);show xVd IJ K1 (HR (iter_tuple ht (xVN (draw_tuple nt items.size 0 _ _ (Wm _ vq) (ht.push _) (RE xAd LE) (τ g1 i1 b1)))));rw [show List.take items.size (List.drop 0 items.toList)=items.toList by show LT Iy xOo,FY Z6];have k1:∀b o,xyz b->Bc=IO->g1.get? b=IO:=λ b o hb e=>b1.extBut b o hb rR
 have q1:xvN A g1:=hq.keep λ a o _ e _ _=>k1 a o xMz e
 have t1:IsTup g1 t items:=(ht.push _).extBut b1.extBut nt;show AR (HR (xff q1 (show g1.IsTupleIter _ t _ from i1) (show g1.IsTuple t items from t1) Z6 (SC g2 x2)));simp only [Option.isSome_none,IJ,K1];exact xN6 g2 (λ b o hb e=>x2 b o hb (k1 b o hb e))
def xdg {x1}(hq:Yu)(ht:xVW t)
  (hn:B4 (x6w env) items.size) (hstar:WF ((x6w env).findIdx? (·.1)))
  (h:∀h',x5w h'->xzw (assignInOrder ((assignEach elts env).map (·.2)) items.toList) vE):
  qk (assign (.Tuple elts x1 pos) env wG):=by
 rw [assign_Tuple];show xRi ?_;unfold unpack;rw [hn,hstar];exact xVN (xei hq ht h)
def exO (cls:MW) (vs:jd):M4:={cls:=cls,data:=xKz}
def xxL (h:M2)(e:MV)(cls:MW)(fp:υ)(c:MW):Prop:=
 ∃vs,Tr e xEY/\(Aq vs 2 c/\xCr)/\((xDU vs 1/\fp=[e])\/
  ∃T oT ts,vs[1]?=TD T/\T≠e/\Tr T oT/\oT.data=x0C/\xDU ts 3/\fp=[e,T])
def xxL.here {h:M2}(F:Rt h e fp c):e∈fp:=by
 obtain⟨vs,_,_,⟨_,r⟩|⟨T,oT,ts,_,_,_,_,_,r⟩⟩:=F<;>simp [r]
def xxL.rec {h:M2}(F:Rt h e fp c):yG (∃o vs,W9=IO/\xHb):=by
 obtain⟨vs,g,z,⟨a,r⟩|⟨T,oT,ts,a,ne,gT,dT,zT,r⟩⟩:=F
 ·intro b hb;rw [r,Ge] at hb;show nP (pE vs g)
 ·intro b hb;rw [r] at hb;show WX hb hb hb
  ·show nP (pE vs g)
  ·rw [Ge] at hb;show nP ⟨oT,ts,gT,dT⟩
def xxL.made {h h':M2}(m:Heap.MadeExcOf h h' e cls args):Rt h' e [e] .none:=by
 show xO5 t ht m.there (vg ht (qN (by show RG (YX 6≤6))) xzz)
def xlY
    (XW:x13 xOh) (hl:xYi xOh) (hf:SL env.frame L)
    (he:wR e xEY) (h1:1<vs.size) (h2:Aq vs 2 c/\xCr)
    (h:∀h' T,Rt h' e [e,T] c->xyA T->(∀b o,s.heap.get? b=some o->b≠e->b∉(env::outer).filterMap (·.frame)->h'.get? b=some o)->
      (∀b o,Bc=IO->wg->∃sl,xDK b o sl)->fP vE):
    xUT (do let a<-frameOf env;let pl<-entryPlaceOf L had;let b<-EntryCells.newEntry head a .none x1f .none pl;setField DZ 1 b) (λ _ s'=>uo x2C s') s:=by
  have ne:e∉(xOh).filterMap (·.frame):=λ hm=>by
    obtain⟨_,o,ho,hnf⟩:=hl.mem hm
    show zL he ho ho (hnf vs rfl)
  show lG (wpAny_frameOf_fun XW hl hf (SC g1 s1)) (wpAny_entryPlaceOf (SC pl OE))
  unfold EntryCells.newEntry newFields
  show AR (JC ?_ (OE.sizeOk5 _ _ _ _ _))
  have hsz:xRj g1.objs.size:=s1.1
  have he1:SL (g1.get? e) xEY:=(A4 s1 e ne).trans he
  generalize hO:({cls:=.type "traceback",dict:=none,data:=.fields (xWa [head,.ref L,.none,x1f,.none] (oP pl.isEmpty (List.replicate 6 Value.none) pl))}:M4)=oT
  have e3:∃ts,oT.data=x0C/\3<ts.size:=Ax (by rw [<-hO]) (by simp only [F1,FD,F2,K6];exact(RE (AJ EZ) (xz9 (xNk (AJ DW)) LE)))
  have hfreed:Ρ oT.isFreed:=by rw [<-hO];rfl
  clear hO
  show Zy ts PU hz3 e3 Ud (wH (g1.push oT) e xEY) (Qz he1)
  have Xj:wH (g1.push oT) g1.objs.size oT:=G1 g1 hfreed
  have hTe:g1.objs.size≠e:=JB (Gk he1)
  refine J4 Ud rfl h1 ?_
  have he3:=Jq (Obj.mapFields (·.setIfInBounds 1 (Value.ref g1.objs.size))) Ud rfl
  have hT3:=(Ij (g1.push oT) (Obj.mapFields (·.setIfInBounds 1 (Value.ref g1.objs.size))) (Kc hTe)).trans Xj
  have he3':wH ((g1.push oT).update e (Obj.mapFields (·.setIfInBounds 1 (Value.ref g1.objs.size)))) e (exO cls (x5z xX8)):=he3
  show Ej setFlight (Il he3' rfl (x:=.ref g1.objs.size) (by simp [h1]) ?_)
  show Η (F8 (xyB (xX8 !=Value.none) (by simp))) (J4 hT3 PU hz3 ?_)
  have keep:∀b o,wg->g1.get? b=IO->lO (((g1.push oT).update e (Obj.mapFields (·.setIfInBounds 1 (Value.ref g1.objs.size)))).update g1.objs.size (Obj.mapFields (·.setIfInBounds 3 ((none:Option MV).elim Value.none λ f=>rawInt f))))=IO:=λ b o hb q=>by
    rw [xWN (JB (Gk q)),xWO]
    exact Xz
  refine vZ g1.objs.size ⟨x5z xX8,?_,?_,.inr ⟨g1.objs.size,_,_,?_,hTe,Jq _ hT3 (KD (JY PU _)),JY PU _,?_,rfl⟩⟩ xZc (λ b o q hb hn=>?_) λ b o q hb=>?_
  · show LT (xWN hTe) he3'
  · rw [Array.getElem?_setIfInBounds_ne (by decide),KZ];exact h2
  · simp [h1]
  · simp [hz3]
  · exact xFP o hb ((A4 s1 b hn).trans q)
  · show yP sl e' (CJ s1 b o q) sl (xFP _ hb e')
def xh8
  (XW:x13 xOh) (hl:xYi xOh) (hf:SL env.frame L) (F:Rt s.heap e fp c)
  (h:∀h' T,Rt h' e [e,T] c->xyA T->(∀b o,s.heap.get? b=some o->b∉fp->b∉(env::outer).filterMap (·.frame)->h'.get? b=some o)->
   (∀b o,Bc=IO->b∉fp->∃sl,xDK b o sl)->(∀b o,Bc=IO->∃o',xHd)->fP vE):
  xUT (noteFrame DZ env) (λ _ s'=>uo x2C s') s:=by
 obtain⟨vs,he,h2,⟨h1,r⟩|⟨T,oT,ts,h1,ne,gT,dT,zT,r⟩⟩:=F
 ·subst r;unfold noteFrame;simp only [hf];show xGz he rfl h1;show xBH Z9 (xlY XW hl hf he (xUB h1) h2 λ h' T' f1 f2 f3 f4=>h h' T' f1 f2 (λ b o q hb hn=>f3 b o q (zS (by show Nn)) hn) (λ b o q hb=>f4 b o q (zS (by show Nn))) (BK b o))
  by_cases hb:b=e
  ·obtain⟨vs',g',_⟩:=f1;show nP (Bt g')
  ·show De sl e' (f4 b o q hb) (Bt e')
 ·subst r;unfold noteFrame;simp only [hf];show xGz he rfl h1;rw [F8 (xyB (Value.ref T !=Value.none) (by simp))];show xGz gT dT zT;show xAv (FY (show¬(SB (Value.none==x1f)) from by simp [rawInt])) (J4 gT dT (xUB zT) ?_);have QY:∀b,qZ T->lO (s.heap.update T (Obj.mapFields (·.setIfInBounds 3 Value.none)))=Bc:=BA xWO
  have gT':=Jq (Obj.mapFields (·.setIfInBounds 3 Value.none)) gT (KD (JY dT _));have nT:∀b o,Bc=IO->(∀us,o.data≠ xSq)->qZ T:=λ b o q nf z=>by
   show B0 gT q q;exact nf ts dT
  have sz:xRj (s.heap.update T (Obj.mapFields (·.setIfInBounds 3 Value.none))).objs.size:=Heap.size_after_update ..;refine xlY XW (hl.of_keeps λ b o q nf=>kq o (xLQ b (nT b o q nf) q)) hf (xLQ e (Kc ne) he) (xUB h1) h2
   λ h' T' f1 f2 f3 f4=>h h' T' f1 (by show ρ sz f2 f2) (λ b o q hb hn=>?_) (λ b o q hb=>?_) (BK b o)
  ·have b1:wg:=zS (by show Nn)
   have b2:qZ T:=zS (by show Nn)
   exact f3 b o (xLQ b b2 q) b1 hn
  ·have b1:wg:=zS (by show Nn)
   have b2:qZ T:=zS (by show Nn)
   exact f4 b o (xLQ b b2 q) b1
  ·by_cases hb:b=e
   ·obtain⟨vs',g',_⟩:=f1;show nP (Bt g')
   ·by_cases hT:b=T
    ·subst hT;show De sl e' (f4 b _ gT' hb) (Bt e')
    ·show De sl e' (f4 b o (xLQ b hT q) hb) (Bt e')
def xe6 (F:Rt s.heap e [e,T] c)
  (h:∀h',Rt h' e [e,T] c->(∀b o,Bc=IO->qZ T->WE=IO)->fP vE):uo x2C s:=by
 obtain⟨vs,he,h2,⟨h1,r⟩|⟨T',oT,ts,h1,ne,gT,dT,zT,r⟩⟩:=F
 ·cases r
 ·cases r;show Ej setFlight (Il he rfl h1 ?_);rw [F8 (xyB (Value.ref T !=Value.none) (by simp))];have z3:=xUB zT;refine J4 gT dT z3 (vZ ⟨vs,?_,h2,.inr ⟨T,_,_,h1,ne,Jq _ gT (KD (JY dT _)),JY dT _,by simp [z3],rfl⟩⟩ λ b o q hb=>?_)
  ·show LT (xWN ne) he
  ·show LT xWO q
universe QQ
namespace L2
open PySem PySem.Spec PyProof.Rows
abbrev Key:=Sum Int Str
def xvP:Key->lD MW
 | .inl k,v=>Value.isInt k v
 | .inr x,v=>Value.isStrOf x v
def xc3 (w:MZ):Key->Int
 | .inl k=>hashInt k
 | .inr x=>hashStr w x
theorem bQ:∀{k} {v},SB (xvP k v)->(∃i t,k=Sum.inl i/\v=xzg i)\/(∃x t,k=Sum.inr x/\v=xLL x)
 | .inl i,v,h=>by
  show De t e (Value.isInt_shape h) (.inl (VT i t e))
 | .inr x,v,h=>by
  show De t e (Value.isStrOf_shape h) (.inr (VT x t e))
def xfN (i)(t):SB (xvP (.inl i) rj):=by simp [xvP,Value.isInt]
def xgm (x)(t):SB (xvP (.inr x) (QW t)):=by simp [xvP,Value.isStrOf]
def xcb (a b):Dy (x1g:Key) x1h=(a==b):=by
 by_cases e:a=b
 ·subst e;simp
 ·have h:¬(x1g:Key)=x1h:=λ q=>e (Sum.inl.inj q)
  show LT (Ik h) (JK.mpr e).symm
def xb9 (a b):Dy (x1i:Key) x1j=Dy a b:=by
 by_cases e:a=b
 ·subst e;simp
 ·have h:¬(x1i:Key)=x1j:=λ q=>e (Sum.inr.inj q)
  rw [Ik h,Ik e]
def xbO (a)(b):Ρ (Dy (x1g:Key) x1j):=Ik (λ q=>nomatch q)
def xbo (a)(b):Ρ (Dy (x1i:Key) x1h):=Ik (λ q=>nomatch q)
def xv3 (prog) (w):PySem.KeyKind prog w Key where
 is:=xvP
 hash:=xc3 w
 inj:=λ v a b ha hb=>by
  show xu8 (bQ ha) i t rfl x t rfl rfl
  ·show xu8 (bQ hb) j u e y u rfl e
   ·show xB6 e e1;rw [e1]
   ·exact xTJ
  ·show xu8 (bQ hb) j u e y u rfl e
   ·exact xTJ
   ·show xB6 e e1;rw [e1]
 byValue:=λ k v h=>by
  rcases bQ h with⟨i,t,rfl,rfl⟩|⟨x,t,rfl,rfl⟩<;>rfl
 pyHash:=λ hv h=>by
  show xu8 (bQ hv) i t rfl x t rfl rfl
  ·exact wpAny_pyHash_int h
  ·exact wpAny_pyHash_str h
 eqBool:=λ hu hv h=>by
  show xu8 (bQ hu) i t rfl x t rfl rfl
  ·show xu8 (bQ hv) j u rfl y u rfl rfl
   ·show ρ xcb h (wpAny_eqBool_int h)
   ·show ρ xbO h (SeqAt.EqAt.int_str i t y u _ _ _ _ h)
  ·show xu8 (bQ hv) j u rfl y u rfl rfl
   ·show ρ xbo h (SeqAt.EqAt.str_int x t j u _ _ _ _ h)
   ·show ρ xb9 h (wpAny_eqBool_str h)
 «strs»:=λ k x t v h=>by
  show xu8 (bQ h) i u e y u rfl e
  ·exact xTJ
  ·show xB6 e e1
   subst e1;cases v<;>rfl
def pp (prog)(w)(i)(t):SB ((xv3 prog w).is (.inl i) rj):=xfN i t
def xeL (prog)(w)(x)(t):SB ((xv3 prog w).is (.inr x) (QW t)):=xgm x t
def RelV:NK V MW
 | .non,u=>u=Value.none
 | .bl b,u=>u=x74
 | .int i,u=>∃t,u=xzg i
 | .str x,u=>∃t,u=xLL x
 | .byt b,u=>∃t,u=x7u t
 | .flt b,u=>∃t,u=x0r b
 | .ref a,u=>u=tF
 | .ty n,u=>u=x75
abbrev Vals:NK NE B5:=Paired RelV
theorem Vals.length (r:qx):xEN us.length:=KH r
theorem Vals.get:∀{xs} {us} {i:Nat} {x},qx->xk->∃u,A7 us u/\Df
 |_,_,_,_,.nil,e=>by simp at e
 |_,_,0,_,.cons r _,e=>by simp at e;show Fs (Υ r)
 |_,_,i+1,x,.cons _ t,e=>by
  show B8 u h1 h2 (Vals.get t (by show xGo)) ⟨u,by show yn,h2⟩
theorem Vals.set (r:Df):∀{xs} {us} i,qx->Vals (xs.set i x) (us.set i u)
 |_,_,_,.nil=>.nil
 |_,_,0,.cons _ t=>.cons r t
 |_,_,i+1,.cons q t=>.cons q (Vals.set r i t)
def Vals.append (h:qx)(s:x3A ws):Vals (xs++ys) (us++ws):=by
 induction h with
 |nil=>exact s
 |cons r _ ih=>exact Qd r
theorem Vals.take (n)(h:qx):Vals (xs.take n) (us.take n):=by
 induction h generalizing n with
 |nil=>cases n<;>exact .nil
 |cons r _ ih=>cases n with
  |zero=>show yQ
  |succ n=>exact .cons r (ih n)
theorem Vals.drop:∀{xs} {us} n,qx->Vals (xs.drop n) (us.drop n)
 |_,_,0,r=>r
 |_,_,_+1,.nil=>.nil
 |_,_,n+1,.cons _ t=>Vals.drop n t
def Ph:NK BV xXL
 |some v,some u=>fZ
 |none,none=>True
 |_,_=>False
def KV:NK rO (yx κ MW):=Paired λ(p:κ×V) (q:κ×MW)=>Ab=C4/\x3G EU
def kV:Key->V
 | .inl i=>Eh
 | .inr x=>QW
inductive HO where
  |lst (xs:NE)
  |tup (xs:NE)
  |dK (Nj:yx Key V)|dT (Nj:xG9)
  |set (S:lD Int) (n:Nat)
  |ins (C dx:MV) (fs:qw)
  |own (x:MV)
  |xd (fs:qw)
  |met (f x:MV)
  |rng (lo hi:Int)
  |frz (o:M4) (u:HO)
  |tbl (ps:jd)
  |ext (φ:ZU M2)
abbrev Hp:=MV->Option HO
def upd (H:Hp) (a:MV) (o:HO):Hp:=λ b=>EK b a IO E5
def ad {H:Hp}:iO a=IO:=by show CS upd AD
def ai {H:Hp}(h:qZ a):iO b=E5:=by show CS upd Qo
def d9 {H:Hp}{a:MV}{o u:HO}:upd iO a u=xAe u:=by
 funext b;unfold upd;split<;>rfl
def aF {H:Hp}(h:XL=IO)(h':xJf)(d:o≠u):a≠b:=by
 intro e;subst e;show ρ h h' (d (Gg h'))
def ae {H:Hp}(h:XL=IO)(h':Ee):a≠b:=by
 intro e;show D5 e h h' h'
section
variable (P:MY)(w:MZ)
def xwI (H:Hp)(h:M2)(a:MV):ZU HO
 | .lst xs=>kP/\∃its n,O7/\uK xAi
 | .tup xs=>kP/\∃its,O7/\IsTup h a its.toArray
 | .dK Nj=>xyW/\xCQ/\∃vs,rM/\x0D P w a vs
 | .dT Nj=>xyW/\xCQ/\∃xs,
   Paired (λ p q=>Ab=C4/\Fm (H (A4 q)) (xNW Ab)/\x3G (CJ q)) Nj xs/\
   ∃o es ep,xzI=IO/\o.ExactDict/\xAj (xVC es)/\es.toList=xs.map (entryOfKey (xK3 P w))/\(xs.map (·.1)).Nodup
 | .set S n=>h.SetOf (intKind P w) a S n
 | .ins C dx fs=>OA dx a/\x8B/\dx≠a/\uK x2O/\
   ∃mA,xVD dx/\(∀f,Ph xK4 (mA f))/\x5L
 | .own _=>∃o,xzI=IO
 | .xd fs=>∃mA,xVD a/\∀f,Ph xK4 (mA f)
 | .rng lo hi=>∃t u v,uK (xL3 #[xGM,xI0,xJc])
 | .frz o u=>xzI=IO/\xwI H h a u
 | .tbl ps=>uK (xZu .none ps)
 | .met f x=>uK (xZL Cw)
 | .ext φ=>φ h/\(∃o,xzI=IO)/\∀h1 h2,φ h1->(∀o,h1.get? a=IO->h2.get? a=IO)->φ h2
def O6 (H:Hp)(h:M2):Prop:=∀a o,XL=IO->BY o
universe s
section
variable {P:MY}{w:MZ}{H H':Hp}{h h':M2}{a:MV}{o:HO}
theorem xwI.lt (x:BY o):x1X a:=by
 cases o with
 |lst xs=>show xK1 e x a8
 |tup xs=>show iN p x p.lt
 |dK Nj=>show xQS e x;exact a8
 |dT Nj=>show xQS e x;exact a8
 |set S n=>obtain⟨o,_,_,_,e,_⟩:=x;exact a8
 |ins C dx fs=>show xRX e x a8
 |own y=>obtain⟨_,e⟩:=x;exact a8
 |xd fs=>show x64 x;exact a8
 |rng lo hi=>show iN e x a8
 |frz ob u=>obtain⟨e,_⟩:=x;exact a8
 |tbl ps=>exact Gk (xXc _ x)
 |met f y=>exact Gk (xXc _ x)
 |ext φ=>obtain⟨_,⟨_,e⟩,_⟩:=x;exact a8
def Paired.mapP {l₁:DU}{l₂:x3h}(h:Paired F l₁ l₂)(f:∀a b,F a b->G a b):Paired G l₁ l₂:=by
 induction h with
 |nil=>show yQ
 |cons r _ ih=>exact Qd (f _ _ r)
def xwI.stay (x:BY o)(k:∀b u,(b=a\/OA b a)->xCW->Cb)
  (ho:∀b,OA b a->O3 (.own a)) (ht:∀b xs,xHM xs->x8 yC):xEQ H' h' a o:=by
 induction o with
 |lst xs=>show Cc z its n r e x ⟨z,its,n,r,uD⟩
 |tup xs=>show gq z its r ob e c x ⟨z,its,r,ob,uD,c⟩
 |dK Nj=>obtain⟨z,y,vs,r,ob,es,ep,e,c⟩:=x;exact⟨z,y,vs,r,ob,es,ep,uD,c⟩
 |dT Nj=>
  obtain⟨z,y,xs,r,ob,es,ep,e,c⟩:=x;exact⟨z,y,xs,x7v λ p q z=>⟨i6,ht _ _ (A4 z),CJ z⟩,ob,es,ep,uD,c⟩
 |set S n=>show gq ob es ep t e c x ⟨ob,es,ep,t,uD,c⟩
 |ins C dx fs=>
  obtain⟨d,z,ne,e,mA,⟨od,es,ep,e2,c⟩,r⟩:=x;exact⟨ho _ d,z,ne,uD,mA,⟨od,es,ep,zf (.inr d) e2,c⟩,r⟩
 |own y=>show yP ob e x ob uD
 |xd fs=>obtain⟨mA,⟨od,es,ep,e,c⟩,r⟩:=x;exact⟨mA,⟨od,es,ep,uD,c⟩,r⟩
 |rng lo hi=>show Bj t u v e x ⟨t,u,v,uD⟩
 |frz ob u ih=>show yP e q x uD (ih q)
 |tbl ps=>
  have e:uK (xZu .none ps):=x;show Ts a (xZu .none ps);exact k a _ Dm e
 |met f y=>
  have e:uK (xZL (.ref y)):=x;show Ts a (xZL (.ref y));exact k a _ Dm e
 |ext φ=>obtain⟨p,⟨o,e⟩,st⟩:=x;exact⟨xT p λ o q=>zf Dm q,xHy uD,st⟩
theorem O6.lt (x:RK)(e:XL=IO):x1X a:=(x a o e).lt
def O6.fresh (x:RK)(e:x0s a):xIy:=by
 cases q:XL with
 |none=>rfl
 |some u=>show AX (FN (x.lt q) e) Xa
def O6.kept (x:RK)(k:∀b u,xCW->Cb):aP H h':=λ a o e=>
 (x a o e).stay (λ b u _ q=>xCu q) xPW aQ
def O6.laid (x:RK)(k:∀b u,xCW->Cb)(hp:x0s a)(new:xEQ iO h' a o):aP iO h':=λ b u e=>by
 have hn:=x.fresh hp;by_cases hb:b=a
 ·show D5 hb ad e e;exact new
 ·show ρ zZ e ((x b u e).stay (λ c v _ q=>k c v q) (λ c q=>by show Ez q hn q) λ c xs q=>by show Ez q hn q)
universe s
def xjL (H:Hp)(a:MV)(u:HO):Prop:=uT u\/∃o,uT Y0
def xjL.ok {P:MY}(r:P4 u)(x:RK):BY u:=by
 rcases r with r|⟨o,r⟩
 ·exact x a u r
 ·obtain⟨_,q⟩:=x a _ r;exact q
def Mut:ZU (Option HO)
 |some (.lst _)=>True
 |some (.dK _)=>True
 |some (.dT _)=>True
 |some (.set _ _)=>True
 |some (.ins _ _ _)=>True
 |some (.ext _)=>True
 |_=>False
section
variable {P:MY}{w:MZ}{H:Hp}{h h':M2}{x e:MV}{o':HO}
def O6.write (ok:RK)(mu:Mut BM)(he:e=x\/OA e x)(k:∀b u,wg->xCW->Cb)(heo:∃u,Ts e u)
  (new:xEQ (wJ x o') h' x o'):aP (wJ x o') h':=λ b u q=>by
 have nown:∀c y,OA c y->EC x:=λ c y r z=>by subst z;show ρ r mu mu
 have ntup:∀c xs,x8 W1->EC x:=λ c xs r z=>by subst z;show ρ r mu mu
 by_cases hb:b=x
 ·show D5 hb ad q q;exact new
 ·rw [zZ] at q;by_cases Ug:b=e
  ·have q':OA b x:=by
    show Ed he
    ·show AX (Ug.trans z) hb
    ·show LT Ug z
   show Μ q q' q';show yP v hv heo v (by show LT Ug hv)
  ·refine(ok b u q).stay (λ c v hc r=>k c v ?_ r) (λ c r=>by show XV (nown c b r) r) λ c xs r=>by show XV (ntup c xs r) r
   show mx hc hc
   ·exact Ug
   ·show Zn;show Ed he
    ·exact nown c b hc z
    ·show zL hc z z (hb rfl)
universe s
structure Un (fs ex:υ)(H H':Hp)(h h':M2):Prop where
 keep:∀b o,W9=IO->Ee->b∉fs->xPm->WE=IO
 slot:∀b o,W9=IO->Ee->b∈fs->xPm->∃sl,xDK b o sl
 free:∀b o,W9=IO->Ee->xPm->Oo
 there:∀b o,W9=IO->xPm->∃o',xHd
 tups:∀b xs,xHM xs->x8 yC
 frzs:∀b o u,ke Y0->O3 Y0
 tbls:∀b ps,ke jg->∃more,O3 xOi
section
variable {fs fs' ex ex':υ}{H H1 H2:Hp}{h h1 h2 h':M2}{a x e:MV}{o:HO}
def Un.any (u:xPL H H1 h h1)(q:Tr b ob)(n:Ee)(hx:xPm):∃sl,SL (h1.get? b) {ob with slots:=sl}:=by
 by_cases hb:b∈fs
 ·exact u.slot b ob q n hb hx
 ·show A5 ob.slots (x2c ob q n hb hx)
def Un.kept (k:∀b u,xCW->Cb):xPL H H h h':=
 ⟨λ b ob q _ _ _=>CB q,λ b ob q _ _ _=>⟨ob.slots,CB q⟩,λ _ _ _ n _=>n,λ b ob q _=>⟨ob,CB q⟩,aQ,λ _ _ _ q=>q,λ _ ps q=>xGf (by show CR q)⟩
def Un.refl:xPL H H h h:=Un.kept aQ
def Un.laid (k:∀b u,xCW->Cb)(hp:x0s a)(hn:xIy):xPL H iO h h' where
 keep:=λ b u q _ _ _=>xCu q
 slot:=λ b u q _ _ _=>⟨u.slots,xCu q⟩
 free:=λ b u q n _=>by show XV (gH (Gk q) hp) n
 there:=λ b u q _=>⟨u,xCu q⟩
 tups:=λ b xs q=>by show Ez q hn q
 frzs:=λ b u xs q=>by show Ez q hn q
 tbls:=λ b ps q=>xGf (by rw [Tt q hn,q];simp)
def Un.write (mu:Mut BM)(he:e=x\/OA e x)(k:∀b u,wg->xCW->Cb)(heo:∃u,Ts e u):xPL H (wJ x o) h h':=by
 have hx:∀b,Ee->qZ x:=λ b n z=>by subst z;show ρ n mu mu
 have hb:∀b,Ee->wg:=λ b n z=>by
  subst z;rcases he with r|r
  ·exact hx b n r
  ·show Μ n r r
 have hm:∀b u,xJf->¬Mut (some u)->qZ x:=λ b u q nm z=>by subst z;show ρ q mu (nm mu)
 refine⟨λ b u q n _ _=>xCu (zP n) q,λ b u q n _ _=>⟨u.slots,xCu (zP n) q⟩,λ b u q n _=>by show XV (hx b n) n,λ b u q _=>?_,
  λ b xs q=>by show XV (hm b _ q (Re z)) q,λ b u xs q=>by show XV (hm b _ q (Re z)) q,λ b ps q=>xGf (by rw [ai (hm b _ q (Re z)),q];simp)⟩
 by_cases Ug:b=e
 ·show DI Ug heo
 ·show A5 u (xCu Ug q)
universe s
def trk (h:M2) (H:Hp):υ:=xDe h.objs.size (λ a=>(XL).isSome)
def hidT (h:M2)(H:Hp):M2:=PySem.W.hideAll h (trk h H)
def xgv (h)(H:Hp):(xWd).objs.size=h.objs.size:=PySem.W.hideAll_size _ _
def xgY (e:W9=IO)(n:Ee):lO xWd=IO:=
 PySem.W.hideAll_get _ e λ hm=>by
  have q:mr E5:=(IW.mp hm).2;rw [n] at q;simp at q
def xa0 (e:lO xWd=IO):W9=IO/\Ee:=by
 have e':W9=IO:=PySem.W.of_hideAll (trk h H) e;refine Fh e';cases q:E5 with
 |none=>rfl
 |some x=>
  have hm:b∈trk h H:=IW.mpr ⟨Kr.mpr (Gk e'),by simp [q]⟩;have z:WF (lO xWd):=PySem.W.hideAll_none (trk h H) hm;show kD z
structure Mod (K:Frag)(mg:Β)(base:M2):Prop where
 kin:x1k
 glob:xOW
 blt:∃mb,base.Ns builtinsNs mb/\∀x:Str,xGg->mb x=x7p
 nolimit:base.NoLimit
structure Cx where
 prog:MY
 w:MZ
 K:Frag
 mg:Β
 base:M2
 A:M1
 N:An
 s₀:MX
 H₀:Hp
 env:Env
 outer:w4
 stack:w4
 ex:υ
 fn:lD Str
 calm:Bool
 pn:χ
 xe:AB
def BkH (H:Hp)(a:MV)(c:MW):Prop:=c=.none\/∃b ob us,c=EY/\qZ a/\ke (ET ob b)/\ob.data=xSq/\6≤us.size/\xDU us 2
def xqw (A:M1)(H:Hp):Prop:=xZM\/∃a o vs c,A.handled=Bm/\uT (ET o a)/\xHb/\(Aq vs 2 c/\xCr)/\xf H a
def frs (l:w4):υ:=l.filterMap (·.frame)
abbrev Cx.fs (X:Cx):υ:=frs X.outer
def Vis (sc:Scope)(x:Str):Prop:=xKn x .local\/xVO x\/xKn x .free
def Loc (sc:Scope)(x:Str):Prop:=xKn x .local\/xVO x
def xcu (env:Env)(h:M2)(m:Β)(x:Str)(u:MW):Prop:=
 (SL xZy .local/\UI (m x))\/((xVY xZy\/SL xZy .free)/\∃c,SL (env.cells.lookup x) c/\h.IsCell c (some u))
structure Cx.Ok (X:Cx):Prop where
 mod:Mod X.K X.mg X.base
 kind:xYa X.env.scope.kind
 glob:X.env.globals=mainGlobals
 blt:X.env.builtins=builtinsNs
 above:fq X.env.locals
 inj:∀x y c,PX->xXM y c->x=y
 has:∀x,(xRh x .cell\/xRh x .free)->∃c,PX
 cab:∀x c,xIV->PX->fq c
 hd:xqw X.A X.H₀
 frames:SL X.A.frames X.stack
 stk:X.stack=X.outer\/(X.stack=xNb/\xRr)
 exf:lH X.ex (wz/\∀x c,PX->RU)
 bs:∀b o,xDC=IO->WQ=IO/\WF x2d
 bsz:X.base.objs.size≤X.s₀.heap.objs.size
 noex:∀b o,xDC=IO->xM7
 exfs:lH X.ex xEZ
 funs:x4D X.outer
 frf:lH X.fs (WF x2d)
structure Inv (X:Cx)(M6:χ)(σ:xVa)(H:Hp)(s:MX):Prop where
 ok:X.Ok
 os:s.os=X.s₀.os
 bare:x65
 base:Un X.fs X.ex X.H₀ H X.s₀.heap s.heap
 loc:∃m,xYd m/\pk i x Str v V (xz5->A7 σ wA->xRd x->∃u,fZ/\xcu X.env s.heap m x u)
 cell:∀x c,PX->∃v,xYQ v
 free:A1 X.env.locals
 freeC:∀x c,PX->UU
 pin:oE Yy (wR Ab zO/\A1 Ab/\xKe Ab/\Ab∉X.fs/\∀v,(zO).data≠ xz1)
 hok:xZd H s.heap
 len:σ.length=X.N.length
section
variable {X:Cx}{M6:χ}{σ:xVa}{H H':Hp}{s:MX}{h':M2}
def Cx.Ok.nofr (ok:X.Ok){b:MV}{o:M4}(e:xDC=IO):xEZ:=λ hb=>by
 have:=(ok.funs.mem hb).1;show vR this this
theorem Inv.bs (I:ST):∀b o,xDC=IO->Bc=IO/\Ee:=λ b o e=>
 ⟨xII xWy.1 xWy.2 (I.ok.nofr e) (xZZ o e),xKq o xWy.1 xWy.2 (xZZ o e)⟩
def Inv.bk (I:ST):∀b o,xDC=IO->Bc=IO:=λ b o e=>(I.bs b o e).1
theorem Inv.mod (I:ST):Mod X.K X.mg X.base:=I.ok.mod
def BkH.keep {H H':Hp}{c:MW}(h:xf H a)(k:∀b o u,ke Y0->O3 Y0):xf H' a:=by
 rcases h with h|⟨b,ob,us,e,n,g,r⟩
 ·show BB h
 ·show CU ⟨b,ob,us,e,n,zf _ g,r⟩
def Inv.qt (I:ST):xqw X.A H:=by
 rcases I.ok.hd with q|⟨a,o,vs,c,e,f,d,z,b⟩
 ·show BB q
 ·show CU ⟨a,o,vs,c,e,x7w _ _ f,d,z,b.keep I.base.frzs⟩
def Inv.hq (I:ST):QQ.xvN X.A s.heap:=by
 rcases I.qt with q|⟨a,o,vs,c,e,f,d,z,b⟩
 ·show BB q
 ·obtain⟨g,_⟩:=qK a f;refine .inr ⟨a,o,vs,e,g,d,CE,?_⟩;rcases b with b|⟨b,ob,us,e1,n,f1,r⟩
  ·show BB ((i6).trans (xyP b))
  ·obtain⟨g1,_⟩:=qK b f1;show CU ⟨b,ob,us,(i6).trans (xyP e1),n,g1,r⟩
def Inv.kIn (I:ST):X.K.In s.heap:=I.ok.mod.kin.keeps I.bk
theorem Inv.lt (I:ST):xuC X.env.locals:=let⟨_,hn,_⟩:=I.loc;hn.lt
def Inv.sz (I:ST):fq s.heap.objs.size:=xOm I.ok.above I.lt
def Inv.nofs (I:ST){a:MV}(h:xyA a):a∉X.fs:=λ hb=>by
 show xQN o ho hb;show AX (xVT ho (FK I.sz h)) Xa
def Inv.cne (I:ST):∀x c,PX->xKe c:=λ x c e z=>by
 obtain⟨v,o,ho,hd⟩:=xGe;obtain⟨m,⟨o',es,ep,Yf,hd',_⟩,_⟩:=I.loc;show B0 Yf ho ho;show Μ hd' hd hd
theorem Inv.funs (I:ST):xYb X.outer:=by
 have all:∀(l:w4),(lH (frs l) (xGB b))->x4D l->xYb l:=by
  intro l
  induction l with
  |nil=>intro _ _;trivial
  |cons env r ih=>
   intro hs hl;obtain⟨hk,⟨L,o,hf,hn,ho,hd⟩,hr⟩:=hl;have hL:xGB L:=hs L (by unfold frs;rw [L6,hf];exact Gb);show De sl e (xyU L ho (I.ok.frf L hL) hL (Re (I.ok.exfs L z hL))) ⟨hk,⟨L,_,hf,hn,e,hd⟩,ih (BA (hs b (by unfold frs;rw [L6,hf];exact xM3))) hr⟩
 exact all X.outer (λ _ hb=>hb) I.ok.funs
theorem Inv.stack (I:ST):xYb X.stack:=by
 rcases I.ok.stk with e|⟨e,hf⟩
 ·show vU I.funs
 ·rw [e];obtain⟨m,hn,_⟩:=I.loc;refine .cons (by show oN I.ok.kind) hf hn ?_ I.funs;exact Heap.get?_none_of_le (xRY I.ok.above)
def Inv.stkSub (I:ST):lH xRD (b∈X.env.locals::X.fs):=BA (by
 rcases I.ok.stk with e|⟨e,hf⟩
 ·show ρ e hb xM3
 ·rw [e] at hb;unfold frs at hb;rw [L6,hf] at hb;exact hb)
def Inv.stkFree (I:ST):lH xRD Ee:=BA (by
 show WX (xSr hb) e hb
 ·show vU I.free
 ·show xQN o ho hb;exact xKq o ho (I.ok.frf b hb) (Re (I.ok.exfs b z hb)))
def Inv.step {g':xY2}{t':Nat}{d':Drawn}{ch:υ}(I:ST)
  (Vn:lH ch ((xJt\/fq b)/\wz/\(∀x c,PX->RU)/\Sx))
  (keep:∀b o,wz->xEZ->eI->Bc=IO->Ee->WE=IO)
  (slot:∀b o,wz->xGB b->eI->Bc=IO->Ee->∃sl,xDK b o sl) (free:∀b o,eI->Bc=IO->Ee->Oo)
  (there:∀b o,eI->Bc=IO->∃o',xHd)
  (tups:∀b xs,xHM xs->x8 yC) (frzs:∀b o u,ke Y0->O3 Y0) (tbls:∀b ps,ke jg->∃more,O3 xOi)
  (ns:∀m,xYd m->x5A m) (hok:xPs h') (hg:x0E):
  xYm s h' g' d' t':=by
 have neL:∀b o,WQ=IO->wz:=λ b o e=>xNt
 have neC:∀b o,WQ=IO->xM7->eI:=λ b o e hx hb=>by
  show Ed (Vn b hb).1
  ·exact hx z
  ·show AX (FN a8 z) Xa
 have cellK:∀x c,PX->∀v,xYQ v->h'.IsCell c v:=λ x c e v ⟨o,ho,hd⟩=>by
  have Yb:c∉ch:=Re (A4 xWR.2 x c e rfl)
  by_cases hc:xGB c
  ·show De sl q (slot c o (xUV c e) hc Yb ho xGd) (Ax q hd)
  ·exact rH (keep c o (xUV c e) hc Yb ho xGd) hd
 refine⟨I.ok,I.os,hg,⟨λ b o e n hb hx=>?_,λ b o e n hb hx=>?_,λ b o e n hx=>?_,λ b o e hx=>?_,λ b xs e=>tups b xs (xDD b e),λ b o xs e=>frzs b o xs (xRu o xs e),Fw b ps⟩,?_,Fw x c,?_,Fw x c,Zc,hok,I.len⟩
 ·exact xFP o (neL b o e) hb VL (xII e n hb hx) xJ1
 ·show CQ sl e1 (xyU b e n hb hx) sl' e2 (slot b _ (neL b o e) hb VL e1 xJ1);show A5 sl' e2
 ·show De o' e1 xHT (free b o' VL e1 xJ1)
 ·show De o' e1 xHT (there b o' VL e1)
 ·show CQ m1 e1 (xDE b e) m2 e2 (tbls b _ e1);show A5 (m1++m2) (by rw [e2,Array.append_assoc])
 ·show Bq m hn hl I.loc ⟨m,ns m hn,λ i x v e1 e2 e3=>?_⟩;show Bq u r l (tM x v e1 e2 e3) (AG u r);rcases l with l|⟨k,c,e,z⟩
  ·show BB l
  ·show CU ⟨k,c,e,xUW c e _ z⟩
 ·show yP v z xGe v (xUW c e v z)
 ·show xYM m o ho;exact free _ o (Re (A4 (Vn _ z) rfl)) ho I.free
 ·show Bj v o ho hd xGe (free c o (Re (A4 xWR.2 x c e rfl)) ho xGd)
 ·obtain⟨e,n,ne,nf,d⟩:=xAa;have Yb:Ab∉ch:=Re (xSp (Vn Ab z) p hp rfl)
  exact⟨keep Ab zO ne nf Yb e n,free Ab zO Yb e n,ne,nf,d⟩
def Inv.step0 {g':xY2}{t':Nat}{d':Drawn}{ch:υ}(I:ST)
  (Vn:lH ch ((xJt\/WF WQ)/\wz/\(∀x c,PX->RU)/\Sx))
  (keep:∀b o,wz->xEZ->eI->Bc=IO->Ee->WE=IO)
  (slot:∀b o,wz->xGB b->eI->Bc=IO->Ee->∃sl,xDK b o sl) (free:∀b o,eI->Bc=IO->Ee->Oo)
  (there:∀b o,eI->Bc=IO->∃o',xHd)
  (tups:∀b xs,xHM xs->x8 yC) (frzs:∀b o u,ke Y0->O3 Y0) (tbls:∀b ps,ke jg->∃more,O3 xOi)
  (ns:∀m,xYd m->x5A m) (hok:xPs h') (hg:x0E):
  xYm s h' g' d' t':=by
 have neL:∀b o,WQ=IO->wz:=λ b o e=>xNt
 have neC:∀b o,WQ=IO->xM7->eI:=λ b o e hx hb=>by
  show Ed (Vn b hb).1
  ·exact hx z
  ·show vR z z
 have cellK:∀x c,PX->∀v,xYQ v->h'.IsCell c v:=λ x c e v ⟨o,ho,hd⟩=>by
  have Yb:c∉ch:=Re (A4 xWR.2 x c e rfl)
  by_cases hc:xGB c
  ·show De sl q (slot c o (xUV c e) hc Yb ho xGd) (Ax q hd)
  ·exact rH (keep c o (xUV c e) hc Yb ho xGd) hd
 refine⟨I.ok,I.os,hg,⟨λ b o e n hb hx=>?_,λ b o e n hb hx=>?_,λ b o e n hx=>?_,λ b o e hx=>?_,λ b xs e=>tups b xs (xDD b e),λ b o xs e=>frzs b o xs (xRu o xs e),Fw b ps⟩,?_,Fw x c,?_,Fw x c,Zc,hok,I.len⟩
 ·exact xFP o (neL b o e) hb VL (xII e n hb hx) xJ1
 ·show CQ sl e1 (xyU b e n hb hx) sl' e2 (slot b _ (neL b o e) hb VL e1 xJ1);show A5 sl' e2
 ·show De o' e1 xHT (free b o' VL e1 xJ1)
 ·show De o' e1 xHT (there b o' VL e1)
 ·show CQ m1 e1 (xDE b e) m2 e2 (tbls b _ e1);show A5 (m1++m2) (by rw [e2,Array.append_assoc])
 ·show Bq m hn hl I.loc ⟨m,ns m hn,λ i x v e1 e2 e3=>?_⟩;show Bq u r l (tM x v e1 e2 e3) (AG u r);rcases l with l|⟨k,c,e,z⟩
  ·show BB l
  ·show CU ⟨k,c,e,xUW c e _ z⟩
 ·show yP v z xGe v (xUW c e v z)
 ·show xYM m o ho;exact free _ o (Re (A4 (Vn _ z) rfl)) ho I.free
 ·show Bj v o ho hd xGe (free c o (Re (A4 xWR.2 x c e rfl)) ho xGd)
 ·obtain⟨e,n,ne,nf,d⟩:=xAa;have Yb:Ab∉ch:=Re (xSp (Vn Ab z) p hp rfl)
  exact⟨keep Ab zO ne nf Yb e n,free Ab zO Yb e n,ne,nf,d⟩
def Inv.un {t':Nat}(I:ST)(u:Un X.fs [] H H' s.heap h')(hok:xPs h'):jN TZ:=by
 obtain⟨m,⟨o,es,ep,ho,r⟩,_⟩:=x2e;show De sl hL (u.any ho I.free Z6) (I.step (g':=s.gens) (d':=s.drawn) (ch:=[]) (jJ z z) (λ b o _ hb _ e n=>x2c o e n hb Z6) (λ b o _ hb _ e n=>u.slot b o e n hb Z6) (λ b o _ e n=>u.free b o e n Z6) (λ b o _ e=>u.there b o e Z6) u.tups u.frzs u.tbls (λ m' hm=>by
  obtain⟨o',es',ep',Yf,r'⟩:=hm;show zL ho Yf Yf (iH es' ep' hL r')) hok I.bare)
def Inv.call {g':xY2}{t':Nat}{d':Drawn}(I:ST)(u:Un xRD ch H H' s.heap h')(hok:xPs h')(hg:x0E)
  (Vn:lH ch ((xJt\/fq b)/\wz/\(∀x c,PX->RU)/\Sx)):
  xYm s h' g' d' t':=by
 obtain⟨m,⟨o,es,ep,ho,r⟩,_⟩:=x2e;show De sl hL (u.any ho I.free (Re (A4 (Vn _ z) rfl))) (I.step Vn (λ b o hL hb hc e n=>x2c o e n (Re ((F9.mp (xSr z)).elim hL hb)) hc) (λ b o _ _ hc e n=>u.any e n hc) (λ b o hc e n=>u.free b o e n hc) (λ b o hc e=>u.there b o e hc) u.tups u.frzs u.tbls (λ m' hm=>by
  obtain⟨o',es',ep',Yf,r'⟩:=hm;show zL ho Yf Yf (iH es' ep' hL r')) hok hg)
def Inv.turned {t':Nat}{it:MV}(I:ST)(k:∀b o,qZ it->Bc=IO->WE=IO)(hn:A1 it)(hL:xKe it)
  (h1:it∈X.ex\/fq it) (h2:∀x c,PX->EC it) (h3:oE Yy (Ab≠it)):xG TZ:=by
 have nit:∀b u,xJf->qZ it:=λ b u e z=>by show B0 hn e e
 refine I.step (g':=s.gens) (ch:=[it]) rK (λ b o _ _ hc e _=>Vs (Re (hc (by show Nn))) e) (λ b o _ _ hc e _=>xLM (Vs (Re (hc (by show Nn))) e)) (λ _ _ _ _ n=>n)
  (λ b o hc e=>xHy (Vs (Re (hc (by show Nn))) e)) (λ _ _ e=>e) xVx (λ b ps e=>xGf (by show CR e)) (SC m hm) (Fw b u) I.bare
 ·have e:b=it:=by show lz
  show Fs ⟨h1,hL,h2,h3⟩
 ·show Cc o es ep ho r hm ⟨o,es,ep,iE o (Kc hL) ho,r⟩
 ·refine xy3 b u e (λ c v hc q=>k c v ?_ q) xPW aQ
  show Ed hc
  ·show LT z (nit b u e)
  ·exact nit c _ z
def Inv.tok (I:ST)(t:Nat):xG (xYl t):=I.un (h':=s.heap) (t':=t) Un.refl I.hok
theorem Inv.kept {t':Nat}(I:ST)(k:∀b u,UI Bc->Cb):xG TZ:=I.un (Un.kept k) (I.hok.kept k)
theorem Inv.laid {a:MV}{o:HO}{t':Nat}(I:ST)(k:∀b u,UI Bc->Cb)(hp:xyA a)(new:xEj iO h' a o):
  lu iO TZ:=I.un (Un.laid k hp (I.hok.fresh hp)) (I.hok.laid k hp new)
theorem Inv.write {x e:MV}{o:HO}{t':Nat}(I:ST)(mu:Mut BM)(he:e=x\/OA e x)(k:∀b u,wg->UI Bc->Cb)(heo:∃u,Ts e u)
  (new:xEj (wJ x o) h' x o):lu (wJ x o) TZ:=I.un (Un.write mu he k heo) (I.hok.write mu he k heo new)
def Inv.pins_of {N4:χ}(I:ST)(h:oE N4 (wR Ab zO/\A1 Ab/\xKe Ab/\Ab∉X.fs/\∀v,(zO).data≠ xz1)):xCH H s:=
 ⟨I.ok,I.os,I.bare,I.base,I.loc,I.cell,I.free,I.freeC,λ p hp=>kb hp (Re (xyV (fu z))) (h p),I.hok,I.len⟩
def xpp {N:An}(hN:N.Nodup){i j:Nat}(a:vw N)(b:yO N x):i=j:=by
 show CQ h1 e1 (FR.mp a) h2 e2 (FR.mp b);exact(List.getElem_inj hN).mp (e1.trans e2.symm)
def xlS {M:Model}{A:M1}(I:ST)(hN:X.N.Nodup)(hi:xz5)(hx:xDp x)(r:fZ)
  (h:∀s',eu xUa H s'->(∃a,xKF a s'.heap/\(a=X.env.locals\/xXM x a))->xPl) (hf:xu0 (xIV\/xIQ)):uo (x6x x u) s:=by
 show Zy m hn hl x2e YO (Ρ (xQ7 .class||(xQ7 .module&&X.env.locals !=X.env.globals))) (by show Af I.ok.kind)
 have hiσ:i<σ.length:=by show LT I.len (Fg hi)
 have cne:=I.cne;have tracked:∀{a} {h'},(∃o,s.heap.get? a=IO/\xIy)->xKF a h'->xZd H h':=λ {a h'} ha hs b ob e=>by
  show xyR OU ha (xy3 b ob e (λ c w' hc q=>vL hs c ?_ q) xPW aQ)
  show Zn;show mx hc hc
  ·show kD OU
  ·show Μ OU hc hc
 rcases hx with hk|hk
 ·refine wpAny_storeName_local hk hn (dC hn' hs) YO;obtain⟨oL,_,_,hoL,_⟩:=id hn;refine vZ ⟨I.ok,I.os,I.bare,⟨λ b o e n hb hx=>?_,λ b o e n hb hx=>?_,I.base.free,λ b o e hx=>?_,I.base.tups,I.base.frzs,I.base.tbls⟩,Ax hn' (λ j y v' e1 e2 e3=>?_),Fw y c,I.free,I.freeC,Zc,tracked ⟨oL,hoL,I.free⟩ hs,by show x3i⟩ (Ax hs Dm)
  ·exact xB2 xNt (xII e n hb hx)
  ·show yP sl e1 (xyU b e n hb hx) sl (xB2 xNt e1)
  ·show yP o' e1 xHT o' (xB2 xNt e1)
  ·by_cases hj:j=i
   ·show D5 hj hi e1 e1;show zL xUX e2 e2 ⟨u,r,.inl ⟨hk,Z6⟩⟩
   ·rw [xXg] at e2;show Bq u' r' q (hl j y v' e1 e2 e3) (AG u' r');rcases q with⟨k,e⟩|⟨k,c,e,z⟩
    ·refine x25 k;have:y≠x:=λ e=>hj (xpp hN e1 (e▸hi))
     simp [this,e]
    ·show CU ⟨k,c,e,x76 (cne y c e)⟩
  ·show yP w' z (I.cell y c e) w' (x76 (cne y c e))
  ·show Cc e n ne nf d xAa ⟨vL hs Ab ne e,n,ne,nf,d⟩
 ·have hfn:xIV:=by
   show Ed hf
   ·exact z
   ·show Μ z hk hk
  show CQ c hc (I.ok.has x (.inl hk)) w' z (xNq hc);refine wpAny_storeName_cell I.ok.kind hk hc z (dC hc' hs);show Bq oc Q0 hocd (id z) (h vE ⟨I.ok,I.os,I.bare,⟨λ b o e n hb hx=>?_,λ b o e n hb hx=>?_,I.base.free,λ b o e hx=>?_,I.base.tups,I.base.frzs,I.base.tbls⟩,⟨m,hn.sameBut hs (Kc (cne x c hc)),λ j y v' e1 e2 e3=>?_⟩,Fw y c',I.free,I.freeC,Zc,tracked ⟨oc,Q0,xNn hc⟩ hs,by show x3i⟩ ⟨c,hs,.inr hc⟩)
  ·exact xB2 (gH a8 (x0F c hfn hc)) (xII e n hb hx)
  ·show yP sl e1 (xyU b e n hb hx) sl (xB2 (gH a8 (x0F c hfn hc)) e1)
  ·show yP o' e1 xHT o' (xB2 (gH a8 (x0F c hfn hc)) e1)
  ·by_cases hj:j=i
   ·show D5 hj hi e1 e1;show zL xUX e2 e2 ⟨u,r,.inr ⟨.inl hk,c,hc,hc'⟩⟩
   ·rw [xXg] at e2;show Bq u' r' q (hl j y v' e1 e2 e3) (AG u' r');rcases q with q|⟨k,c',e,z'⟩
    ·show BB q
    ·refine .inr ⟨k,c',e,z'.sameBut hs ?_⟩;show Zn;exact hj (xpp hN e1 (I.ok.inj _ _ _ e hc▸hi))
  ·by_cases hcc:c'=c
   ·show DI hcc (Bt hc')
   ·show yP w2 z2 (I.cell y c' e) w2 (z2.sameBut hs hcc)
  ·obtain⟨e,n,ne,nf,d⟩:=xAa;refine⟨vL hs Ab ?_ e,n,ne,nf,d⟩;intro q;rw [q,Q0] at e;have q':oc=zO:=Gg e;exact d w' (by show Bg q' hocd)
def xrZ {M:Model}{A:M1}(I:ST)(hN:X.N.Nodup)(hi:xz5)(hx:xDp x)(r:fZ)
  (h:∀s',eu xUa H s'->xPl) (hf:xu0 (xIV\/xIQ)):uo (x6x x u) s:=
 xlS I hN hi hx r (λ s' I' _=>h s' I') hf
def Inv.call' {s':MX}{ch:υ}(I:ST)(ho:x33)(u:Un xRD ch H H' s.heap s'.heap)(hok:xPs s'.heap)(hg:xDq)
  (Vn:lH ch ((xJt\/fq b)/\wz/\(∀x c,PX->RU)/\Sx)):Wg:=by
 obtain⟨h',g',d',t',o'⟩:=s';have e:o'=s.os:=ho;show Fs (I.call (g':=g') u hok hg Vn)
universe s
abbrev XK:=MW->RD->lI
abbrev St:=xVa
abbrev VK:=V->lI
abbrev TE:=xBJ St
abbrev TT:=St->xB4 (CL)
abbrev TA:=St->xB4 (xNo)
structure Ends where
 nx:p7
 rt:VK
 bk:p7:=jb
 ct:p7:=jb
abbrev TS:=Ends->p7
inductive xxd (X:Cx) (M6:χ) (σ:St) (Q:VK) (u:MW) (s':MX):Prop
 |mk (v:V) (H':Hp) (h0:Wg) (h1:fZ) (h2:xCd):DB u s'
inductive xqj (X:Cx) (M6:χ) (σ:St) (Q:CL) (b:Bool) (s':MX):Prop
 |mk (H':Hp) (h0:Wg) (h1:Fj b):xqj X M6 σ Q b s'
inductive xia (X:Cx) (M6:χ) (σ:St) (Q:xNo) (us:B5) (s':MX):Prop
 |mk (vs:NE) (H':Hp) (h0:Wg) (h1:xBd) (h2:Fj vs):xia X M6 σ Q us s'
def xvE (X:Cx)(M6:χ)(D:Ends)(f:Flow)(s':MX):Prop:=
 match f with
 | .next=>∃σ' H',wW/\D.nx σ' H'
 | .brk=>∃σ' H',wW/\D.bk σ' H'
 | .cont=>∃σ' H',wW/\D.ct σ' H'
 | .ret u=>∃v σ' H',wW/\fZ/\D.rt v H'
def PE (X:Cx)(e:M3)(t:TE):Prop:=
 ∀(M6:χ) (s:MX) (σ:St) (H:Hp) Q,ST->xCq->Dt xGc
def PT (X:Cx)(e:M3)(t:TT):Prop:=
 ∀(M6:χ) (s:MX) (σ:St) (H:Hp) Q,ST->xCq->yN (x09 e xGc) (xqj X M6 σ Q)
def PW (X:Cx)(e:M3)(t:TT):Prop:=
 ∀(whole:xAn) (M6:χ) (s:MX) (σ:St) (H:Hp) (Q:CL),ST->xCq->yN (x09 e whole) (xqj X M6 σ Q)
def PW.pt {X:Cx}{t:TT}(h:xB7 e t):gz e t:=vZ
def PA (X:Cx)(es:zq)(t:TA):Prop:=
 ∀(pos:Pos) (M6:χ) (s:MX) (σ:St) H Q,ST->xCq->yN (spliced (xzn es)) (xia X M6 σ Q)
def PS (X:Cx)(st:M5)(t:TS):Prop:=
 ∀(M6:χ) (s:MX) (σ:St) H D,ST->nQ D H->yN (x2X st) xF2
def PSs (X:Cx)(st:yg)(t:TS):Prop:=
 ∀(M6:χ) (s:MX) (σ:St) H D,ST->nQ D H->yN (execs st X.env) xF2
def thn {Q Q':W8 α}(h:uo t s)(hQ:∀a s,Q a s->Q' a s):xUT t Q' s:=Z0 h hQ x x
section
variable {X:Cx}
inductive xwA (i:Nat) (σ:St) (H:Hp) (Q:VK):Prop
 |mk (v:_) (h0:A7 σ wA) (h1:Q v H):xwA i σ H Q
def xuX (v:V):TE:=λ _ H Q=>Q v H
def xnV {i:Nat}{pos:Pos}(hN:xz5)(hv:xRd x)(hd:sS)(Q9:jZ (Ρ (x==x5I))):Am eM (xwA i):=by
 intro M6 s σ H Q I h;show pB v e h h m hn hl I.loc;show Zy u r l (tM x v hN e hv) fin (DB u s) (BO v I r h);rcases l with⟨hk,hm⟩|⟨hk,c,hc,O1⟩
 ·exact x0t (wpAny_loadName_local I.ok.kind hk hn hm fin)
 ·rcases hk with hk|hk
  ·exact x0t (wpAny_loadName_cell I.ok.kind hk hc O1 fin)
  ·exact x0t (wpAny_loadName_free I.ok.kind hk hc O1 fin Q9)
def aj {i j pos}:cw (xu6 Eh pos) Eh:=λ _ _ _ H _ I h=>wpAny_Constant_int (BO Eh sI CY h)
def cf {b j pos}:cw (xu6 (.bool b) pos) xFM:=λ _ _ _ H _ I h=>Constant_bool (Ef b H I h)
def cz {j pos}:cw (xu6 .none pos) .non:=λ _ _ _ H _ I h=>Constant_none (Vj .non H I h)
def cm {x j pos}:cw (xu6 QW pos) QW:=λ _ _ _ H _ I h=>Calls.Constant_str (BO QW sI CY h)
def xc1 (X:Cx)(x:Str):Prop:=xRh x .globalImplicit
def xdQ {E:AB}{M6:χ}{σ:St}(I:ST)(hg:tR)(hm:UI W0)(h:Q u s)
  (hd:sS):pM (Zh eM) Q E s:=
 x4q hg (Calls.loadGlobal_global (by show LT I.ok.glob xYe) hm h) hd
def xmo {E:AB}{M6:χ}{σ:St}{pos:Pos}(I:ST)(hg:tR)(hm:kH x)(hv:xDn x u)(h:Q u s)
  (hn:jZ xGg) (hd:sS):pM (Zh eM) Q E s:=by
 show B8 mb h1 h2 I.mod.blt (x4q hg (Calls.loadGlobal_builtin (by show LT I.ok.glob xYe) hm (by show LT I.ok.blt (h1.keeps I.bk)) ((h2 x hn).trans hv) h) hd)
def xsO (hg:tR)(hm:UI W0)(r:fZ)(hd:sS):cw eM v:=
 λ _ _ _ H _ I h=>xTt I (BO v I r h) hd
def xdS {pos:Pos}(hg:tR)(hm:kH x)(hv:xDn x u)(r:fZ)(hn:jZ xGg)(hd:sS):cw eM v:=
 λ _ _ _ H _ I h=>xJx hv (BO v I r h) hn hd
variable {a b:M3}{ta tb:TE}{pos:Pos}
def PC (X:Cx)(op:CmpOp)(a b:M3)(t:TE):Prop:=
 ∀(M6:χ) (s:MX) (σ:St) (H:Hp) Q,ST->xCq->
  yN (Zh a) (λ v s₁=>pI (Zh b) (λ u s₂=>x2B (compareOp op v u) s₂) s₁)
def xos (b)(h:op≠ .In)(h2:op≠ .NotIn):xKM op b:=by
 have e1:Ρ (op==CmpOp.In):=by cases op<;>first|rfl|show AX rfl h
 have e2:Ρ (op==CmpOp.NotIn):=by cases op<;>first|rfl|show AX rfl h2
 cases b
 case Set l k _=>show Ρ (k==0&&(op== .In||op== .NotIn)&&l.all (constantsAlone 8));rw [e1,e2,Bool.or_self,Bool.and_false,Mt]
 all_goals rfl
def xch (ta:TE):TE:=λ σ H Q=>qg (xyp (! xXt x) H1)
def RelV.none_iff (r:uF):(xX0 v)=xXt x:=by
 cases x with
 |non=>cases r;rfl
 |bl _=>cases r;rfl
 |int _=>show cj r
 |str _=>show cj r
 |byt _=>show cj r
 |flt _=>show cj r
 |ref _=>cases r;rfl
 |ty _=>cases r;rfl
def xaS {j pos'}(ha:kA):PC X .IsNot a (xu6 .none pos') (xch ta):=by
 intro M6 s σ H Q I h;refine xB0 v
 show Cc x H1 I1 r1 q1 z9 (Constant_none (isnot_none_gen ⟨.bl _,H1,I1,by show Af r1.none_iff,q1⟩))
inductive tB_p (Q:CL) (x:V) (H1:Hp):Prop
 |mk (c:_) (h0:x=.bl c) (h1:Q c H1):tB_p Q x H1
def xtM (t:TE):TT:=λ σ H Q=>SY x (tB_p Q x H1)
def xtK {op:CmpOp}(h:PC X op a b t)(h1:xKM op b:=by first|exact xos _ Z9 Z9|rfl):gz (xSs [op] BH pos) (xtM t):=by
 intro M6 s σ H Q I hw;show aL (wpAny_isTrue_Compare1 (dU (xCS _ I hw) v s1 h1 (dU h1 u s2 h2 (EJ h2 c s3))) h1) x;show uV d q q1 r1;exact JD ⟨H1,I1,q⟩
def xvv {e:M3}(h:Am e t)(he:BW whole (x09 e whole=(do let v<-whole;standAt e.pos;xMQ v (truthy v)))):gz e (xtM t):=by
  intro M6 s σ H Q I hw
  show aL (isTrue_plain (yF (xCS _ I hw) v) (he _)) x
  show uV d q q1 r1
  exact JD ⟨H1,I1,q⟩
variable {tA tB':TT}{rest:zq}
def xcg (t u:TT):TT:=λ σ H Q=>SY c (E1 c (u σ H1 Q) (Q false H1))
def tOr (t u:TT):TT:=λ σ H Q=>SY c (E1 c (xAo H1) (u σ H1 Q))
def xcR (t:TT):TT:=λ σ H Q=>SY c (Q (! c) H1)
def xdR (ha:xJh a):xB7 (xN1 sW) tA:=by
 intro wh M6 s σ H Q I h;refine isTrue_and (dU (xAV Q) c s1 e ?_);cases c with
 |true=>exact isTrue_and_nil e
 |false=>exact e
def xsE (ha:xJh a):xB7 (xKI .Or sW) tA:=by
 intro wh M6 s σ H Q I h;refine isTrue_or (dU (xAV Q) c s1 e ?_);cases c with
 |false=>exact isTrue_or_nil e
 |true=>exact e
def xmp (ha:xJh a)(hb:xB7 (xN1 xHH) tB'):xB7 (xN1 (a::xHH)) (xcg tA tB'):=by
 intro wh M6 s σ H Q I h;show wF (isTrue_and (xB0 c)) H1 I1 q1 z9;cases c with
 |true=>exact hb wh M6 s1 σ H1 Q I1 q1
 |false=>exact⟨H1,I1,q1⟩
def xvk (ha:xJh a)(hb:xB7 (xKI .Or xHH) tB'):xB7 (xKI .Or (a::xHH)) (tOr tA tB'):=by
 intro wh M6 s σ H Q I h;show wF (isTrue_or (xB0 c)) H1 I1 q1 z9;cases c with
 |true=>exact⟨H1,I1,q1⟩
 |false=>exact hb wh M6 s1 σ H1 Q I1 q1
def xdX (ha:xJh a):gz (x7x a pos) (xcR tA):=by
 intro M6 s σ H Q I h;exact isTrue_not (dU (xAV (λ c H1=>Q (! c) H1)) c s1 z9 (by show B8 H1 I1 q1 z9 ⟨H1,I1,q1⟩))
inductive xkS (tb:TE) (σ:St) (Q:VK) (x:V) (H1:Hp):Prop
 |mk (c:_) (h0:x=.bl c) (h1:E1 c (xPD Q) (xyp false H1)):xkS tb σ Q x H1
def xcQ (ta tb:TE):TE:=λ σ H Q=>qg (xkS tb σ Q x H1)
inductive xkV (Q:VK) (x:V) (H1:Hp):Prop
 |mk (c:_) (h0:x=.bl c) (h1:xyp (! c) H1):xkV Q x H1
def xcp (ta:TE):TE:=λ σ H Q=>qg (xkV Q x H1)
def xd4 {op}{t:TE}(h:Am a t):Am (xKI op sW) t:=λ M6 s σ H Q I hw=>BoolOp_one (xCS Q I hw)
def xd3 (ha:kA)(hb:Am (xN1 xHH) tb):Am (xN1 (a::xHH)) (xcQ ta tb):=by
 intro M6 s σ H Q I h;show aL (BoolOp_and (xB0 v)) x;show uV c q1 q1 r1;refine JD ?_;cases c with
 |true=>exact xJ6 Q
 |false=>exact Ef false H1 I1 q1
def xnE (ha:kA):Am (x7x a pos) (xcp ta):=by
 intro M6 s σ H Q I h;show aL (UnaryOp_ (xB0 v)) x;show uV c q1 q1 r1;exact not_of (JD (Ef (! c) H1 I1 q1))
def tIf (t:TT)(ta tb:TE):TE:=λ σ H Q=>SY c (E1 c (ta σ H1 Q) (xPD Q))
def xvo {c:M3}(hc:xJh c)(ha:kA)(hb:UA):Am (.IfExp c a b pos) (tIf tA ta tb):=by
 intro M6 s σ H Q I h;show wF (wpAny_IfExp (yF (xGC s σ H _ I h) d)) H1 I1 q1 z9;cases d with
 |true=>exact xRb s1 H1 Q I1 q1
 |false=>exact xJ6 Q
universe s
def Ng (K:Frag)(H:Hp)(a:MV)(xs:NE):Prop:=
 P4 xEq\/
  ∃(o:M4) (its:jd) (n:Nat),x0X=IO/\o.cls=kh/\WF o.dict/\xAj (.seq its n)/\nL its.size/\Vals xs its.toList
def ND (K:Frag)(H:Hp)(a:MV)(xs:NE):Prop:=
 P4 (.tup xs)\/
  ∃(o:M4) (its:jd) (n:Nat),x0X=IO/\o.cls=xDw/\xAj (.seq its n)/\nL its.size/\Vals xs its.toList
def xc2:MW->BV
 | .none=>some .non
 | .bool b=>some xFM
 | .int i _=>tG i
 | .str x _=>some QW
 | .bytes b _=>some (.byt b)
 | .float b _=>some (.flt b)
 | .ref a=>Bm
 | .type n=>some (.ty n)
 |_=>none
def RelV.abs (r:Df):SL (xc2 u) x:=by
 cases x with
 |non=>cases r;rfl
 |bl _=>cases r;rfl
 |int _=>show cj r
 |str _=>show cj r
 |byt _=>show cj r
 |flt _=>show cj r
 |ref _=>cases r;rfl
 |ty _=>cases r;rfl
def RelV.inj (r:Df)(q:RV):x=y:=Gg (r.abs.symm.trans q.abs)
theorem Vals.inj (h:qx)(g:ko ys):xs=ys:=by
 induction h generalizing ys with
 |nil=>cases g;rfl
 |cons r _ ih=>cases g with
  |cons r' t'=>rw [r.inj r',ih t']
section
variable {X:Cx}{M6:χ}{σ:St}{H:Hp}{s:MX}{a:MV}{xs ys:NE}
def Ng.of {K:Frag}(h:XL=Ar):yV:=.inl (.inl h)
def ND.of {K:Frag}(h:x8 XL):xBY a:=.inl (.inl h)
def Inv.list (I:ST)(h:Ng X.K H a xs):∃its:B5,O7/\PlainL s.heap a its.toArray/\kP:=by
 rcases h with h|⟨o,its,n,hk,hc,hd,hs,hz,r⟩
 ·show Cc z its n r e (h.ok I.hok) ⟨its,r,Tf _ n e rfl rfl,z⟩
 ·refine⟨its.toList,r,⟨o,n,xXj a hk,hc,hd,by simpa using hs⟩,?_⟩;have e:=r.length;simp only [HD] at e;exact Iz e hz
def Inv.tuple (I:ST)(h:xF1 a xs):∃its:B5,O7/\x4l a its.toArray/\kP:=by
 rcases h with h|⟨o,its,n,hk,hc,hs,hz,r⟩
 ·show Bj z its r p (h.ok I.hok) ⟨its,r,p,z⟩
 ·refine⟨its.toList,r,⟨o,xXj a hk,hc,n,by simpa using hs⟩,?_⟩;have e:=r.length;simp only [HD] at e;exact Iz e hz
def Inv.list_inj (I:ST)(h:Ng X.K H a xs)(h':x1P a ys):xs=ys:=by
 obtain⟨its,r,⟨o,n,e,_,_,d⟩,_⟩:=I.list h;obtain⟨its',r',⟨o',n',e',_,_,d'⟩,_⟩:=I.list h';show vR e' e';rw [d] at d';show xB6 d' d1
 show Dr its its' (by simpa using congrArg Array.toList d1) (r.inj r')
universe s
abbrev Cx.wish (X:Cx) (E:AB):Cx:={X with xe:=E}
abbrev Cx.nox (X:Cx):Cx:=X.wish jb
theorem Cx.Ok.wish {X:Cx}(ok:X.Ok)(E:AB):(xLA).Ok:=
 ⟨ok.mod,ok.kind,ok.glob,ok.blt,ok.above,ok.inj,ok.has,ok.cab,ok.hd,ok.frames,ok.stk,ok.exf,ok.bs,ok.bsz,ok.noex,ok.exfs,ok.funs,ok.frf⟩
def Cx.Ok.unwish {X:Cx}{E:AB}(ok:(xLA).Ok):X.Ok:=
 ⟨ok.mod,ok.kind,ok.glob,ok.blt,ok.above,ok.inj,ok.has,ok.cab,ok.hd,ok.frames,ok.stk,ok.exf,ok.bs,ok.bsz,ok.noex,ok.exfs,ok.funs,ok.frf⟩
section
variable {X:Cx}{M6:χ}{σ:St}{H:Hp}{s:MX}{E:AB}
theorem Inv.wish (I:ST)(E:AB):jS xLA H s:=⟨I.ok.wish E,I.os,I.bare,I.base,I.loc,I.cell,I.free,I.freeC,I.pin,I.hok,I.len⟩
theorem Inv.unwish (I:jS xLA H s):ST:=⟨I.ok.unwish,I.os,I.bare,I.base,I.loc,I.cell,I.free,I.freeC,I.pin,I.hok,I.len⟩
theorem xvE.unwish {D:Ends}{f:Flow}{s':MX}(h:xvE xLA M6 D f s'):xJs s':=by
 cases f with
 |next=>show Bj σ' H' I q h x31
 |brk=>show Bj σ' H' I q h x31
 |cont=>show Bj σ' H' I q h x31
 |ret u=>show iP v σ' H' I r q;exact⟨v,σ',H',I.unwish,r,q⟩
theorem PSs.nox {st:yg}(h:PSs X.nox st t):u7 st t:=λ M6 s σ H D I hw=>
 Z0 (xCS D (I.wish _) hw) (λ _ _ q=>q.unwish) z xDx
universe s
section
variable {X:Cx}{st:M5}{rest:yg}{t u:TS}{e:M3}{te:TE}{pos:Pos}
def Ev:TS:=λ D σ H=>DF
def xh7 (t u:TS):TS:=λ D σ H=>nQ {D with nx:=u D} H
def xmy:u7 [] Ev:=λ _ _ σ H _ I h=>KA (uW H I h)
def ac (h1:jw st t)(h2:u7 rest u):u7 (st::rest) (xh7 t u):=by
 intro M6 s σ H D I h;refine wpAny_execs_cons (dU (h1 M6 s σ H {D with nx:=u D} I h) f s1 q ?_);cases f with
 |next=>
  show Bj σ' H' I' q q (h2 M6 s1 σ' H' D I' q)
 |ret v=>exact q
 |brk=>exact q
 |cont=>exact q
def af (h1:jw st t):u7 [st] t:=by
 intro M6 s σ H D I h;refine wpAny_execs_cons (dU (h1 M6 s σ H D I h) f s1 q ?_);cases f with
 |next=>exact KA q
 |ret v=>exact q
 |brk=>exact q
 |cont=>exact q
def xb7:TS:=λ D σ H=>D.bk σ H
def xlB:jw (.Break pos) xb7:=λ _ _ σ H _ I h=>wpAny_Break (uW H I h)
def Inv.quiet {M6:χ}{σ:St}{H:Hp}(I:ST):Ρ (interactive X.env):=by simp [interactive,I.ok.kind]
def xcn (te:TE):TS:=λ D σ H=>xzX λ _ H1=>xKD H1
def aB (he:yM)(hs:Κ (xUb e none=xLI)):jw (.Expr e pos) (xcn te):=by
 intro M6 s σ H D I h;exact wpAny_Expr_any (dU (xSA H _ I h) v s1 z9 (by show Cc x H1 I1 r1 q1 z9 (uW H1 I1 q1))) I.quiet hs
def xct (te:TE):TS:=λ D σ H=>xzX D.rt
def xed (he:yM):jw (.Return (some e) pos) (xct te):=by
 intro M6 s σ H D I h;exact wpAny_Return_some (dU (xSA H _ I h) v s1 z9 (by show Cc x H1 I1 r1 q1 z9 ⟨x,σ,H1,I1,r1,q1⟩))
def xc5 (c:TT)(t u:TS):TS:=λ D σ H=>c σ H λ b H1=>E1 b (nQ D H1) (u D σ H1)
def xvx {c:M3}{a b:yg}{tc:TT}(hc:gz c tc)(ha:u7 a t)(hb:u7 b u):jw (.If c a b pos) (xc5 tc t u):=by
 intro M6 s σ H D I h;show wF (wpAny_If (yF (xGC s σ H _ I h) d)) H1 I1 q1 z9;cases d with
 |true=>exact xRb s1 H1 D I1 q1
 |false=>exact xJ6 D
def xnM:TS:=xQZ
def xsN:jw st xnM:=x56 h
def xwv {sts:yg}:u7 sts xnM:=x56 h
universe s
abbrev TG:=V->St->xB4 (p7)
abbrev TGs:=NE->St->xB4 (p7)
def PG (X:Cx)(M9:M3)(t:TG):Prop:=
 ∀(M6:χ) (s:MX) (σ:St) H v u Q,ST->fZ->nQ v H Q->
  yN (xSk M9 u) (λ _ s'=>∃σ' H',wW/\Fj σ')
def PGs (X:Cx)(ts:zq)(t:TGs):Prop:=
 ∀(M6:χ) (s:MX) (σ:St) H vs us Q,ST->xBd->nQ vs H Q->
  yN (assignInOrder ((assignEach ts X.env).map (·.2)) us) (λ _ s'=>∃σ' H',wW/\Fj σ')
abbrev xrJ:=V->V->V->xB4 (lI)
def xhQ (X:Cx)(t:xrJ):Prop:=
 ∀(M6:χ) (s:MX) (σ:St) H o i v ov iv u Q,ST->RelV o ov->RelV i iv->fZ->t o i v H Q->
  yN (setItem ov iv u) (λ _ s'=>∃H',Wg/\Q H')
section
variable {X:Cx}{pos:Pos}
def xv7 (i:Nat):TG:=λ v σ H Q=>Q xUa H
def xdA {i:Nat}{x:Str}(hN:X.N.Nodup)(hi:Κ xz5)(hx:xu0 (xDp x))(hf:xu0 (xIV\/xIQ)):xH2 eM (xv7 i):=by
 intro M6 s σ H v u Q I r h;exact wpAny_assign_Name (xrZ I hN hi hx r (λ s' I'=>vg H I' h) hf)
inductive xqh (vs:NE) (σ:St) (H:Hp) (Q:p7):Prop
 |mk (h0:vs=[]) (h1:Q σ H):xqh vs σ H Q
inductive xsj (t:TG) (u:TGs) (vs:NE) (σ:St) (H:Hp) (Q:p7):Prop
 |mk (v:_) (r:_) (h0:vs=v::r) (h1:nQ v H λ σ' H'=>u r σ' H' Q):xsj t u vs σ H Q
def xve:PGs X [] xqh:=by
 intro M6 s σ H vs us Q I r h;show xQh e h;subst e;cases r;exact assignInOrder_nil (uW H I h)
def xec {e:M3}(h1:xH2 e t)(h2:PGs X es u)
  (hs:Κ ((assignEach (e::es) X.env).map (·.2)=assign e X.env::(assignEach es X.env).map (·.2))):PGs X Fv (xsj t u):=by
 intro M6 s σ H vs us Q I r h;show Qb v vr e1 h;subst e1;cases r with
 |cons r rr=>
  show Η hs (assignInOrder_cons (xGp (h1 M6 s σ H _ _ _ I r h) s1 z9 ?_));show Bj σ1 H1 I1 q1 z9 (h2 M6 s1 σ1 H1 _ _ Q I1 rr q1)
inductive xqi (K:Frag) (n:Nat) (t:TGs) (v:V) (σ:St) (H:Hp) (Q:p7):Prop
 |mk (a:_) (xs:_) (h0:v=ω) (h1:xBY a) (h2:xEN n) (h3:nQ xs H Q):xqi K n t v σ H Q
def xer {es:zq}{k:Nat}(hc:mj)(h:PGs X es t)
  (hn:Κ (B4 (assignEach es X.env) n)) (OR:Κ ((assignEach es X.env).findIdx? (·.1)=none)):xH2 (xSS k pos) (xqi X.K n t):=by
 intro M6 s σ H v u Q I r hw;obtain⟨a,xs,e1,hq,hl,hw⟩:=hw;subst e1;cases r;show k6 rv ht hz hq;refine QQ.xdg I.hq ht (by simp [hn,<-hl,rv.length]) OR (SC h' hx)
 have I1:xG vE:=xS7 (λ b o e=>hx b o xMz e)
 exact h M6 _ σ H xs _ Q I1 (by simpa using rv) hw
def xcU (to ti:TE)(t:xrJ):TG:=λ v σ H Q=>to σ H λ o H1=>ti σ H1 λ i H2=>t o i v H2 λ H3=>Q σ H3
def xto {o i:M3}{to ti:TE}{t:xrJ}(ho:xCo to)(hi:Am i ti)(hs:xhQ X t)
    (ha:BW v (xSk (xyT o i) v=(do
      let ov<-xMQ v ZT
      let iv<-holding [v,ov] (Zh i)
      standAt pos
      holding [v,ov,iv] (setItem ov iv v)
      release [v,ov,iv] []))):xH2 (xyT o i) (xcU to ti t):=by
  intro M6 s σ H v u Q I r h
  show xAv ha (HR (yF (kj s H _ I h) ov))
  show xNA x
  show AR (HR (EJ (xB1 s1 H1 _ I1 q1) iv s2))
  obtain⟨y,H2,I2,r2,q2⟩:=z9
  show xRi (xVN (xGp (hs M6 s2 σ H2 x y v ov iv u _ I2 r1 r2 r q2) s3 z9 ?_))
  show B8 H3 I3 q3 z9 (wpAny_release (uW H3 I3 q3))
def xxf (te:TE)(g:TG):TS:=λ D σ H=>xzX λ x H1=>g x σ H1 D.nx
def xtN {tg e:M3}{te:TE}{g:TG}(he:yM)(hg:xH2 tg g)(hs:Κ (swapsWithSole [tg] e pos.line X.env=xLI))(hw:Κ (swappedStores [tg] e X.env=pure none))
  (h1:Κ ((assignEach [tg] X.env).map (·.2)=[assign tg X.env])):xEl X [tg] e pos (xxf te g):=by
 intro M6 s σ H D I h;show aL (wpAny_Assign_stores (ag H _ I h v) hs hw) x;show LT h1 (xGp (hg M6 s1 σ H1 x v _ I1 r1 q1) s2 q q)
def xee {i:Nat}{x:Str}{e:M3}{pos':Pos}(hN:X.N.Nodup)(he:yM)(hi:Κ xz5)(hx:xu0 (xDp x))(hs:Κ (xUb e (some (xC9 pos'))=xLI))(hf:xu0 (xIV\/xIQ)):
  xEl X [xC9 pos'] e pos (xxf te (xv7 i)):=by
 intro M6 s σ H D I h;refine wpAny_Assign_Name (ag H _ I h v) hs;show Cc y H1 I1 r1 q1 z9 (xrZ I1 hN hi hx r1 (λ s2 I2=>vg H1 I2 q1) hf)
inductive xk9 (c:TT) (tb:TS) (D:Ends) (σ:St) (H:Hp):Prop
 |mk (W:xO1) (h0:(∃m,W m σ H)) (h1:∀m σ H,W m σ H->c σ H λ b H1=>E1 b (∃N,(∀σ' H',xHm->Fq (m'<m/\W m' σ' H'))/\x4r D N N σ H1) (xKD H1)):xk9 c tb D σ H
def xeb {c:M3}{body:yg}{tb:TS}(hp:x8G X.A X.env X.xe)(hc:gz c tc)(hb:u7 body tb):jw (.While c body [] pos) (xk9 tc tb):=by
 intro M6 s σ H D I h;obtain⟨W,⟨m0,w0⟩,turn⟩:=h;refine wpAny_While (codeAny_whileLoop (λ n s'=>∃σ' H',wW/\W n σ' H') ?_ m0 (uW H I w0));rintro n s1 ⟨σ1,H1,I1,w1⟩;show wF (xAY (EJ (xGC s1 σ1 H1 _ I1 (turn n σ1 H1 w1)) b s2)) H2 I2 q2 z9;cases b with
 |true=>
  obtain⟨N,hN,q2⟩:=q2;show Η AD (xAY (dU (hb M6 s2 σ1 H2 _ I2 q2) f s3 q3 ?_));cases f with
  |next=>
   obtain⟨σ3,H3,I3,n3⟩:=q3;show B8 m' hm w3 (hN σ3 H3 n3) ⟨m',hm,σ3,H3,I3,w3⟩
  |cont=>
   obtain⟨σ3,H3,I3,n3⟩:=q3;show B8 m' hm w3 (hN σ3 H3 n3) ⟨m',hm,σ3,H3,I3,w3⟩
  |brk=>exact q3
  |ret v=>exact q3
 |false=>
  show iL F7 (KA ⟨σ1,H2,I2,q2⟩)
universe s
structure It where
 go:Ct lI
 yld:Ct (Hp->V->lI)
 stop:Ct lI
def xrE (X:Cx)(M6:χ)(H:Hp)(b:MV):Prop:=
 Ee/\wz/\xEZ/\(xJt\/fq b)/\(∀x c,PX->RU)/\Sx
def Inv.fpOk {X:Cx}{M6:χ}{σ:St}{b:MV}(I:ST)(hb:xyA b)(hn:Oo):xBp b:=by
 refine⟨hn,JB (FN I.lt hb),I.nofs hb,.inr (FK I.sz hb),λ x c e z=>?_,τ p hp z⟩
 ·show De v q xGe (absurd (FN q.lt (by show LT z hb)) Xa)
 ·show AX (xVT xAa.1 (by show LT z hb)) Xa
structure Turn (P:MY)(w:MZ)(K:Frag)(tg:M3)(J:It)(fp:υ)(it:MV)(tn:lT M2):Prop where
 mem:it∈fp
 obj:∀i h,xBB h->yG (∃o,W9=IO/\∀v,o.data≠ xz1)
 keep:∀i h h',xBB h->(yG (∀o,W9=IO->WE=IO))->xBB h'
 item:∀(X:Cx),X.prog=P->X.w=w->X.K=K->mj->∀(i:Nat) (M6:χ) (s:MX) (σ:St) (H:Hp) (E:AB),ST->(o5 H)->x1W->xFQ H->
  kZ P w X.A xLh (λ r s1=>∃u,UI r/\
   kZ P w X.A (x5B jV u) (λ _ s2=>∃x H',jN s2/\Df/\xE5 H x H'/\tn (i+1) s2.heap/\xG7) E s1) E s
 done:∀(X:Cx),X.prog=P->X.w=w->X.K=K->mj->∀(i:Nat) (M6:χ) (s:MX) (σ:St) (H:Hp) (E:AB),ST->(o5 H)->x1W->xEH H->
  kZ P w X.A xLh (λ r s1=>WF r/\xG s1) E s
 self:∀(A:M1) (i:Nat) (s:MX) (Q:AB) (E:AB),x1W->Q jV s->kZ P w A (pyIter jV) Q E s
abbrev TI:=St->xB4 (OH)
def PIE (X:Cx)(M6:χ)(σ:St)(tg:M3)(R:OH)(itv:MW)(s2:MX):Prop:=
 ∃(it:MV) (fp:υ) (tn:lT M2) (J:It) (H':Hp),itv=jV/\jN s2/\Turn X.prog X.w X.K tg J fp it tn/\tn 0 s2.heap/\(o5 H')/\R J H'
def PI (X:Cx)(tg iter:M3)(wi:TI):Prop:=
 ∀(M6:χ) (s:MX) (σ:St) H (R:OH),ST->xJA R->
  yN x0T (λ v s1=>pI (pyIter v) (PIE X M6 σ tg R) s1)
def xt8 (ho:s.heap.get? it=IO)(hc:o.cls=.type n)(hd:xHb)
  (hn: Ρ (["enumerate","zip","dict_itemiterator","dict_reverseitemiterator","odict_iterator","itertools.zip_longest","itertools.pairwise"].contains n)) (hQ:fP s):uo (x5B jV u) s:=by
 unfold letOwnedTupleGo;cases tg<;>first
  |exact F3 hQ
  |(cases u<;>first
    |exact F3 hQ
    |(show AR (wpAny_load ho ?_)
      rw [hc,hd];show uo (E1 (["enumerate","zip","dict_itemiterator","dict_reverseitemiterator","odict_iterator","itertools.zip_longest","itertools.pairwise"].contains n&&vs[0]?==some (rawInt _)) _ _) s;show iL (by intro h;show WR hn Mt h h) (F3 hQ)))
def xde (K:Frag)(a:MV):It:=
 ⟨λ i H=>∃xs x,yV/\xk,λ i H x H'=>H'=H/\∀xs,yV->xk,λ i H=>∃xs,yV/\x17 i⟩
def Xo (lo:Int)(n:Nat):It:=⟨λ i _=>i<n,λ i H x H'=>H'=H/\x=.int (lo+i),λ i _=>n≤i⟩
def xgK {P:MY}{w:MZ}{K:Frag}{tg:M3}(a it:MV):xWe w K tg Rz [it] it (λ i h=>x6y a i) where
 mem:=Z6
 obj:=λ i h st b hb=>by
  have e:b=it:=by show lz
  subst e;show Bj o e c d st (rH e (λ v z=>by show Μ d z z))
 keep:=λ i h h' st k=>st.at λ o e=>k it Z6 o e
 item:=by
  intro X hP hw hK hc i M6 s σ H E I hf st hg;subst hP hw hK;obtain⟨xs,x,hq,hx⟩:=hg;show qX rv p;obtain⟨u,hu,ru⟩:=rv.get hx;obtain⟨f0,f1,f2,f3,f4,f5⟩:=fH;refine wpAny_pyNext_list_item st p.isList (by show xFs) (dC st' sb)
  have I1:xG vE:=xB5 (λ b o hb e=>vL sb b hb e);show Bj o e c d (id st') (lM u (xt8 e c d Z9 ⟨x,H,I1,ru,qN (λ ys hy=>by show LT (x7y hq) hx),st',BA ui.1⟩))
 done:=by
  intro X hP hw hK hc i M6 s σ H E I hf st hg;subst hP hw hK;obtain⟨xs,hq,hx⟩:=hg;show qX rv p;obtain⟨f0,f1,f2,f3,f4,f5⟩:=fH;show AO hl;exact QQ.xdb I.hq st p.isList (by simp;exact xSt hx) λ h' eb=>qN (xB5 (λ b o hb e=>eb b o hb e))
 self:=xTu h (wpAny_pyIter_listiter st h)
def xe9 {P:MY}{w:MZ}{K:Frag}(it)(lo)(n):xWe w K tg xVv [it] it (λ i h=>xK0 h (lo+YX i*1) (AA-YX i) 1) where
 mem:=Z6
 obj:=λ i h st b hb=>by
  have e:b=it:=by show lz
  show Fs (Ax st (λ v z=>by
   have z':xZh=xZ0:=z;cases z'))
 keep:=λ i h h' st k=>k it Z6 _ st
 item:=by
  intro X hP hw hK hc i M6 s σ H E I hf st hg;subst hP hw hK;obtain⟨f0,f1,f2,f3,f4,f5⟩:=fH;refine x4M (by have:i<n:=hg;lia) (dC VV sb)
  have st':xK0 h' (lo+zM*1) (AA-zM) 1:=by
   have e1:lo+zM*1=lo+rT*1+1:=Z5;have e2:AA-zM=AA-rT-1:=Z5;rw [e1,e2];exact VV
  have I1:xG (vj h' xEx):=xB5 (λ b o hb e=>xZX o hb e);refine Υ (xt8 st' rfl rfl Z9 ⟨.int (lo+i),H,I1,Fh s.toks,vf,st',BA ui.1⟩);rw [Int.mul_one]
 done:=by
  intro X hP hw hK hc i M6 s σ H E I hf st hg;subst hP hw hK;show gq f0 f1 f2 f3 f4 f5 fH (QQ.xjp I.hq st (by have:n≤i:=hg;lia) λ h' eb=>qN (xB5 (λ b o hb e=>eb b o hb e)))
 self:=xTu h (x4P h)
section
variable {X:Cx}{tg:M3}
inductive xkt (K:Frag) (R:OH) (x:V) (H1:Hp):Prop
 |mk (a:_) (h0:x=ω) (h1:(∃xs,TX H1 a)) (h2:R Rz H1):xkt K R x H1
def xcq (K:Frag)(tl:TE):TI:=λ σ H R=>tl σ H λ x H1=>xkt K R x H1
def bP {l:M3}{tl:TE}(hl:Am l tl):PI X tg l (xcq X.K tl):=by
 intro M6 s σ H R I h;show aL (yF (hl M6 s σ H _ I h) v) x;obtain⟨a,e,⟨xs,hq⟩,q⟩:=q1;subst e;cases r1;show xyo rv p hz (I1.list hq);show Wp (x6z p.isList) ⟨s1.heap.objs.size,[s1.heap.objs.size],_,_,H1,rfl,xK9 s1.toks (λ b o e=>rR),xgK a _,Wm _ vq,rK,q⟩;have e:b=s1.heap.objs.size:=by show lz
 show Fs x2M
def xl8 {M6:χ}{σ:St}{lo hi:Int}(I:ST)(h1:-(2^62)≤lo)(h2:lo<2^62)(h3:-(2^62)≤hi)(h4:hi<2^62)
  (q:R (Xo lo (kW hi lo)) H):pM (pyIter jX) (PIE X M6 σ tg R) E (vj (xYP #[xGM,xI0,xJc]) tk):=by
 refine x4v .. (small_one h1 h2 h3 h4) ?_;have I1:xG (vj (xYP #[xGM,xI0,xJc]) tk):=I.kept λ b o e=>rR
 refine⟨xZf #[xGM,xI0,xJc],[xZf #[xGM,xI0,xJc]],_,_,H,rfl,
  xK9 tk (λ b o e=>rR),xe9 _ lo (kW hi lo),?_,rK,q⟩
 ·have e1:lo+sr*1=lo:=Z6;have e2:Ps (kW hi lo)-sr=Builtin.Range.rangeSize lo hi 1:=by rw [rangeSize_one];split<;>lia
  show x7z _ (lo+sr*1) (Ps (kW hi lo)-sr) 1;rw [e1,e2];exact vq
 ·have e:b=xZf #[xGM,xI0,xJc]:=by show lz
  show Fs x2M
inductive xku (R:OH) (vs:NE) (H1:Hp):Prop
 |mk (j:_) (h0:vs=[QH]) (h1:O2 (-(2^62))) (h2:j<2^62) (h3:R (Xo 0 j.toNat) H1):xku R vs H1
def xbW (ta:TA):TI:=λ σ H R=>xOn vs (xku R vs H1)
inductive xkv (R:OH) (vs:NE) (H1:Hp):Prop
 |mk (i:_) (j:_) (h0:vs=[Eh,QH]) (h1:(-(2^62)≤i/\i<2^62/\O2 (-(2^62))/\j<2^62)) (h2:R (Xo i (kW j i)) H1):xkv R vs H1
def xcs (ta:TA):TI:=λ σ H R=>xOn vs (xkv R vs H1)
def xsG {a:M3}{ta:TA}{p pos:Pos}(hg:x03)(hm:x02)(ha:iy sW ta)(hs:Κ (fF sW=[Eu a])):PI X tg (xyn "range" p sW [] pos) (xbW ta):=by
 intro M6 s σ H R I h;show aL (Call_ (x0A I (IY xIG hs rfl))) vs;obtain⟨j,e,q1,q2,q⟩:=q1;subst e;cases r1 with
 |cons r rr=>
  cases rr;show z8 t r (call_range_1 (xl8 I1 Z5 Z5 q1 q2 (by simpa using q)))
def xey {a b:M3}{ta:TA}{p pos:Pos}(hg:x03)(hm:x02)(ha:iy [a,b] ta)(hs:Κ (fF [a,b]=[Eu a,Eu b]))(PV:Κ (fF BH=[Eu b])):
  PI X tg (xyn "range" p [a,b] [] pos) (xcs ta):=by
 intro M6 s σ H R I h;show aL (Call_ (x0A I (IY xIG (by rw [hs,PV]) (by show Af PV)))) vs;obtain⟨i,j,e,⟨q1,q2,q3,q4⟩,q⟩:=q1;subst e;cases r1 with
 |cons r rr=>
  cases rr with
  |cons r' rr=>
   show xBN rr r;show z8 t' r' (call_range_2 (xl8 I1 q1 q2 q3 q4 q))
def xcW (wi:TI)(g:TG)(tb:TS):TS:=λ D σ H=>xJA λ J H1=>∃W:xO2,(∃m,xPr H1)/\∀i m σ H,xPq H->
 (xEH H/\DF)\/(xFQ H/\∃N,(∀σ' H',xHm->Fq (m'<m/\xP5 (i+1) H'))/\∀x H',xE5 H x H'->xPb λ σ2 H2=>tu D N N H2)
def xxz (fp:υ) (h:M2):χ:=fp.filterMap λ b=>rq W9 o (b,o)
def xdZ {fp:υ}(hb:b∈fp)(e:W9=IO):(b,o)∈xxz fp h:=List.mem_filterMap.mpr ⟨b,hb,by show Dn⟩
def xgz {fp:υ}(hp:p∈xxz fp h):Ab∈fp/\Tr Ab zO:=by
 obtain⟨b,hb,e⟩:=List.mem_filterMap.mp hp;cases q:W9 with
 |none=>show kD q
 |some o=>
  rw [q] at e;have e':(b,o)=p:=Gg e;subst e';show A5 hb q
def Inv.pinned {M6:χ}{σ:St}{H:Hp}(I:ST)(hf:o5 H)(ho:yG (∃o,Bc=IO/\∀v,o.data≠ xz1)):Inv X (M6++xxz fp s.heap) σ H s:=
 I.pins_of λ p hp=>kb hp (Re (xyV (P1 z))) (Re (by
  show xH0 hb (xgz z);obtain⟨f0,f1,f2,_⟩:=hf Ab hb;obtain⟨o,e',d⟩:=ho Ab hb;show zL e e' e' ⟨e,f0,f1,f2,d⟩))
def Inv.unpinned {M6 pl:χ}{σ:St}{H:Hp}(I:Inv X (M6++pl) σ H s):ST:=I.pins_of λ p hp=>xyV (P1 xMP)
def xsK (hp:x8G X.A X.env X.xe)(hc:mj)(hi:PI X tg iter wi)(hg:xH2 tg g)(hb:u7 body tb)
  (hs:BW x (Xn=eW)):jw (.For tg iter body [] pos) (xcW wi g tb):=by
 intro M6 s σ H D I h;refine wpAny_For (dU (xB1 s H _ I h) v s1 h1 (dU h1 itv s2 h2 ?_)) hs;obtain⟨it,fp,tn,J,H2,e,I2,T,Qw,f2,W,⟨m0,w0⟩,turn⟩:=h2;subst e;have VF:∀{H'},(xG7)->o5 H':=λ hn b hb=>⟨hn b hb,(f2 b hb).2⟩
 refine codeAny_forLoop_any (λ n s'=>∃i σ' H',wW/\xBB s'.heap/\(xG7)/\W i n σ' H') ?_ m0 ⟨0,σ,H2,I2,Qw,BA (f2 b hb).1,w0⟩;rintro n s3 ⟨i,σ3,H3,I3,Ot,SE,w3⟩;rcases turn i n σ3 H3 w3 with⟨stop,qn⟩|⟨go,N,hN,step⟩
 ·show Ey (xAY (EJ (T.done X rfl rfl rfl hc i M6 s3 σ3 H3 X.xe I3 (VF SE) Ot stop) r s4)) hr I4 z9;show DI hr (KA ⟨σ3,H3,I4,qn⟩)
 ·show wF (xAY (EJ (T.item X rfl rfl rfl hc i M6 s3 σ3 H3 X.xe I3 (VF SE) Ot go) r s4)) u hr h4 z9;subst hr;refine xAY (xGp h4 s5 z9 ?_);obtain⟨x,H5,I5,r5,y5,st5,Sv⟩:=z9;have I5':=I5.pinned (VF Sv) (xJi st5);refine xAY (xGp (hg _ s5 σ3 H5 x u _ I5' r5 (step x H5 y5)) s6 z9 ?_);obtain⟨σ6,H6,I6,q6⟩:=z9;refine xAY (dU (rD s6 σ6 H6 _ I6 q6) f s7 q7 ?_);have again:∀{σ7} {H7},Inv X (M6++xxz fp s5.heap) σ7 H7 s7->N σ7 H7->∃m,m<n/\∃i σ' H',eu σ' H' s7/\xBB s7.heap/\(xG7)/\W i m σ' H':=λ {σ7 H7} I7 n7=>by
   show Bq m' hm w7 (hN σ7 H7 n7) ⟨m',hm,i+1,σ7,H7,I7.unpinned,xMa _ _ st5 λ b hb o e=>(I7.pin (b,o) CP).1,rK,w7⟩;show B8 o e d (xJi st5 b hb) (A4 (I7.pin (b,o) CP))
  cases f with
  |next=>show Bj σ7 H7 I7 n7 q7 (again I7 n7)
  |cont=>show Bj σ7 H7 I7 n7 q7 (again I7 n7)
  |brk=>show Bj σ7 H7 I7 q7 q7 ⟨σ7,H7,I7.unpinned,q7⟩
  |ret v=>show gq x7 σ7 H7 I7 r7 q7 q7 ⟨x7,σ7,H7,I7.unpinned,r7,q7⟩
universe s
def xsH {K:Frag}{a:MV}{xs:NE}{g:TG}{tb:TS}{D:Ends}(Pv:xO1)(h0:iV 0)(hl:∀i σ H,kJ->Cj->yV)
  (hs:∀i x σ H,xk->Cj->RN λ σ2 H2=>tu D wc wc H2) (hd:∀σ H,x8L->DF):
  ∃W:xO2,(∃m,xPr H)/\∀i m σ H,xPq H->
   (xK6 Rz H/\DF)\/((Rz).go i H/\∃N,(∀σ' H',xHm->Fq (m'<m/\xP5 (i+1) H'))/\∀x H',xLN Rz H x H'->xPb λ σ2 H2=>tu D N N H2):=by
 refine AG (λ i m σ H=>m=xIA/\kJ/\Cj) ⟨xs.length,Z6,AM,h0⟩;rintro i m σ H ⟨rfl,hi,p⟩;have q:=tM σ H hi p;by_cases M8:oQ
 ·show Ey (.inr ⟨⟨xs,xs[i],q,by simp [M8]⟩,wc,λ σ' H' p'=>EE (WL (i+1)) aJ M8 p',nK⟩) e y y;show Fs (tK x σ _ xH3 p)
 ·have e:xIH:=CC;show rU e ⟨xJ0,hd σ H p⟩
def xmx {lo:Int}{g:TG}{tb:TS}{D:Ends}(Pv:xO1)(h0:iV 0)
  (hs:∀i σ H,i<n->Cj->x2A (lo+i) H (λ σ2 H2=>tu D wc wc H2)) (hd:∀σ H,iV n->DF):
  ∃W:xO2,(∃m,xPr H)/\∀i m σ H,xPq H->
   (xK6 xVv H/\DF)\/((xVv).go i H/\∃N,(∀σ' H',xHm->Fq (m'<m/\xP5 (i+1) H'))/\∀x H',xLN xVv H x H'->xPb λ σ2 H2=>tu D N N H2):=by
 refine AG (λ i m σ H=>m=n-i/\xJp/\Cj) ⟨n,Z6,AM,h0⟩;rintro i m σ H ⟨rfl,hi,p⟩;by_cases M8:i<n
 ·show Ey (.inr ⟨M8,wc,λ σ' H' p'=>EE (n-(i+1)) aJ M8 p',nK⟩) e y y;subst e y;exact tK σ _ M8 p
 ·have e:i=n:=CC;show rU e ⟨UV,hd σ H p⟩
abbrev R2:=V->xBJ V
def xsl (X:Cx)(f:MW->MW->xAn)(r:R2):Prop:=
 ∀(M6:χ) (s:MX) (σ:St) H x y v u Q,ST->uF->RV->Td y H Q->
  Dt (f v u)
def UnR (X:Cx)(f:MW->xAn)(r:xBJ V):Prop:=
 ∀(M6:χ) (s:MX) (σ:St) H x v Q,ST->uF->Td H Q->
  Dt (f v)
def xwt (X:Cx)(f:MW)(r:um):Prop:=
 ∀(M6:χ) (s:MX) (σ:St) H xs us Q,ST->qx->r xs H Q->
  Dt (call f us)
def Xc (r:R2)(ta tb:TE):TE:=λ σ H Q=>qg (xPD λ y H2=>Td y H2 Q)
def tUn (r:xBJ V)(ta:TE):TE:=λ σ H Q=>qg (Td H1 Q)
inductive xot (C:NK Int Int) (g:Int->Int->V) (x:V) (y:V) (H:Hp) (Q:VK):Prop
 |mk (i:_) (j:_) (h0:x=Eh) (h1:y=QH) (h2:C i j) (h3:Q uU H):xot C g x y H Q
inductive T3 (g:Int->Int->V) (x:V) (y:V) (H:Hp) (Q:VK):Prop
 |mk (i:_) (j:_) (h0:x=Eh) (h1:y=QH) (h2:Q uU H):T3 g x y H Q
inductive xtf (g:Int->V) (x:V) (H:Hp) (Q:VK):Prop
 |mk (i:_) (h0:x=Eh) (h1:Q (g i) H):xtf g x H Q
section
variable {X:Cx}{a b c:M3}{ta tb tc:TE}{pos:Pos}
def binT (ha:kA)(hb:UA){M6:χ}{s:MX}{σ:St}{R:V->V->lI}(I:ST)
  (h:qg (xPD λ y H2=>R x y H2)) {Q:AB} {f:MW->MW->xAn}
  (hf:∀v u s2 x y H2,lu H2 s2->uF->RV->R x y H2->pI (f v u) Q s2):
  yN (Zh a) (λ v s₁=>pI (Zh b) (λ u s₂=>pI (f v u) Q s₂) s₁):=by
 show aL (xB0 v) x;refine EJ (xJ6 _) u s2
 show Cc y H2 I2 r2 q2 z9 (hf v u s2 x y H2 I2 r1 r2 q2)
def ap {op:Operator}{r:R2}(ho:oZ op r)(ha:kA)(hb:UA):Am (.BinOp a op b pos) (Xc r ta tb):=by
 intro M6 s σ H Q I h;exact wpAny_BinOp (x3k hb I h λ v u s2 x y H2 I2 rx ry q=>kj s2 H2 x y v u Q I2 rx ry q)
def xxh {op:UnaryOp}{r:xBJ V}(ho:UnR X (unaryOp op) r)(ha:kA):Am (.UnaryOp op a pos) (tUn r ta):=by
 intro M6 s σ H Q I h;exact UnaryOp_ (dU (xAV _) v s1 z9 (by show Cc x H1 I1 r1 q1 z9 (kj s1 H1 x v Q I1 r1 q1)))
def opI {f:MW->MW->xAn}{g:Int->Int->Int}
  (rule:∀(i j:Int) (t u:Tok) (s:MX) (Q:AB) (E:AB),C i j->Q (x16 uU) xMO->pM (f rj (QH u)) Q E s):
  xJV (xBF C uU):=by
 intro M6 s σ H x y v u Q I rx ry h;show Zj i j rfl hc q;show i7;show qy (xWf j t t' s _ _ hc (bp uU sI CY q))
def xgX {g:Int->Int->Int}
  (rule:∀(i j:Int) (t u:Tok) (s:MX) (Q:AB) (E:AB),Q (x16 uU) xMO->pM (f rj (QH u)) Q E s):
  xJV (T3 (xUQ uU)):=by
 intro M6 s σ H x y v u Q I rx ry h;show dD i j rfl q h;show i7;show qy (xWf j t t' s _ _ (bp uU sI CY q))
def xa4 {f:MW->MW->xAn}{g:Int->lD Int}
  (rule:∀(i j:Int) (t u:Tok) (s:MX) (Q:AB) (E:AB),xTj uU s->pM (f rj (QH u)) Q E s):
  xJV (T3 λ i j=>.bl uU):=by
 intro M6 s σ H x y v u Q I rx ry h;show dD i j rfl q h;show i7;show qy (xWf j t t' s _ _ (Ef uU H I q))
def xcw (i j:Int):Prop:=0<j/\j<1073741824
def xh3 (i j:Int):Prop:=O2 0/\j≤1000000/\i.natAbs<2^64
def CMul (i j:Int):Prop:=(-(2^64)<i/\i<2^64)\/(-(2^64)<j/\j<2^64)
def CMul.ok (h:CMul i j):IntMulOk i j:=by
 rcases h with⟨h1,h2⟩|⟨h1,h2⟩
 ·exact .of_left (x57 h2)
 ·exact .of_right (x57 h2)
def xfp (k):Gl≤2^k:=by
 show LT two_pow_cast vY
def xqU:xPB .Add (i+j):=xNz (add_int q)
def xmw:xPB .Sub (i-j):=xNz (sub_int q)
def xx6:oZ .Mult (xBF CMul (i*j)):=opI λ _ _ _ _ _ _ _ hc q=>mul_int q hc.ok
def xmt:oZ .FloorDiv (xBF xcw (i/j)):=opI λ i j _ _ _ _ _ hc q=>by
 have h1:Gl<j:=eV;have h2:j<1073741824:=hc.2;exact floordiv_int Z5 (by show LT (Mf i (MT h1)) q) (.inl (PyProof.noPylong_small Z4))
def xxB:oZ .Mod (xBF (λ _ j=>0<j) (i%j)):=opI λ i j _ _ _ _ _ hc q=>by
 have h1:Gl<j:=hc;exact mod_int' (Kc (Int.ne_of_lt hc)) (by show LT (Int.fmod_eq_emod_of_nonneg i (MT hc)) q)
def dQ:oZ .LShift (xBF xh3 (i*2^j.toNat)):=opI λ _ _ _ _ _ _ _ hc q=>lshift_int_small eV (A4 hc) (CJ hc) q
def xvW:oZ .RShift (xBF (λ _ j=>O2 0) (i/2^j.toNat)):=opI λ i j _ _ _ _ _ hc q=>
 rshift_int hc (by show LT (Mf i (xfp _)) q)
def xvX:xPB .BitAnd (Builtin.bitAnd i j):=xNz (and_int q)
def xsw:xPB .BitOr (Builtin.bitOr i j):=xNz (or_int q)
def xn3:xPB .BitXor (Builtin.bitXor i j):=xNz (xor_int q)
def unI {g:Int->Int}
  (rule:∀(i:Int) (t:Tok) (s:MX) (Q:AB) (E:AB),Q (x16 (g i)) xMO->pM (f rj) Q E s):
  UnR X f (xtf λ i=>.int (g i)):=by
 intro M6 s σ H x v Q I rx h;show ie i q h;show z8 t rx (xWf t s _ _ (bp (g i) sI CY q))
def xyd:UnR X (unaryOp .USub) (xtf λ i=>xWg i):=unI λ _ _ _ _ _ q=>neg_int q
universe s
def xhR:V->lD V
 | .non,.non=>true| .non,.int _=>true| .int _,.non=>true| .non,.bl _=>true| .bl _,.non=>true| .non,.str _=>true| .str _,.non=>true
 | .int _,.int _=>true| .bl _,.bl _=>true| .str _,.str _=>true| .byt _,.byt _=>true
 | .int _,.str _=>true| .str _,.int _=>true| .bl _,.str _=>true| .str _,.bl _=>true
 |_,_=>false
inductive rEq (x:V) (y:V) (H:Hp) (Q:VK):Prop
 |mk (h0:SB (xhR x y)) (h1:xv (Dy x y)):rEq x y H Q
inductive rNe (x:V) (y:V) (H:Hp) (Q:VK):Prop
 |mk (h0:SB (xhR x y)) (h1:xv (! Dy x y)):rNe x y H Q
def xoM:Dy (V.int i) (V.int j)=(i==j):=by
 show CR KB
def xnD:Dy (V.bl i) (V.bl j)=(i==j):=by
 show CR KB
def xo4:Dy (V.str i) (V.str j)=(i==j):=by
 show CR KB
def xnq:Dy (V.byt i) (V.byt j)=(i.toList==j.toList):=by
 rw [KB];show vS i j;simp
section
variable {X:Cx}{a b c:M3}{ta tb tc:TE}{pos:Pos}
def xdC {M6:χ}{σ:St}{H:Hp}{s:MX}(I:ST)(q:xv k)(e:k=k'):DB (.bool k') s:=by
 show Fs (Ef k H I q)
def xsJ:zQ .Eq rEq:=by
 intro M6 s σ H x y v u Q I rx ry h;show xQh hs q;cases x with
 |non=>
  cases rx;cases y with
  |non=>cases ry;exact PySem.EqNone.eq_none_none gX
  |bl j=>cases ry;exact PySem.EqNone.eq_none_bool gX
  |int j=>show qy (PySem.EqNone.eq_none_int gX)
  |str j=>show qy (PySem.EqNone.eq_none_str gX)
  |_=>show i8
 |bl i=>
  cases rx;cases y with
  |non=>cases ry;exact PySem.EqNone.eq_bool_none gX
  |bl j=>cases ry;exact eq_bool (xu5 xnD)
  |str j=>show qy (PySem.EqMixed.eq_bool_str gX)
  |_=>show i8
 |int i=>
  show i7;cases y with
  |non=>cases ry;exact PySem.EqNone.eq_int_none gX
  |int j=>show qy (eq_int (xu5 xoM))
  |str j=>show qy (PySem.EqMixed.eq_int_str gX)
  |_=>show i8
 |str i=>
  show i7;cases y with
  |non=>cases ry;exact PySem.EqNone.eq_str_none gX
  |bl j=>cases ry;exact PySem.EqMixed.eq_str_bool gX
  |int j=>show qy (PySem.EqMixed.eq_str_int gX)
  |str j=>show qy (eq_str (xu5 xo4))
  |_=>show i8
 |byt i=>
  show i7;cases y with
  |byt j=>show qy (PySem.W.eq_bytes (xu5 xnq))
  |_=>show i8
 |_=>cases y<;>exact absurd xX3 F7
def xvR:xEB rNe:=by
 intro M6 s σ H x y v u Q I rx ry h;show xQh hs q;cases x with
 |non=>
  cases rx;cases y with
  |non=>cases ry;exact PySem.EqNone.ne_none_none gX
  |bl j=>cases ry;exact PySem.EqNone.ne_none_bool gX
  |int j=>show qy (PySem.EqNone.ne_none_int gX)
  |str j=>show qy (PySem.EqNone.ne_none_str gX)
  |_=>show i8
 |bl i=>
  cases rx;cases y with
  |non=>cases ry;exact PySem.EqNone.ne_bool_none gX
  |bl j=>cases ry;exact ne_bool (xV2 xnD)
  |str j=>show qy (PySem.EqMixed.ne_bool_str gX)
  |_=>show i8
 |int i=>
  show i7;cases y with
  |non=>cases ry;exact PySem.EqNone.ne_int_none gX
  |int j=>show qy (ne_int (xV2 xoM))
  |str j=>show qy (PySem.EqMixed.ne_int_str gX)
  |_=>show i8
 |str i=>
  show i7;cases y with
  |non=>cases ry;exact PySem.EqNone.ne_str_none gX
  |bl j=>cases ry;exact PySem.EqMixed.ne_str_bool gX
  |int j=>show qy (PySem.EqMixed.ne_str_int gX)
  |str j=>show qy (ne_str (xV2 xo4))
  |_=>show i8
 |byt i=>
  show i7;cases y with
  |byt j=>show qy (PySem.W.ne_bytes (xV2 xnq))
  |_=>show i8
 |_=>cases y<;>exact absurd xX3 F7
def dZ:zQ .Lt (T3 λ i j=>xFB i j):=xWt (lt_int q)
def xuu:zQ .LtE (T3 λ i j=>.bl (qF i j)):=xWt (le_int q)
def cL:zQ .Gt (T3 λ i j=>xFB j i):=xWt (gt_int q)
def xwT:zQ .GtE (T3 λ i j=>.bl (qF j i)):=xWt (ge_int q)
def xuy:zQ .Is (λ x y H Q=>qj y/\xv (xXt x)):=by
 intro M6 s σ H x y v u Q I rx ry h;show jj rfl q h ry;refine is_none_gen (xu5 ?_);cases x<;>first
  |(cases rx;rfl)
  |(show cj rx)
def xaA:zQ .IsNot (λ x y H Q=>qj y/\xv (! xXt x)):=by
 intro M6 s σ H x y v u Q I rx ry h;show jj rfl q h ry;refine isnot_none_gen (xu5 ?_);cases x<;>first
  |(cases rx;rfl)
  |(show cj rx)
def xmz (b)(h:jZ (op≠ .In))(h2:jZ (op≠ .NotIn)):xKM op b:=xos b h h2
def dH {op:CmpOp}{r:R2}(ho:zQ op r)(ha:kA)(hb:UA)(hm:xKM op b):Am (xSs [op] BH pos) (Xc r ta tb):=by
 intro M6 s σ H Q I h;exact wpAny_Compare1 (x3k hb I h λ v u s2 x y H2 I2 rx ry q=>kj s2 H2 x y v u Q I2 rx ry q) hm
inductive xkX (Q:CL) (x:V) (H':Hp):Prop
 |mk (k:_) (h0:x=.bl k) (h1:Fj k):xkX Q x H'
def xvQ (t:TE):TT:=λ σ H Q=>t σ H (λ x H'=>xkX Q x H')
def xna {op:CmpOp}{r:R2}(ho:zQ op r)(ha:kA)(hb:UA)(hm:xKM op b):gz (xSs [op] BH pos) (xvQ (Xc r ta tb)):=by
 intro M6 s σ H Q I h;refine wpAny_isTrue_Compare1 (thn (xAV _) λ v s1 ⟨x,H1,I1,r1,q1⟩=>thn (xJ6 _) λ u s2 ⟨y,H2,I2,r2,q2⟩=>
  thn (kj s2 H2 x y v u _ I2 r1 r2 q2) (x5M c ?_)) hm
 subst e;cases r3;exact JD ⟨H3,I3,q3⟩
inductive xlv (r':R2) (tc:TE) (σ:St) (Q:VK) (y:V) (z:V) (H3:Hp):Prop
 |mk (k:_) (h0:z=.bl k) (h1:(E1 k (tc σ H3 λ w' H4=>r' y w' H4 Q) (xyp false H3))):xlv r' tc σ Q y z H3
def xbP (r r':R2)(ta tb tc:TE):TE:=λ σ H Q=>qg (xPD λ y H2=>Td y H2 λ z H3=>xlv r' tc σ Q y z H3)
def xpK {op op':CmpOp}{r r':R2}(ho:zQ op r)(Yf:zQ op' r')(ha:kA)(hb:UA)(hc:Am c tc)
  (hm:Ρ (lastMarks [op,op'] [b,c]):=by with_unfolding_all rfl):Am (xSs [op,op'] [b,c] pos) (xbP r r' ta tb tc):=by
 intro M6 s σ H Q I h;refine Compare_chain (thn (xAV _) λ v s1 ⟨x,H1,I1,r1,q1⟩=>chain_link (thn (xJ6 _) λ u s2 ⟨y,H2,I2,r2,q2⟩=>
  thn (kj s2 H2 x y v u _ I2 r1 r2 q2) (x5M d ?_))) hm
 subst e;cases r3;refine JD ?_;cases k with
 |false=>exact ite_ff (Ef false H3 I3 q3)
 |true=>exact ite_tt (chain_last (dU (xGC s3 σ H3 _ I3 q3) w' s4 z9 (by show Cc z' H4 I4 r4 q4 z9 (Yf M6 s4 σ H4 y z' u w' Q I4 r2 r4 q4))))
def xxw:YX sizeLine<2^63:=by show oN J3
def xq5 (r:ko DM):∃u,us=Zo/\Df:=by
 cases r with
 |cons r1 r2=>cases r2;exact Υ r1
def xxk (r:ko [x,y]):∃u w',us=[u,w']/\Df/\RelV y w':=by
 cases r with
 |cons r1 r2=>
  cases r2 with
  |cons r3 r4=>cases r4;exact EE _ _ r1 r3
def xgJ (hc:xuN):xuS X "max" (λ xs H Q=>∃i j,xs=[Eh,QH]/\Zv (if j>i then j else i)):=by
 intro M6 s σ H xs us Q I r h;show Qb i j rfl q;obtain⟨u,w',rfl,⟨t,rfl⟩,⟨t',rfl⟩⟩:=xxk r;refine max_two_ints hc λ h' tk k=>iH H (I.kept k) ?_ q
 by_cases hj:j>i
 ·rw [F8 hj,F8 hj];exact CY
 ·rw [FY hj,FY hj];exact CY
def xd0 (hc:xuN):xuS X "min" (λ xs H Q=>∃i j,xs=[Eh,QH]/\Zv (if j<i then j else i)):=by
 intro M6 s σ H xs us Q I r h;show Qb i j rfl q;obtain⟨u,w',rfl,⟨t,rfl⟩,⟨t',rfl⟩⟩:=xxk r;refine min_two_ints hc λ h' tk k=>iH H (I.kept k) ?_ q
 by_cases hj:j<i
 ·rw [F8 hj,F8 hj];exact CY
 ·rw [FY hj,FY hj];exact CY
def xlZ:xwt X xyN (λ xs H Q=>(∃i,xs=[Eh]/\Q Eh H)\/∃k,xs=[.bl k]/\Zv (xO3 k 1)):=by
 intro M6 s σ H xs us Q I r h;rcases h with⟨i,rfl,q⟩|⟨k,rfl,q⟩
 ·show Bj u rfl t rfl xB8 (call_int_int (BO Eh I CY q))
 ·show uV u r1 xB8 r1;exact call_int_bool (bp (xO3 k 1) sI CY q)
universe s
structure xxM (h:M2)(x dx C:MV)(mA:Β):Prop where
 obj:Tr x x2O
 ns:xVD dx
 ne:dx≠x
def wE {h:M2}(n:xVD dx):∃od,Tr dx od/\∀name,SL (lookIn name od) xTk:=by
 obtain⟨o,es,ep,ho,hd,hk,_,hm⟩:=n;refine rH ho (o6 name);have e:=hm name;unfold nsFind findBy at e;rw [<-Array.find?_toList] at e;show CS lookIn hd;dsimp only
 split
 ·rename_i y q
  show ρ q e (xyP e)
 ·rename_i q
  rw [q] at e;have a:Ρ x4Q:=by
   rw [List.any_eq_false];intro y hy;obtain⟨z,t,PZ⟩:=hk y (Array.mem_toList_iff.mp hy);simp [DictEntry.refKey,PZ]
  have a':¬SB x4Q:=by show LT a F7
  show iL a' (xyP e)
def xxM.look (I:xxM h x dx C mA):∃od,xVE h x2O C (some od)/\∀name,SL (lookIn name od) xTk:=
 let⟨od,ho,hl⟩:=wE I.ns
 ⟨od,VT I.obj rfl ho,hl⟩
section
variable {prog:MY}{w:MZ}{A:M1}{E:AB}{s:MX}{K:Frag}{x dx C f:MV}{mA:Β}{name:Str}{v:MW}
def xiv (X:yR)(I:x1l x dx C mA)(hg:SB (xSu C name))(hh:xRL K C)
  (ha:xXK name) (hv:aU xTk) (hv':SB (handedIn v)) (h:Q v xMO):
  qk (getAttr Cw name expr):=by
 show B8 od J hl I.look (PySem.W.get_value X J (L7 hg).1 (PySem.W.findObj_own hh ha rfl (by rw [hl,hv])) hv' h)
def xht (X:yR)(I:x1l x dx C mA)(hg:SB (xSu C name))
  (hf:m9 name ik) (ht:xJZ) (hv:WF xTk) (h:Q (yv,[Cw]) s):
  qk (getMethod Cw name pl):=by
 show B8 od J hl I.look (PySem.W.method_fn X J (L7 hg).1 (L7 hg).2 hf (Hb.mp ht) (by show(lookIn name od).map (·.isSome)=some false;rw [hl,hv];rfl) h)
def xao (X:yR)(I:x1l x dx C mA)
  (hs:m9 "__setattr__" x4K) (hp:SB (plainOver K C)) (ht:SL (takerIn K C name) none) (hh:xRL K C)
  (hw:x4C ns) (hsz:x8x)
  (h:∀h',xxM h' x dx C (λ y=>EK y name wA (mA y))->xKF dx h'->fP (vj h' (s.toks+2))):
  qk (setAttr Cw name v):=by
 show Bq od J hl I.look (PySem.W.set_plain X J hs (PySem.W.osa_open X J hp ht (o6 b)));show Zy cd hc hd' (LL hh) hx (wR x ⟨Ap,some dx,.plain,#[]⟩) I.obj;show AR (xz7 (FG (wpAny_loadPart hx (FG (Looks.here (PySem.W.looks_clsIn X hc) ?_)))));show ug hd' (xz7 (xz7 ?_)) (wpAny_nsSet1 I.ns (dC Ss PV))
 obtain⟨oD,esD,epD,hoD,hdD,hcD⟩:=Ss.count (PySem.Within.cons name v hw);show AR (wpAny_lookBehind hoD (by show LT hdD (pastItsLine_dict (FK hcD (by show LT F2 (HN hsz 1))))) ?_);exact F3 (vZ ⟨vL PV _ (Kc I.ne) I.obj,Ss,I.ne⟩ PV)
def xii (X:yR)(hm:xy9 K C)
  (hi:xzd K Ap ik) (hf:SL (typeIn K yv) (.type "function"))
  (h:xuP QK (xy1 ⟨Ap::vs,kw⟩) yv ⟨xzB::vs,kw⟩ (InitBack K' R) (vk xBW)):
  xuP QK A Ap ⟨vs,kw⟩ R s:=by
 show Cc hh g d t os s (make_core (ML X hm) (KI X hi) (λ self=>PySem.W.bind_fn X self hf) Dm h)
def xgj (X:yR)(hm:xy9 K C)
  (hi:xzd K Ap (some xKp))
  (hb:∀self,Looks QK s.heap (bindSpecial xKp self) (xKp,[self]))
  (h:xuP QK (xy1 (WD [Ap])) xKp (WD [xzB]) (InitBack K' R) (vk xBW)):
  xuP QK A Ap (WD []) R s:=by
 show Cc hh g d t os s (make_core (ML X hm) (KI X hi) hb eQ h)
universe s
def putF (f:Str) (v:V):qw->qw
 | []=>[(f,v)]
 |(g,x)::r=>EK g f ((g,v)::r) ((g,x)::ra r)
theorem ar (f g)(v):∀fs,(xUy).lookup g=EK g f wA (fs.lookup g)
 | []=>by
  show List.lookup g [(f,v)]=_;by_cases h:g=f
  ·have hb:SB (g==f):=x2f;show xLm hb Qp
  ·have hb:Ρ (g==f):=x2g;show xLm hb Qo
 |(k,x)::r=>by
  have ih:=ar f g v r;rw [Sd (ra ((k,x)::r)) (EK k f ((k,v)::r) ((k,x)::ra r))];by_cases hk:k=f
  ·rw [F8 hk];by_cases h:g=k
   ·have hb:SB (g==k):=x2f;show xLm hb (F8 (h.trans hk))
   ·have hb:Ρ (g==k):=x2g;show xLm hb (FY (λ e:g=f=>h (e.trans hk.symm)))
  ·rw [FY hk];by_cases h:g=k
   ·have hb:SB (g==k):=x2f;show xLm hb (FY (λ e:g=f=>hk (h.symm.trans e)))
   ·have hb:Ρ (g==k):=x2g;simp only [List.lookup,hb];exact ih
theorem xq3 (f)(v):∀fs,f∈(xUy).map (·.1)/\∀g,g∈fs.map (·.1)->g∈(xUy).map (·.1)
 | []=>vV (by simp [putF]) g h (by show DK)
 |(k,x)::r=>by
  obtain⟨i1,i2⟩:=xq3 f v r;rw [Sd (ra ((k,x)::r)) (EK k f ((k,v)::r) ((k,x)::ra r))];by_cases hk:k=f
  ·rw [F8 hk];subst hk;show A5 Z6 (λ g h=>by show kY)
  ·show xBH hk (Bh ?_ g h)
   ·show LT HH (qM i1)
   ·rw [HH] at h ⊢;show WX h e e
    ·exact F9.mpr xTv
    ·exact qM (i2 g e)
theorem xma (f)(v):∀fs,El xUy (fs.length+1)
 | []=>by simp [putF]
 |(k,x)::r=>by
  have ih:=xma f v r;rw [Sd (ra ((k,x)::r)) (EK k f ((k,v)::r) ((k,x)::ra r))];by_cases hk:k=f
  ·rw [F8 hk,F2,F2];exact xF0
  ·rw [FY hk,F2,F2];exact HN ih 1
def Ph.some_of (r:Ph wA o):∃u,UI o/\fZ:=by
 cases o with
 |none=>show UO xSj
 |some u=>exact lM u r
def Ph.none_of (r:Ph none o):WF o:=by
 cases o with
 |none=>rfl
 |some u=>show UO xSj
def xgc (r:fZ):SB (handedIn u):=by
 cases v with
 |non=>cases uy Value.none r;rfl
 |bl b=>cases uy x74 r;rfl
 |int i=>show jj t e (xzF (∃t,u=xzg i)) e;rfl
 |str x=>show jj t e (xzF (∃t,u=xLL x)) e;rfl
 |byt b=>show jj t e (xzF (∃t,u=x7u t)) e;rfl
 |flt b=>show jj t e (xzF (∃t,u=x0r b)) e;rfl
 |ref a=>cases uy tF r;rfl
 |ty n=>cases uy x75 r;rfl
section
variable {P:MY}{w:MZ}{H H':Hp}{h h':M2}{a C dx:MV}{fs fs':qw}
def xes (hok:RK)(e:XL=rW):∃mA,xxM h a dx C mA/\(∀f,Ph xK4 (mA f))/\x5L/\x8B/\OA dx a:=by
 obtain⟨d,z,ne,ob,mA,n,r,q⟩:=(show BY xPz from hok a _ e);exact⟨mA,⟨ob,n,ne⟩,r,q,z,d⟩
universe s
structure Cls (K:Frag)(C:MV):Prop where
 pg:SB (xSu C Str.empty)
 hd:xRL K C
 po:SB (plainOver K C)
 sa:m9 "__setattr__" x4K
def Cls.get {K:Frag}(c:yZ)(f):SB (xSu C f):=c.pg
def NoAttr (K:Frag)(C:MV)(f:Str):Prop:=xXK f
def NoAttr.taker {K:Frag}(n:fj f):SL (takerIn K C f) none:=by
 show CS takerIn (show xXK f from n);rfl
structure Meth (K:Frag)(C:MV)(m:Str)(f:MV):Prop where
 at_:m9 m ik
 fn:xJZ
 kp:RO
section
variable {X:Cx}{M6:χ}{σ:St}{H:Hp}{s:MX}{a C dx:MV}{fs:qw}{f:Str}{v:V}{A:M1}{E:AB}
def xfU {b:Bool}{Q:AB}(I:ST)(e:XL=rW)(c:Wb)(n:NoAttr X.K C f)(l:aU xK4)
  (h:∀u s',xBb->fZ->Q u s'):uJ (getAttr ω f b) Q E s:=by
 obtain⟨mA,O,r,_,_,_⟩:=xTw e;show B8 u hu ru (Ph.some_of (v:=v) (o:=mA f) (by show Bg l (r f))) (xiv I.kIn O (c.get f) c.hd n hu (xgc ru) (h u _ sI ru))
def xdV {m:Str}{g:MV}{pl:cX}(I:ST)(e:XL=rW)(c:Wb)(k:xNR m g)(l:xZr m)
  (h:Q (.ref g,CV) s):uJ (getMethod ω m pl) Q E s:=by
 obtain⟨mA,O,r,_,_,_⟩:=xTw e;have hn:WF (mA m):=Ph.none_of (by show Bg l (r m));exact xht I.kIn O (c.get m) k.at_ k.fn hn h
def xfB {y:V}{u:MW}{Q:W8 Unit}(I:ST)(e:XL=rW)(c:Wb)(n:NoAttr X.K C f)(hl:x8H)(ry:RV)
  (h:∀s',lu (Tj H a C (xQH y fs)) s'->xPl):uJ (setAttr ω f u) Q E s:=by
 obtain⟨mA,O,r,wi,_,ho⟩:=xTw e;have hz:x23 (fs.map (·.1)):=by rw [Fy,J3];exact gQ (Gi hl)
 refine xao I.kIn O c.sa c.po n.taker c.hd wi hz λ h' O' sb=>xW7
 have hd:∃o,h'.get? dx=IO:=let⟨o,_,_,e',_⟩:=O'.ns;xHy e';show Wp (I.write (by show x1S) (.inr ho) (λ b q hb z=>vL sb b hb z) hd ?_) ⟨by show XV O.ne ho,?_,O.ne,O'.obj,_,O'.ns,o6 g,SC g hg⟩
 ·show AY (xma f y fs) (FK this hl)
 ·show Ph ((xQH y fs).lookup g) (xAm g f u (mA g));rw [ar];by_cases q:g=f
  ·rw [F8 q,F8 q];exact ry
  ·rw [FY q,FY q];exact r g
 ·by_cases q:g=f
  ·show LT q (xq3 f y fs).1
  ·refine(xq3 f y fs).2 g (wi g (Re (hg ?_)));show WF (xAm g f u (mA g));show iL q z
def Inv.made (I:ST):lu (UD (O9 s.heap.objs.size K') K' C s.heap.objs.size) (vk xBW):=by
 have e1:wH xKg s.heap.objs.size emptyDict:=G1 s.heap rfl;have e2:wH xBW K' (xKf C):=by
  have:=G1 xKg (o:=xKf C) rfl
  rwa [KM] at this
 have e3:(xKg).Ns s.heap.objs.size xKC:=Qc emptyDict #[] _ e1 (px e he he Z6) E2;have I1:=I.laid (a:=s.heap.objs.size) (o:=.own K') (t':=s.toks) (λ b u q=>Xz) UV (Bt e1);refine I1.laid (λ b u q=>Xz) (Fz (KM _ _)) ?_;have ne:s.heap.objs.size≠K':=x3E;refine⟨by rw [ai ne,ad],AM,ne,e2,xKC,(Heap.Ns1.of_empty e3).at λ o q=>Xz,λ _=>True.intro,px y hy rfl hy⟩
def xaf (hb:attributeBase e f env (zt e)=zt e)
  (h:xK (zt e) (λ o s₁=>xzw (getAttr o f true) s₁) E s):qk (zt (xLu e pos)):=
 Attribute_any_ h (by rw [arm_eval_Attribute,hb])
universe s
inductive xk7 (K:Frag) (f:Str) (Q:VK) (x:V) (H1:Hp):Prop
 |mk (a:_) (C:_) (dx:_) (fs:_) (v:_) (h0:x=ω) (h1:H1 a=rW) (h2:yZ) (h3:fj f) (h4:aU xK4) (h5:Q v H1):xk7 K f Q x H1
def xiB (K:Frag)(ta:TE)(f:Str):TE:=λ σ H Q=>qg (xk7 K f Q x H1)
inductive xnh (K:Frag) (f:Str) (D:Ends) (σ:St) (y:V) (x:V) (H2:Hp):Prop
 |mk (a:_) (C:_) (dx:_) (fs:_) (h0:x=ω) (h1:H2 a=rW) (h2:yZ) (h3:fj f) (h4:x8H) (h5:xKD (Tj H2 a C (xQH y fs))):xnh K f D σ y x H2
def xcx (K:Frag)(ta tv:TE)(f:Str):TS:=λ D σ H=>tv σ H λ y H1=>ta σ H1 λ x H2=>xnh K f D σ y x H2
section
variable {X:Cx}{o e value:M3}{f:Str}{pos pos' tpos:Pos}{ta tv:TE}
def xsP (he:Am e ta)(hb:xQ4 e f xGc=xGc):Am (xLu e pos) (xiB X.K ta f):=by
 intro M6 s σ H Q I h;refine xaf hb (ag H _ I h u);obtain⟨x,H1,I1,rx,a,C,dx,fs,v,ex,ea,c,n,l,q⟩:=z9;subst ex;obtain rfl:u=tF:=rx;exact xfU I1 ea c n l λ u' s2 I2 ru=>⟨v,H1,I2,ru,q⟩
def xnc (ha:sU)(hv:Am value tv)(hs:xUb value (some (xLu o pos'))=xLI):xEl X [xLu o pos'] value pos (xcx X.K ta tv f):=by
 intro M6 s σ H D I h;refine plainObj_wpAny_Assign_Attribute (thn (hv M6 s σ H _ I h) λ u s1 ⟨y,H1,I1,ry,q⟩=>EJ (xRb s1 H1 _ I1 q) ov s2) hs;obtain⟨x,H2,I2,rx,a,C,dx,fs,ex,ea,c,n,l,q2⟩:=z9;subst ex;obtain rfl:ov=tF:=rx;exact xfB I2 ea c n l ry λ s3 I3=>uW _ I3 q2
universe s
section
variable {X:Cx}{M6:χ}{σ:St}{H:Hp}{s:MX}{A:M1}{E:AB}{Q:AB}{c:MW}{b:Bool}
inductive xqz (K:Frag) (H:Hp):NK V MW where
 |non:iG .non (.type "NoneType")
 |bl (x:Bool):iG (.bl x) xDu
 |int (i:Int):iG Eh xyN
 |str (x:Str):iG QW (.type "str")
 |flt (x:UInt64):iG (.flt x) (.type "float")
 |lst {a:MV} {xs:NE} (e:XL=Ar):xHf kh
 |frz {a:MV} {o:M4} {xs:NE} (e:uT (.frz o xEq)):xHf kh
 |tup {a:MV} {xs:NE} (e:x8 XL):xHf xDw
 |dK {a:MV} {Nj:yx Key V} (e:uT Od):xHf xRq
 |dT {a:MV} {Nj:xG9} (e:xPt):xHf xRq
 |ins {a C dx:MV} {fs:qw} (e:XL=rW) (cl:yZ) (ha:m9 "__class__" (some jE))
   (hn:SL (specialIn K jE "__get__") (some xKl)) (htk:xy7 (takesIn K jE))
   (hm:xzE K C xKN):xHf Ap
def xf6 {x:V}{u t:MW}(I:ST)(rx:Df)(ty:xqz X.K H x t)(e:SL (kitOne X.K t c) b)(h:∀tk,xTj b (xYl tk)):
  uJ (xuL "isinstance" [u,c]) Q E s:=by
 cases ty with
 |non=>cases uy Value.none rx;exact xLb PySem.W.kitx_none e BQ h
 |bl y=>cases uy (Value.bool y) rx;exact xLb PySem.W.kitx_bool e BQ h
 |int i=>show jj t q (show∃t,u=xzg i from rx) q;exact xLb PySem.W.kitx_int e BQ h
 |str y=>show jj t q (show∃t,u=xLL y from rx) q;exact xLb PySem.W.kitx_str e BQ h
 |flt y=>show jj t q (show∃t,u=x0r y from rx) q;exact xLb PySem.W.kitx_float e BQ h
 | @lst a xs ea=>
  cases xHl;obtain⟨_,_,n,_,h1⟩:=(xPP (xMj H a xEq));exact x8E (m7 h1) e BQ h
 | @frz a ob xs ea=>
  cases xHl;obtain⟨_,_,_,n,_,h1⟩:=(xPP (xMj H a (.frz ob xEq)));exact x8E (m7 h1) e BQ h
 | @tup a xs ea=>
  cases xHl;obtain⟨_,_,_,p⟩:=(xPP (xMj H a (.tup xs)));obtain⟨o,h1,h2,_⟩:=p;exact xDv PySem.W.kitx_tuple (rH h1 h2) e BQ h
 | @dK a Nj ea=>
  cases xHl;obtain⟨_,_,vs,_,p⟩:=(xPP (xMj H a Od));obtain⟨o,es,ep,h1,h2,_⟩:=p;exact x8F (rH h1 gp) e BQ h
 | @dT a Nj ea=>
  cases xHl;obtain⟨_,_,xs,_,o,es,ep,h1,h2,_⟩:=(xPP (xMj H a jz));exact x8F (rH h1 gp) e BQ h
 | @ins a C dx fs ea cl ha hn htk hm=>
  cases xHl;obtain⟨mA,O,_⟩:=xTw ea;show xO5 od J O.look (xDv (PySem.W.kitx_own (cl.get _) cl.hd ha hn htk hm) J e BQ h)
universe s
structure M' (k:Nat)(A:M1):Prop where
 hd:30≤k->xZM
 dp:x0u (xPX (3*k)+5)
 un:xDZ (16*k)+200<cLine
 gd:SL A.guards []
def M'.mono (r:xCz)(h:j≤k):M' j A:=⟨xTs (FK z h),by show AY r.dp (Bu [_,_,_,_] (WJ 3 (xP3 (RA 3))) (Tv 3 Tm) x28 Tm (FE 3 h) this),by show AY r.un (Bu [_,_,_,_] (WJ 16 (xEG (RA 16))) (Tv 16 Tm) (xEG xMs) Tm (FE 16 h) this),r.gd⟩
theorem M'.deeper (r:M' (k+1) A)(env):xDN k env:=
 ⟨xTs (HL z),by have:=r.dp;show xPX 1+3*k+5<_;exact(cY x27 Tm (p8 (lF (ER 3)) 5) Tm),by have:=r.un;show xDZ 3+16*k+200<_;exact(cY x2V Tm (p8 (.a rg xMs) 200) Tm),r.gd⟩
theorem M'.in1 (r:M' (k+1) A):M' k A.in1:=
 ⟨xTs (HL z),by have:=r.dp;show xPX (3*k)+5<_;exact(cY x27 Tm x28 Tm),by have:=r.un;show xDZ 1+16*k+200<_;exact(cY x2V Tm (p8 (lF xMs) 200) Tm),r.gd⟩
def xfX {A:M1}:(xy1 ⟨Ap::us,kw⟩).depth=xPX 1:=by
 first|rfl|simp [Around.under,Code.weight,Code.isCreation,Code.isGuard,Code.isCaller,Code.frames,Code.isFrame,guardIds]
def xe4 {A:M1}:(xy1 ⟨Ap::us,kw⟩).units=xDZ 1:=by
 first|rfl|simp [Around.under,Code.cUnits,Code.frames,Code.isFrame]
def xc8 {A:M1}:(xy1 ⟨Ap::us,kw⟩).guards=A.guards:=by
 first|rfl|simp [Around.under,Code.guards,Code.isGuard,guardIds,pushGuards]
def M'.make (r:M' (k+1) A)(C)(us)(kw):M' k (xy1 ⟨Ap::us,kw⟩):=
 ⟨xTs (HL z),by have:=r.dp;show LT xfX (cY x27 Tm (p8 (lF (ER 3)) 5) Tm),by have:=r.un;show LT xe4 (cY x2V Tm (p8 (lF xMs) 200) Tm),xc8.trans r.gd⟩
theorem M'.depth (r:xCz):x0u A.depth:=by show AY r.dp (cY (xP3 (pN 3)) Os On Os)
theorem M'.units (r:xCz):xFR 64:=by show AY r.un (cY x2U Os xUi Os)
def M'.units0 {k:Nat}{A:M1}(r:xCz):x07:=by show AY r.un (cY x2U Os On Os)
def iw:TA:=λ _ H Q=>Q [] H
def xva (ta:TE)(tr:TA):TA:=λ σ H Q=>qg (tr σ H1 λ xs H2=>Q (x::xs) H2)
section
variable {X:Cx}{e:M3}{es:zq}{te:TE}{t:TA}{pos:Pos}
def xqT:iy [] iw:=λ _ _ _ _ H Q I h=>Calls.spliced_nil (BO [] I .nil h)
def aa (ha:yM)(hr:iy es t)(hs:Κ (lV=wo::lp)):iy Fv (xva te t):=by
 intro pos M6 s σ H Q I h;rw [hs];show QD (spliced (wo::xzn es));refine Calls.spliced_cons (xB0 u);show Cc x H1 I1 r1 q1 z9 (dU (hr pos M6 s1 σ H1 _ I1 q1) us s2 z9 (by show Cc xs H2 I2 r2 q2 z9 ⟨x::xs,H2,I2,.cons r1 r2,q2⟩))
inductive xk8 (Q:VK) (xs:NE) (H1:Hp):Prop
 |mk (h0:kP) (h1:∀p,vz p->tB (dt H1 p xs)):xk8 Q xs H1
def xrh (t:TA):TE:=λ σ H Q=>SY xs (xk8 Q xs H1)
inductive xqg (Q:VK) (xs:NE) (H1:Hp):Prop
 |mk (h0:kP) (h1:∀p,vz p->tB (E4 H1 p xs)):xqg Q xs H1
def xxg (t:TA):TE:=λ σ H Q=>SY xs (xqg Q xs H1)
def xvt {x1}(h:iy es t):Am (xSS x1 pos) (xrh t):=by
 intro M6 s σ H Q I hq;refine wpAny_Tuple_spliced (thn (h pos M6 s σ H _ I hq) λ us s1 ⟨xs,H1,I1,r,z,q⟩=>Fh (by show Bg r.length z));have hf:x5j:=xQy;refine Vj x45 (dt H1 s1.heap.objs.size xs) (x0v s1.toks (λ b u e=>rR) UV ?_) (q _ hf);exact⟨z,us,r,EE _ vq _ rfl⟩
def aK (h:iy es t):Am (.List es pos) (xxg t):=by
 intro M6 s σ H Q I hq;refine wpAny_List_spliced (thn (h pos M6 s σ H _ I hq) λ us s1 ⟨xs,H1,I1,r,z,q⟩=>Fh (by show Bg r.length z));have hf:x5j:=xQy;refine Vj x45 (E4 H1 s1.heap.objs.size xs) (x0v s1.toks (λ b u e=>rR) UV ?_) (q _ hf);exact⟨z,us,0,r,vq⟩
universe s
abbrev Sp:=NE->Hp->NK VK XK
abbrev YA:=w4->Hp->MX->XK->AB
structure xxQ (P:MY)(w:MZ)(K:Frag)(mg:Β)(base:M2)(A:M1)(outer:w4)(s:MX)(H:Hp):Prop where
 frames:x13 outer
 mod:Mod K mg base
 bs:∀b o,base.get? b=IO->Bc=IO/\Ee
 bsz:base.objs.size≤s.heap.objs.size
 funs:xYi outer
 frf:lH xZ1 Ee
 hok:aP H s.heap
 bare:x65
 qt:xqw A H
def xiD (outer:w4)(P:MY)(w:MZ)(H:Hp)(s:MX)(Q:VK)(u:MW)(s':MX):Prop:=
 ∃v H',x33/\xDq/\Un xZ1 [] H H' s.heap s'.heap/\aP H' s'.heap/\fZ/\xCd
def xbI (CX:YA)(outer:w4)(P:MY)(w:MZ)(H:Hp)(s:MX)(Q:VK)(E:XK)(r:Result)(s':MX):Prop:=
 match r with
 | .ok (.ret u)=>x2h P w H s Q u s'
 | .ok _=>False
 | .error e=>x2i H s E e s'
structure y' (P:MY)(w:MZ)(K:Frag)(mg:Β)(base:M2)(CX:YA)(k:Nat)(f:MV)(fd:M0)(ps:An)(sp:Sp):Prop where
 len:∀vs H Q E,qr->iJ
 run:∀(A:M1) (outer:w4) (s:MX) (H:Hp) (args:Args) (us:B5) (vs:NE) (Q:VK) (E:XK),xCz->xHY K mg A s H->BindsTo s fd args xD0->xBd->qr->
  xuP x35 A yv args (xbI CX outer P w H s Q E) s
theorem y'.mono {P:MY}{K:Frag}(F:xJG j sp)(h:j≤k):
  xJG k sp:=⟨F.len,λ A outer s H args us vs Q E hr=>xSM A s H args us vs Q E (hr.mono h)⟩
def y'.imp {P:MY}{K:Frag}(F:xJG k sp)
  (h:∀vs H Q E,sp' vs H Q E->qr):xJG k sp':=
 ⟨λ vs H Q E q=>F.len vs H Q E (jv _ _ q),λ A outer s H args us vs Q E hr he hb hv hs=>xSM A s H args us vs Q E hr he hb hv (jv _ _ hs)⟩
def xxQ.make {K:Frag}(e:xHY K mg A s H)(C)(us)(kw):
  xHY K mg (xy1 ⟨Ap::us,kw⟩) s H:=⟨by first|exact e.frames|(simpa [Around.under,Code.envs,Code.isFrame,pushEnvs] using e.frames),e.mod,e.bs,e.bsz,e.funs,e.frf,e.hok,e.bare,e.qt⟩
theorem xxQ.in1 {K:Frag}(e:xHY K mg A s H):
  xHY K mg A.in1 s H:=⟨e.frames,e.mod,e.bs,e.bsz,e.funs,e.frf,e.hok,e.bare,e.qt⟩
section
variable {X:Cx}{M6:χ}{σ:St}{H:Hp}{s s':MX}
def Inv.env0 (I:ST):xxQ X.prog X.w X.K X.mg X.base X.A X.stack s H:=
 ⟨I.ok.frames,I.ok.mod,I.bs,xRY I.sz,I.stack,I.stkFree,I.hok,I.bare,I.qt⟩
def Inv.after {Q:VK}{u:MW}(I:ST)(h:xiD X.stack X.prog X.w H s Q u s'):DB u s':=by
 show jx v H' os bare un hok r q;obtain⟨hh,g,d,t,os'⟩:=s';obtain rfl:os'=s.os:=os;exact⟨v,H',I.call (h':=hh) (g':=g) (d':=d) (t':=t) (ch:=[]) un hok bare (px b z z Z6),r,q⟩
universe s
def xwW (sp:Sp)(OS:NE)(E:XK)(t:TA):TE:=λ σ H Q=>SY vs (sp (vs++OS) H1 Q E)
inductive xkT (C:MV) (m:Str) (sp:Sp) (OS:NE) (E:XK) (t:TA) (σ:St) (Q:VK) (x:V) (H1:Hp):Prop
 |mk (a:_) (dx:_) (fs:_) (h0:x=ω) (h1:H1 a=rW) (h2:xZr m) (h3:t σ H1 λ vs H2=>sp (x::(vs++OS)) H2 Q E):xkT C m sp OS E t σ Q x H1
def xmW (C:MV)(m:Str)(sp:Sp)(OS:NE)(E:XK)(ta:TE)(t:TA):TE:=λ σ H Q=>qg (xkT C m sp OS E t σ Q x H1)
def xiH (C:MV)(sp:Sp)(OS:NE)(E:XK)(t:TA):TE:=λ σ H Q=>SY vs (∀x dx,vz x->vz dx->dx≠x->
 sp (Cw::(vs++OS)) (Tj (eO H1 dx x) x C []) (λ v H2=>qj v/\Q Cw H2) E)
def Binds (K:Frag)(fd:M0)(ps:An)(ds:B5):Prop:=
 ∀s us,yR->xyE (Vg us ds)->xAE s us (ps.zip (us++ds))
def Binds.all {K:Frag}{fd:M0}(h:∀us:B5,xyE us.length->x1H fd us=pure xD0):de:=λ s us _ hl=>by
 show UQ GU hl (.of_eq (h us hl))
def xwz (CX:YA)(X:Cx)(E:XK):Prop:=∀(M6:χ) (σ:St) (H:Hp) s e s',ST->CX X.stack H s E e s'->X.xe e s'
section
variable {X:Cx}{CX:YA}{k:Nat}{f C:MV}{fd:M0}{ps:An}{sp:Sp}{OS:NE}{ds:B5}{E:XK}{x m:Str}{p pos apos:Pos}{e o:M3}{es:zq}{ta:TE}{t:TA}
def xmf {M6:χ}{σ:St}{H:Hp}{s:MX}{Q:VK}{us:B5}(F:Zp)(hr:RS)(hb:lW)(hd:ll)(hx:OW)
  (I:ST) (r:xBd) (h:sp (vs++OS) H Q E):Dt (xK8 us):=by
 have r2:Vals (vs++OS) (us++ds):=xZz;have hl:xyE (Vg us ds):=by show Bg r2.length (xUY _ _ _ h)
 refine Lp (KU (xRS X.A s H (WD us) (us++ds) (vs++OS) Q E hr I.env0 (hb s us I.kIn hl) r2 h) (nA r hq));cases r with
 |error e=>exact hx M6 σ H s e s' I hq
 |ok fl=>
  cases fl with
  |ret u=>exact I.after hq
  |next=>show iQ
  |brk=>show iQ
  |cont=>show iQ
def bv (F:Zp)(hr:RS)(hg:tR)(hm:W0=ik)(hk:ix X.K yv)(hb:lW)(hd:ll)(hx:OW)
  (ha:uC) (Ue:sS) (he:Κ (lV=wo::lp)) (OE:ja):
  rf x p Fv [] (xwW sp OS E t):=by
 intro M6 s σ H Q I h;show Wp (xHE I ?_ Ue) (JX (h₀:=X.base) I.ok.mod.kin hk (thn xF6 (xY1 us s1 I1.kIn)) he OE);exact xmf F hr hb hd hx I1 r q
def xlA (F:Zp)(hr:RS)(hg:tR)(hm:W0=ik)(hk:ix X.K yv)(hb:lW)(hd:ll)(hx:OW)
  (Ue:sS):rf x p [] [] (xwW sp OS E iw):=by
 intro M6 s σ H Q I h;refine xHE I ?_ Ue;exact x2j hk (xNX [] F hr hb hd hx I .nil h)
def xx7 {pl:cX}(he:sU)(c:Wb)(hm:xNR m f)(F:Zp)(hr:RS)(hb:lW)(hd:ll)(hx:OW)(ha:uC)
    (OR:Κ (lV=wo::lp)) (OE:ja)
    (ht:Κ (fQ o m Fv=(do
      let ov<-ZT
      xuE
      let(f,first)<-xuG uR ov m pl
      nJ f Fv))):
    fK o m Fv (xJJ OS E ta t):=by
  intro M6 s σ H Q I h
  refine xPx (ag H _ I h u) ht
  obtain⟨x,H1,I1,rx,a,dx,fs,ex,ea,l,q⟩:=z9
  subst ex
  obtain rfl:u=tF:=rx
  show Wp xJ4 (JX (first:=CV) (h₀:=X.base) I.ok.mod.kin hm.kp (thn (xRt s1 H1 _ I1 q) (xYO us s2 I2.kIn)) OR OE)
  exact xNX (ω::us) (vs:=ω::vs) F hr hb hd hx I2 x3L q2
def xhm {pl:cX}(he:sU)(c:Wb)(hm:xNR m f)(F:Zp)(hr:RS)(hb:lW)(hd:ll)(hx:OW)
    (ht:Κ (fQ o m []=(do
      let ov<-ZT
      xuE
      let(f,first)<-xuG uR ov m pl
      nJ f []))):
    fK o m [] (xJJ OS E ta iw):=by
  intro M6 s σ H Q I h
  refine xPx (ag H _ I h u) ht
  obtain⟨x,H1,I1,rx,a,dx,fs,ex,ea,l,q⟩:=z9
  subst ex
  obtain rfl:u=tF:=rx
  refine xJ4
  exact x1Y CV I1.kIn hm.kp (xNX CV (vs:=CV) F hr hb hd hx I1 xTf q)
structure xso (K:Frag)(C f:MV):Prop where
 makes:xy9 K C
 init:xzd K Ap ik
 fn:xJZ
 kp:ix K Ap
def xlP {M6:χ}{σ:St}{H:Hp}{s:MX}{Q:VK}{us:B5}(M:xso X.K C f)(F:Zp)(hr:xyL (k+1))(hb:lW)(hd:ll)
  (hx:OW) (I:ST) (r:xBd)
  (h:∀x dx,A1 x->A1 dx->dx≠x->sp (Cw::(vs++OS)) (Tj (O9 dx x) x C []) (λ v H2=>qj v/\Q Cw H2) E):
  Dt (call Ap us):=by
 have hq:=x7A K' x5K pD x3E;have I2:=Inv.made (C:=C) I;have r2:Vals (V.ref K'::(vs++OS)) (gB K' (us++ds)):=.cons rfl xZz;have hl:xyE (Vg (gB K' us) ds):=by
  have e:=r2.length;show ρ (xUY _ _ _ hq) e e.symm
 refine Lp (xii I.kIn M.makes M.init (Hb.mp M.fn) (KU (xRS _ _ _ (WD (gB K' us)) (gB K' (us++ds)) _ _ E (hr.make C us []) (I2.env0.make C us []) (rD (gB K' us) I2.kIn hl) r2 hq) (nA r Sr)))
 cases r with
 |error e=>exact hx M6 σ _ _ e s' I2 Sr
 |ok fl=>
  cases fl with
  |ret u=>
   obtain⟨v,H',I3,rv,ev,q3⟩:=I2.after Sr;subst ev;show A5 rv (Vj (V.ref K') H' I3 q3)
  |next=>show pH Sr
  |brk=>show pH Sr
  |cont=>show pH Sr
def xvi (M:xso X.K C f)(F:Zp)(hr:xyL (k+1))(hg:tR)(hm:W0=xM)(hb:lW)(hd:ll)(hx:OW)
  (ha:uC) (Ue:sS) (he:Κ (lV=wo::lp)) (OE:ja):
  rf x p Fv [] (xiH C sp OS E t):=by
 intro M6 s σ H Q I h;show Wp (xHE I ?_ Ue) (JX (h₀:=X.base) I.ok.mod.kin M.kp (thn xF6 (xY1 us s1 I1.kIn)) he OE);exact xlP M F hr hb hd hx I1 r q
def xsI (M:xso X.K C f)(F:Zp)(hr:xyL (k+1))(hg:tR)(hm:W0=xM)(hb:lW)(hd:ll)(hx:OW)
  (Ue:sS):rf x p [] [] (xiH C sp OS E iw):=by
 intro M6 s σ H Q I h;refine xHE I ?_ Ue;exact x2j M.kp (xlP (us:=[]) M F hr hb hd hx I .nil h)
universe s
section
variable {X:Cx}{CX:YA}{k:Nat}{f C:MV}{fd:M0}{ps ks:An}{sp:Sp}{E:XK}{x m:Str}{p pos apos kpos:Pos}{e o:M3}{es:zq}{kws:xZA}{te ta:TE}{t tk:TA}{nm:Option Str}
variable {g:B5 -> B5 -> B5}{gV:NE -> NE -> NE}
universe s
structure xwm (N P:An)(sc:Scope):Prop where
 kind:xYa sc.kind
 co:Ρ sc.isCoroutine
 gen:Ρ sc.isGenerator
 nd:N.Nodup
 pre:x6A=P
 par:yT P (xKn x .local\/xVO x)
 nofree:SW sc.names (xSl y.2)
def scB (N P:An)(c:Scope):Bool:=Dy c.kind .function&& ! c.isCoroutine&& ! c.isGenerator&&decide N.Nodup&&Dy x6A P&&P.all (xF x (SL x58 .local\/xVY x58))&&c.names.all (xF y (xSl y.2))
def xdo {N P:An}{c:Scope}(h:SB (scB N P c)):xwm N P c:=by
 simp only [scB,Kn,decide_eq_true_eq,My,MM] at h;obtain⟨⟨⟨⟨⟨⟨a,b⟩,d⟩,e⟩,f⟩,g⟩,i⟩:=h;exact⟨a,b,d,e,f,g,i⟩
theorem xlz {kindOf:Str->xRe}:∀{binds} {m},(∀v,(x,v)∉binds)->xRF binds m x=m x
 | [],_,_=>rfl
 |(n,v)::r,m,h=>by
  show CS bindL (xlz λ w hw=>QC w hw)
  split
  ·have:x≠n:=by show Zn;exact aw v
   simp [this]
  ·rfl
theorem xm3 {kindOf:Str->xRe}:∀{binds} {m},(∀v,(x,v)∉binds)->xRG binds m x=m x
 | [],_,_=>rfl
 |(n,v)::r,m,h=>by
  show CS bindC (xm3 λ w hw=>QC w hw)
  split
  ·rfl
  ·have:x≠n:=by show Zn;exact aw v
   simp [this]
theorem xmI {kindOf:Str->xRe}:∀{P:An} {vs} {i:Nat} {m},P.Nodup->vw P->A7 vs v->SL (kindOf x) .local->
  aU (xRF xEv m x)
 | [],_,_,_,_,h,_,_=>by show DK
 |_::_,[],_,_,_,_,h,_=>by show DK
 |p::P,w::vs,0,m,nd,h1,h2,hk=>by
  simp at h1 h2;subst h1;subst h2;show xRF ((p,w)::xEv) m p=_;unfold bindL;rw [xlz λ v hv=>xR9.1 (K7 hv).1,F8 hk];simp
 |p::P,w::vs,i+1,m,nd,h1,h2,hk=>by
  show xRF ((p,w)::xEv) m x=_;show wU bindL (xmI xR9.2 (by show yn) (by show xXk) hk)
theorem xm5 {kindOf:Str->xRe}:∀{P:An} {vs} {i:Nat} {m},P.Nodup->vw P->A7 vs v->XA (kindOf x) .local->
  aU (xRG xEv m x)
 | [],_,_,_,_,h,_,_=>by show DK
 |_::_,[],_,_,_,_,h,_=>by show DK
 |p::P,w::vs,0,m,nd,h1,h2,hk=>by
  simp at h1 h2;subst h1;subst h2;show xRG ((p,w)::xEv) m p=_;unfold bindC;rw [xm3 λ v hv=>xR9.1 (K7 hv).1,FY hk];simp
 |p::P,w::vs,i+1,m,nd,h1,h2,hk=>by
  show xRG ((p,w)::xEv) m x=_;show wU bindC (xm5 xR9.2 (by show yn) (by show xXk) hk)
def start (N:An) (vs:NE):St:=vs.map some++xKm (N.length-vs.length)
def cxOf (CX:YA) (P:MY) (w:MZ) (K:Frag) (mg:Β) (base:M2) (N:An) (qual:Str) (scope:Scope) (f:MV) (cd:MW) (A:M1) (outer:w4) (s:MX) (H:Hp) (E:XK):Cx where
 prog:=P
 w:=w
 K:=K
 mg:=mg
 base:=base
 A:=x73
 N:=N
 s₀:=s
 H₀:=H
 env:=xHA
 outer:=outer
 stack:=xHA::outer
 ex:=[]
 calm:=true
 fn:=xSa
 pn:=[]
 xe:=λ e s'=>kZ P w x73 (leaving xHA e) (λ _ Qj=>x2i H s E e Qj) (λ e' Qj=>x2i H s E e' Qj) s'
def xlF {sc:Scope}(h:xVO x):∃c,SL ((cellsFrom n sc.names []).lookup x) c:=by
 have q:=Ll sc.names n [] (.inl h);exact Option.isSome_iff_exists.mp q
def xm1 {CX:YA}{K:Frag}
  (S:xwm N ps scope) (e0:xHY K mg A s H) (hl:iJ) (r:xBd)
  (x:InCallC s s.heap.objs.size (bindL (xHA).kindOf xD0 xKC) (xYv K' []) (bindC (xHA).kindOf xD0 xKC) s1):
  t8 (x4 CX P w K mg N f cd A outer s H E) xDR H s1:=by
 have OE:ps.length≤N.length:=by show wB (yt S.pre) FW (qe [_,_,_] Dz DC Os wO rV)
 obtain⟨h1,tk,rfl,hk⟩:=x.done;have noA:∀b,b∉(x4 CX P w K mg N f cd A outer s H E).ex:=px b z (jr b ([]:υ) z) Z6
 refine⟨⟨e0.mod,S.kind,rfl,rfl,UV,λ y z c h1 h2=>?_,SC y hy,λ y c _ h=>?_,e0.qt,x4w,eQ,px b z z xFj,e0.bs,e0.bsz,λ b _ _=>xFj,px b z z xFj,e0.funs,e0.frf⟩,
  rfl,e0.bare,x0G,Ax x.toInCall.ns (λ i y v h1 h2 h3=>?_),λ y c h=>Bt (x.cell y c h),e0.hok.fresh UV,τ y c h,px p hp (jr p ([]:χ) hp) Z6,e0.hok.kept hk,?_⟩
 ·exact name_of_addr x.apart (Hu h1) (Hu h2)
 ·have hy:xVL y\/xKa y .free:=hy;rcases hy with hy|hy
  ·exact xlF hy
  ·show AX rfl (S.nofree _ (Hu hy))
 ·exact Gi (x.above y c (Hu h))
 ·have hi:i<vs.length:=by
   unfold start at h2;by_cases hi:i<vs.length
   ·exact hi
   ·rw [Gv (by simpa using hi)] at h2;rw [Kj] at h2
    split at h2<;>cases h2
  have ha:A7 vs v:=by
   unfold start at h2;rw [G7 (by simpa using hi),Gs] at h2;cases e:vs[i]? with
   |none=>show vR h2 h2
   |some a=>show vR h2 h2;rfl
  show Zy u hu rv (r.get ha) hp (A7 ps y) (by
   rw [<-S.pre,List.getElem?_take_of_lt (FZ hi hl)];exact h1)
  have ndP:ps.Nodup:=by show Bg S.pre (S.nd.sublist xH4)
  refine AG u rv;rcases S.par y (Hi hp) with k|k
  ·show BB ⟨k,xmI ndP hp hu k⟩
  ·show DG c e (xlF k) (.inr ⟨.inl k,c,e,?_⟩);have q:=x.cell y c e;show ρ (xm5 ndP hp hu (by show scope.names.lookup y≠_;show oN k)) q q
 ·exact e0.hok.fresh (Gi (x.above y c (Hu h)))
 ·unfold start;show _=N.length;rw [FD,Fy,Gy];exact uL (bM DD Tm P3 Tm (NL.J' (qe [_,_,_] Dz DC Os xUc OE))) Tm DD Tm P3 Ω
def xxt {P:MY}{w:MZ}{K:Frag}{f:MV}{dV kV doc pm M7 ct oc:MW}
    (lk:xHX (xVn dV kV doc pm an M7 ct)) (Q9:xGV K M7) (S:xwm N ps scope)
  (len:∀vs H Q E,qr->iJ)
  (Rk:∀(A:M1) (outer:w4) (s:MX) (H:Hp) (vs:NE) (Q:VK) (E:XK),xDN k (xKY scope f M7)->qr->
   ∃t,xFg (x4 CX P w K mg N f M7 A outer s H E) t/\xCG):
  xSP CX (k+1) f (xVn dV kV doc pm an M7 ct) ps sp:=by
 refine⟨len,λ A outer s H args us vs Q E hr e0 hb r Sq=>?_⟩;have hl:=len _ _ _ _ Sq;have KX:yR:=e0.mod.kin.keeps λ b o e=>(xUZ o e).1
 have lim:s.heap.NoLimit:=e0.mod.nolimit.keeps λ b o e=>(xUZ o e).1
 have O0:SW xD0 (xQX zJ\/(xVL zJ/\mr ((xYv K' []).lookup zJ))):=λ⟨n,v⟩ hy=>by
  rcases S.par n (K7 hy).1 with q|q
  ·show BB q
  ·exact qG q (Ll _ _ _ (.inl q))
 show Wp (x4x (KX _ _ lk) rfl S.co S.gen rfl (x7B Q9) (rD _ _ _ ?_)) (x4s O0 λ env he s1 x=>?_)
 subst he;show wF ⟨x4R,x6B⟩ t ht hq (Rk A outer s H vs Q E (hr.deeper _) Sq);have I:t8 (x4 CX P w K mg N f M7 A outer s H E) xDR H s1:=xm1 S e0 hl r x;refine HP (ht [] s1 xDR H _ I hq) (nA fl hs) λ e s' hs=>hs
 have fin:∀{σ'} {H'} {v} {u},t8 (x4 CX P w K mg N f M7 A outer s H E) σ' H' s'->fZ->xCd->x2h P w H s Q u s':=
  λ {σ' H' v u} J rv q=>⟨v,H',J.os,J.bare,J.base,J.hok,rv,q⟩
 cases fl with
 |ret u=>
  show gq v σ' H' J rv q hs (fin J rv q)
 |next=>
  show Bj σ' H' J q hs (fin (v:=V.non) J rfl q)
 |brk=>
  show xRn q hs q
 |cont=>
  show xRn q hs q
section
variable {X:Cx}{x:Str}{p pos:Pos}{e:M3}{es:zq}{t:TA}{id T:String}{r:um}
def tCB (r:um)(t:TA):TE:=λ σ H Q=>SY vs (r vs H1 Q)
def xvB (hc:xuS X id r)(hg:tR)(hm:kH x)(hv:xDn x xZa)(ha:uC)(hn:jZ xGg)(Ue:sS)
  (he:Κ (lV=wo::lp)) (OE:ja):rf x p Fv [] (tCB r t):=by
 intro M6 s σ H Q I h;refine IC (xJx hv ?_ hn Ue);exact PyProof.Rows.callWith_builtin1 (dU xF6 us s1 z9 (by show Cc vs H1 I1 r1 q1 z9 (xGC s1 σ H1 vs us Q I1 r1 q1))) he OE
def xvu (hc:xwt X xSC r)(hg:tR)(hm:kH x)(hv:xDn x xSC)(ha:uC)(hn:jZ xGg)(Ue:sS)
  (he:Κ (lV=wo::lp)) (OE:ja):rf x p Fv [] (tCB r t):=by
 intro M6 s σ H Q I h;refine IC (xJx hv ?_ hn Ue);exact IY (dU xF6 us s1 z9 (by show Cc vs H1 I1 r1 q1 z9 (xGC s1 σ H1 vs us Q I1 r1 q1))) he OE
universe s
universe L2
namespace HT
open PySem PyProof.Rows
section
open PySem.SeqAt
open PySem.AutoSeq1 (wpAny_loadPart')
open PySem.MeetsSeq PySem.MeetsSeq2 PySem.MeetsSeq3
universe s
section
variable {prog:MY}{w:MZ}{A:M1}{E:AB}{s:MX}
def sIx (n d:Nat):qi dI
 |none=>d
 |some v=>if v<0 then xy v AA else xZT
def xqn (n d:Nat):bj d none=d:=rfl
def Oh (n d k:Nat):bj d (gh k)=xAR k:=by
 show oP (lR<0) (xy lR AA) (xAR (lR).toNat)=xAR k;rw [FY Z5,Gr]
def xbF (n d:Nat)(hd:wa d)(o:dI):wa (bj d o):=by
 cases o with
 |none=>exact hd
 |some v=>
  show wa (oP (v<0) (xy v AA) xZT);by_cases hv:v<0
  ·rw [F8 hv];omega
  ·show iL hv rV
def xoD (v:Int)(n d:Nat):oP (v<0) (max (v+AA) 0) (min v AA)=Ps (bj d wA):=by
 show oP (v<0) (max (v+AA) 0) (min v AA)=Ps (oP (v<0) (xy v AA) xZT);by_cases hv:v<0
 ·simp only [F8 hv];omega
 ·simp only [FY hv];omega
def xfi (lo hi:dI)(n:Nat):x4E hi 1 AA=(Ps (bj 0 lo),Ps (bj n hi)):=by
 have h1:¬(E7<0):=Z4;unfold Builtin.Slice.sliceAdjust;simp only [h1,K1];refine Prod.ext ?_ ?_
 ·cases lo with
  |none=>rfl
  |some v=>exact xoD v n 0
 ·cases hi with
  |none=>rfl
  |some v=>exact xoD v n n
def xfC (i j:Nat):xYf rT (Ε j)=j-i:=by
 unfold Builtin.Slice.slicePlaces;have h1:E7>0:=(WW (vQ [] DW AU));simp only [h1,if_true,Int.ediv_one]
 split<;>omega
def xmC {v:MW}{o:dI}{Q:W8 dI}(p:IsPart v o)(h:Q o s):qk (Builtin.Slice.slicePartIndex v):=by
 cases p with
 |none=>exact slicePart_none h
 |int i t=>exact slicePart_int h
def xmq {sl:MV}{vl vu:MW}{lo hi:dI}{n:Nat}{Q:W8 (Int×Int×Nat)}(hs:xQJ vl vu .none)(pl:xST lo)(pu:xSU hi)
  (h:Q (Ps (bj 0 lo),1,bj n hi-bj 0 lo) s):qk (Builtin.Slice.sliceApplied xRk (pure AA)):=by
 show aE os hos VA hds hs;unfold Builtin.Slice.sliceApplied Builtin.Slice.sliceFields;show lG (FG (Il hos hds (x:=vl) rfl (FG (Il hos hds (x:=vu) rfl (FG (Il hos hds (x:=.none) rfl vD)))))) (slicePart_none ?_);show gc (E7==0) _ _;show xAv (FY Z9) (xmC pl (FG (xmC pu (FG vD))));show QD (match x4E hi 1 AA with|(lo,hi)=>pure (lo,E7,xYf lo hi));rw [xfi lo hi n];show QD (pure (Ps (bj 0 lo),E7,xYf (Ps (bj 0 lo)) (Ps (bj n hi))));show LT xfC (F3 h)
def xhf (xs:jd)(i k:Nat):((List.range k).filterMap λ(m:Nat)=>xs[xy rT (uf*1)]?).toArray=(xXd).toArray:=by
 have e:(λ(m:Nat)=>xs[xy rT (uf*1)]?)=λ m=>xs[i+m]?:=by
  funext m;have:xy rT (uf*1)=i+m:=Z4;rw [this]
 rw [e];show SK (pick_run xs i k) List.filterMap_map;have e2:((λ x=>xs[x]?)∘λ x=>i+x)=λ m=>xs[i+m]?:=rfl
 rw [e2] at this;rw [this]
def xdk {t sl:MV}{items:jd}{vl vu:MW}{lo hi:dI}{Q:AB}(ht:xVW t)(hs:xQJ vl vu .none)(pl:xST lo)(pu:xSU hi)
  (hw:¬(jq=0/\qq=items.size))
  (h:Q jX (vk (xKc "tuple" (xKA (oM xYc qq jq)))))
  (hsz:nL items.size):qk (x3b wG):=by
 have V8:sizeOk (xKA (oM xYc qq jq)):=by
  show nL (oM xYc qq jq).toArray.size;rw [F1,FW,FU,HD];exact(Fp [_,_,_,_] 2 qE xMC LE Os hsz (Fx rV Qn))
 have hj:qq≤items.size:=xbF _ _ UV hi;show aE os hos VA hds hs;have hTs:s.TypeIs xRk "slice":=⟨os,hos,VA⟩;unfold getItem
 try with_reducible refine xWS
 first|show AR vD|skip
 show lG (x4I Z9 ?_) (IF (name:=x4N) ht.typeIs HS
  (x77 HS ht.typeIs ?_ (x5c _)))
 show QD (x4B>>=_);show lG (x59 ?_) (x6a ?_);show xBI Z9 (xmq hs pl pu ?_);have hno:¬(SB (xO7==0&&E7==1&&xSN (qq-jq))):=by
  intro q;rw [Kn,Kn] at q;have q1:xO7=0:=eq_of_beq C4.1;have q2:qq-jq=items.size:=eq_of_beq EU;exact hw ⟨(uv (By AV LE Cy LE Cy (Fz (xyF q1)))),BC (xCX hj) (rS [_,_,_] 1 Tm qA Os LE q2.symm Qn)⟩
 show gc (xO7==0&&E7==1&&xSN (qq-jq)) _ _;rw [FY hno,xhf]
 first
  |exact FG (m:=xQz) (JC xNV V8)
  |exact FG (m:=xQz) (JC (FG (F3 xNV)) V8)
  |exact FG (FG (m:=xQz) (JC (F3 xNV) V8))
  |exact FG (FG (m:=xQz) (JC xNV V8))
universe s
universe HT
namespace L2
open PySem PySem.Spec PyProof.Rows
abbrev xxP:=St->xB4 (dI->lI)
def xsb (X:Cx)(e:Option M3)(t:xxP):Prop:=
 ∀(M6:χ) (s:MX) (σ:St) H Q,ST->xCq->
  yN (evalPart e X.env) (λ u s'=>∃o H',Wg/\IsPart u o/\Fj o)
def xag:xxP:=λ _ H Q=>xNH H
inductive xkW (Q:dI->lI) (x:V) (H1:Hp):Prop
 |mk (i:_) (h0:x=Eh) (h1:Q (some i) H1):xkW Q x H1
def xcL (t:TE):xxP:=λ σ H Q=>SY x (xkW Q x H1)
def xqQ:∀{us},ko U7->IntsAre us ns:=by
 induction ns with
 |nil=>intro us r;show zL Mm r r .nil
 |cons n ns ih=>
  intro us r;rw [HH] at r;cases r with
  |cons r1 r2=>
   show xH0 t r1;show Fs (.cons n t (ih r2))
section
variable {X:Cx}{e:M3}{te:TE}{lo hi:Option M3}{tl th:xxP}{pos p2:Pos}
def bU:xsb X none xag:=by
 intro M6 s σ H Q I h;show LT evalPart_none (F3 (BO none I .none h))
def xxE (h:yM):xsb X (some e) (xcL te):=by
 intro M6 s σ H Q I hw;show Η evalPart_some (yF (xCS _ I hw) u)
 show xNA x;show ie i q q1;show z8 t r1 ⟨some i,H1,I1,rj,q⟩
def SlR (X:Cx)(r:V->dI->xPG):Prop:=
 ∀(M6:χ) (s:MX) (σ:St) (H:Hp) x v vl vu lo hi sl Q,ST->uF->xQJ vl vu .none->xST lo->xSU hi->Td lo hi H Q->
  ∃T id,x5l xSC=pure (xKH id)/\s.TypeIs v T/\Dt (x3b v)
def SlR.or {r r':V->dI->xPG}(h:xAZ r)(h':xAZ r'):xAZ (λ x lo hi H Q=>Td lo hi H Q\/r' x lo hi H Q):=by
 intro M6 s σ H x v vl vu lo hi sl Q I rx hs pl pu q;rcases q with q|q
 ·exact xCS x v vl vu lo hi sl Q I rx hs pl pu q
 ·exact h' M6 s σ H x v vl vu lo hi sl Q I rx hs pl pu q
def tSl (r:V->dI->xPG)(te:TE)(tl th:xxP):TE:=λ σ H Q=>xzX λ x H1=>tl σ H1 λ l H2=>th σ H2 λ u H3=>Td l u H3 Q
def xsL {r:V->dI->xPG}(hr:xAZ r)(he:yM)(hl:xsb X lo tl)(hu:xsb X hi th):Am (xyT e (.Slice lo hi none p2)) (tSl r te tl th):=by
 intro M6 s σ H Q I h;show aL (Subscript_ (ag H _ I h v)) x;refine wpAny_Slice (thn (hl M6 s1 σ H1 _ I1 q1) λ vl s2 ⟨l,H2,I2,pl,q2⟩=>EJ (hu M6 s2 σ H2 _ I2 q2) vu s3);obtain⟨u,H3,I3,pu,q3⟩:=z9;show Η evalPart_none vD;have I4:lu H3 (xYJ s3 (x26 #[vl,vu,.none])):=I3.kept (t':=s3.toks) λ b ob q=>Xz
 obtain⟨T,id,hT,ht,hg⟩:=hr M6 (xYJ s3 (x26 #[vl,vu,.none])) σ H3 x v vl vu l u s3.heap.objs.size Q I4 r1 (Heap.IsSliceOf.new ..) pl pu q3;show x2B (subscriptTail e (.Slice lo hi none p2) v (.ref s3.heap.objs.size)) (xYJ s3 (x26 #[vl,vu,.none]));exact tail_any ht hT hg (by with_unfolding_all rfl)
def cutV (xs:NE)(lo hi:dI):NE:=oM (xs.drop Oy) xMJ Oy
def xmd (xs:NE)(lo hi):El (xVk lo hi) xs.length:=by
 show dR;rw [FW,FU];exact xL4 Qn
inductive rSlT (K:Frag) (x:V) (lo:dI) (hi:dI) (H:Hp) (Q:VK):Prop
 |mk (a:_) (xs:_) (h0:x=ω) (h1:xBY a) (h2:¬(Oy=0/\xyJ xMJ)) (h3:∀p,RT->tB (qU p (xVk lo hi))):rSlT K x lo hi H Q
def xbz:xAZ (rSlT X.K):=by
 intro M6 s σ H x v vl vu lo hi sl Q I rx hs pl pu h;show Zj a xs hx hw q;cases rx;show k6 r ht hz hx;have hlen:x5x:=by show LT F1 r.length.symm
 show Wp ⟨"tuple",_,HS.lookup,ht.typeIs,?_⟩ (HT.xdk ht hs pl pu (by show LT hlen hw) ?_ (by show LT hlen hz));show Η hlen (Vj jX _ (I.laid (t':=s.toks) (o:=.tup (xVk lo hi)) (λ b ob q=>Xz) UV ?_) (q _ pD));exact⟨FK (xmd xs lo hi) hz,_,oM (r.drop Oy) xMJ Oy,IsTup.new _ _⟩
universe s
def ixN (n:Nat) (i:Int):j6:=if 0≤i then oP (i<n) (some i.toNat) none else xWJ (-AA≤i) (xy i n) none
def atI {α:Type} (xs:DU) (i:Int):Option α:=(xKZ i).bind λ j=>xs[j]?
def xo3 {n:Nat}(h:SL (ixN n i) j):SL (seqIndex? i n) j/\j<n/\-AA≤i/\i<n:=by
 unfold ixN at h;by_cases h0:0≤i
 ·rw [F8 h0] at h;by_cases h1:i<n
  ·rw [F8 h1] at h;have e:i.toNat=j:=Gg h;exact⟨by rw [xY3 h1,e],Z5,Z5,h1⟩
  ·show Μ gi h h
 ·rw [FY h0] at h;by_cases h1:-AA≤i
  ·rw [F8 h1] at h;have e:xy i n=j:=Gg h;exact⟨by rw [xYL h0 h1,e],Z5,h1,Z5⟩
  ·show Μ gi h h
def ul {α:Type}{xs:DU}{v:α}(h:aU (atI xs i)):∃j,SL (seqIndex? i xs.length) j/\yO xs v/\xCi/\-Ε xs.length≤i/\oQ:=by
 unfold atI at h;cases e:xKZ i with
 |none=>show vR h h
 |some j=>
  rw [e] at h;show Bj h1 h2 h3 h4 (xo3 e) ⟨j,h1,h,h2,h3,h4⟩
def aD {j:Nat}{v:α}(h:yO xs v):aU (atI xs (Ε j)):=by
 have hj:xCi:=Fg h;have e:SL (xKZ (Ε j)) j:=by
  unfold ixN;rw [xGD,F8 (JT.mpr hj)];simp
 show Rq atI e h
def xoK (b:M3):Prop:=∀o i,xQ8 b o i=xZU [o,i] o i
def IxR (X:Cx)(r:R2):Prop:=
 ∀(value slice:M3) (M6:χ) (s:MX) (σ:St) H x y v u Q,ST->uF->RV->Td y H Q->
  xQ8 slice v u=xZU [v,u] v u->Dt (subscriptTail value slice v u)
def MtR (X:Cx)(id:String)(r:V->um):Prop:=
 ∀(M6:χ) (s:MX) (σ:St) (H:Hp) x xs v us Q,ST->uF->qx->Td xs H Q->
  Dt (xuL id (v::us))
section
variable {X:Cx}{a b:M3}{ta tb:TE}{pos:Pos}
def xv9 {r:R2}(hr:xGE r)(ha:kA)(hb:UA)(hs:xoK b):Am (xyT a b) (Xc r ta tb):=by
 intro M6 s σ H Q I h;exact Subscript_ (x3k hb I h λ v u s2 x y H2 I2 rx ry q=>hr a b M6 s2 σ H2 x y v u Q I2 rx ry q (hs _ _))
inductive rIxL (K:Frag) (x:V) (y:V) (H:Hp) (Q:VK):Prop
 |mk (p:_) (xs:_) (i:_) (v:_) (h0:x=Bw) (h1:y=Eh) (h2:TX H p) (h3:aU (atI xs i)) (h4:Q v H):rIxL K x y H Q
inductive rIxT (K:Frag) (x:V) (y:V) (H:Hp) (Q:VK):Prop
 |mk (p:_) (xs:_) (i:_) (v:_) (h0:x=Bw) (h1:y=Eh) (h2:xBY p) (h3:aU (atI xs i)) (h4:Q v H):rIxT K x y H Q
def xv8:xGE (rIxL X.K):=by
 intro value slice M6 s σ H x y v u Q I rx ry h hs;obtain⟨p,xs,i,z,rfl,rfl,hq,he,q⟩:=h;show xBN rx ry;show qX r pl;obtain⟨j,h1,h2,h3,h4,h5⟩:=ul he;show Y3 w ew rw' (r.get h2) hl r.length;have hn:=xxw;have fin:DB w s:=BO z I rw' q;by_cases h0:0≤i
 ·have hj:i.toNat=j:=by
   show ρ (xY3 h5) h1 (Gg h1)
  exact item_listR pl.isList h0 Z5 (by rw [hj];simpa using ew) fin hs
 ·have hj:xy i x5u=j:=by
   rw [xYL h0 h4] at h1;rw [F1,<-hl];exact Gg h1
  exact subscriptTail_builtinR pl.isList.typeIs slot_list_getitem.lookup
   (wpAny_getItem_list_neg pl.isList (KQ h0) (by rw [F1]<;>exact Iz (congrArg Neg.neg (congrArg Nat.cast hl.symm)) h4) Z5 (by rw [hj];simpa using ew) (qN fin)) hs
def xmu:xGE (rIxT X.K):=by
 intro value slice M6 s σ H x y v u Q I rx ry h hs;obtain⟨p,xs,i,z,rfl,rfl,hq,he,q⟩:=h;show xBN rx ry;show k6 r pl hz hq;obtain⟨j,h1,h2,h3,h4,h5⟩:=ul he;show Y3 w ew rw' (r.get h2) hl r.length;have hn:=xxw;have fin:DB w s:=BO z I rw' q;exact subscriptTail_builtinR pl.typeIs HS.lookup
  (getItem_tuple pl Z4 Z4 (by rw [F1,<-hl];exact h1) (by simpa using ew) (qN fin)) hs
def xfn (its:B5)(n j)(u):Obj.mapSeq (·.setIfInBounds j u) xAi=xC6 (xKA (its.set j u) n):=by
 simp [Obj.mapSeq]
theorem Inv.lst {M6:χ}{σ:St}(I:ST)(h:CI=Ar):
  ∃its n,O7/\wR p xAi/\kP:=by
 show Cc z its n r e (qK p h) ⟨its,n,r,e,z⟩
def Inv.lstUpd {M6:χ}{σ:St}{its its':B5}(I:ST)(h:CI=Ar)
  (ho:wR p xAi) (hf:f xAi=xC6 (x5N n')) (r:x3A its') (hz:xRK) (t):
  lu (E4 H p ys) (vj (xYR f) t):=by
 have e:wH (xYR f) p (xC6 (x5N n')):=by
  rw [Jq f ho (by rw [hf]<;>rfl),hf]
 refine x24 (by rw [h];trivial) (λ b u hb q=>(xWO).trans q) uS ?_;exact⟨hz,its',n',r,e⟩
inductive rSetL (o:V) (i:V) (v:V) (H:Hp) (Q:lI):Prop
 |mk (p:_) (xs:_) (k:_) (j:_) (h0:o=Bw) (h1:i=xWq) (h2:CI=Ar) (h3:SL (xKZ k) j) (h4:Q (E4 H p (xs.set j v))):rSetL o i v H Q
def xp9:xhQ X rSetL:=by
 intro M6 s σ H o i v ov iv u Q I ro ri rv h;obtain⟨p,xs,k,j,rfl,rfl,hp,hj,q⟩:=h;show xBN ro ri;obtain⟨its,n,r,ho,hz⟩:=I.lst hp;obtain⟨h1,h2,h3,h4⟩:=xo3 hj;have hl:=r.length;have hn:=xxw;have I':lu (E4 H p (xs.set j v)) (vk (xYR (Obj.mapSeq (·.setIfInBounds j u)))):=
  I.lstUpd hp ho (xfn its n j u) (r.set rv j) (by show LT LX hz) s.toks
 by_cases h0:0≤k
 ·have hk:k.toNat=j:=by
   show ρ (xY3 h4) h1 (Gg h1)
  exact PySem.W.ki_setAt ho h0 Z4 (by rw [F1,<-hl];exact h4) (by show LT hk (Ax I' q))
 ·have hk:xy k x5u=j:=by
   rw [xYL h0 h3] at h1;rw [F1,<-hl];exact Gg h1
  exact PySem.W.ki_setBack ho (KQ h0) (by rw [F1,<-hl];exact h3) Z4 (by show LT hk (Ax I' q))
def sbP {i:Int}{n:Nat}(h:¬i<0):xTx (xAR i)=Ps (xAR i.toNat):=by
 show o4 k (Int.eq_ofNat_of_zero_le (xZi h));rw [Gr,Int.max_eq_right (Int.le_min.2 ⟨vY,vY⟩)];rcases Mq k n with e|e
 ·rw [G2 e,Int.min_eq_left (xyk e)]
 ·rw [HY e,Int.min_eq_right (xyk e)]
def sbN {i:Int}{n:Nat}(h:i<0):xTx (xAR (i+n))=Ε (xy i n):=by
 rw [Int.min_eq_left (Int.le_trans (Int.add_le_add_right (MT h) n) (Int.le_of_eq (Int.zero_add _))),Int.toNat_eq_max,Int.max_comm]
def xeX (lo hi:dI)(n):(xY4 hi none n).1=Ps (x2k 0 lo)/\A4 (xY4 hi none n)=Ps (x2k n hi)/\CJ (xY4 hi none n)=1:=by
 refine kq ?_ ?_
 ·cases lo with
  |none=>simp [sliceBounds,HT.sIx]
  |some i=>
   simp only [sliceBounds,HT.sIx,Option.getD_none,show E7>0 by decide,if_true];by_cases h:i<0
   ·simp only [h,if_true,sbN h]
   ·simp only [h,K1,sbP h]
 ·cases hi with
  |none=>simp [sliceBounds,HT.sIx]
  |some i=>
   simp only [sliceBounds,HT.sIx,Option.getD_none,show E7>0 by decide,if_true];by_cases h:i<0
   ·simp only [h,if_true,sbN h]
   ·simp only [h,K1,sbP h]
def xel (its:B5)(lo hi):slicePick its.toArray lo hi none=(oM (its.drop (xYF 0 lo)) (xYF its.length hi) (xYF 0 lo)).toArray:=by
 obtain⟨h1,h2,h3⟩:=xeX lo hi its.toArray.size;unfold slicePick;rw [h1,h2,h3];simp only [sliceRange_one,pick_run,F1]<;>rfl
inductive rSlL (K:Frag) (x:V) (lo:dI) (hi:dI) (H:Hp) (Q:VK):Prop
 |mk (a:_) (xs:_) (h0:x=ω) (h1:yV) (h2:∀p,RT->tB (E4 H p (xVk lo hi))):rSlL K x lo hi H Q
def bd:xAZ (rSlL X.K):=by
 intro M6 s σ H x v vl vu lo hi sl Q I rx hs pl pu h;show dD a xs hx q h;cases rx;show xNh r ht hx;show rF hlen r.length ⟨"list",_,slot_list_getitem.lookup,ht.isList.typeIs,?_⟩ (wpAny_getItem_list_slice ht.isList hs pl pu .none Z6 ?_ (by rw [F1]<;>exact(Fp [_,_,_] 2 LE Θ LE Os hz xYS)));rw [xel,<-hlen];refine Vj jX _ (I.laid (t':=s.toks) (λ b ob q=>Xz) UV ?_) (q _ pD);exact⟨FK (xmd xs lo hi) hz,_,0,oM (r.drop Oy) xMJ Oy,vq⟩
def flatV:lD V
 | .non=>true
 | .bl _=>true
 | .int _=>true
 | .str _=>true
 |_=>false
def eqV:V->lD V
 | .non,.non=>true
 | .bl a,.bl b=>a==b
 | .bl a,.int b=>oP a 1 0==b
 | .int a,.bl b=>a==oP b 1 0
 | .int a,.int b=>a==b
 | .str a,.str b=>a==b
 |_,_=>false
def xtP (ry:RV)(rx:uF)(fy:xLT y)(fx:xLT x):xRH s u v (eqV y x):=by
 cases y with
 |non=>
  cases ry;cases x with
  |non=>cases rx;exact x5O
  |bl b=>cases rx;exact SeqAt.EqAt.none_bool b
  |int b=>show z8 t rx (SeqAt.EqAt.none_int b t)
  |str b=>show z8 t rx (SeqAt.EqAt.none_str b t)
  |_=>show AX xT2 F7
 |bl a=>
  cases ry;cases x with
  |non=>cases rx;exact SeqAt.EqAt.bool_none a
  |bl b=>cases rx;exact LP a b
  |int b=>show z8 t rx (SeqAt.EqAt.bool_int a b t)
  |str b=>show z8 t rx (SeqAt.EqAt.bool_str a b t)
  |_=>show AX xT2 F7
 |int a=>
  show o4 t' ry;cases x with
  |non=>cases rx;exact SeqAt.EqAt.int_none a t'
  |bl b=>cases rx;exact SeqAt.EqAt.int_bool a t' b
  |int b=>show z8 t rx (SeqAt.EqAt.int_int a t' b t)
  |str b=>show z8 t rx (SeqAt.EqAt.int_str a t' b t)
  |_=>show AX xT2 F7
 |str a=>
  show o4 t' ry;cases x with
  |non=>cases rx;exact SeqAt.EqAt.str_none a t'
  |bl b=>cases rx;exact SeqAt.EqAt.str_bool a t' b
  |int b=>show z8 t rx (SeqAt.EqAt.str_int a t' b t)
  |str b=>show z8 t rx (x5d t' b t)
  |_=>show AX xT2 F7
 |_=>show AX (xyB false fy) F7
def xmi:xuS X "len" (λ xs H Q=>∃p ys,xs=Bf/\(xJF ys\/xF1 p ys)/\Zv ys.length):=by
 intro M6 s σ H xs us Q I r h;show dD p ys hq q h;show uV u rx xB8 rx;have hn:=xxw;rcases hq with hq|hq
 ·show qX r' pl;show xPE;exact Calls.call_len_list pl.isList (by simp only [F1]<;>lia) (bp ys.length sI ⟨xEx,by rw [F1,hlen]⟩ q)
 ·show k6 r' pl hz hq;show xPE;exact len_tuple pl (by simp only [F1]<;>omega) (bp ys.length sI ⟨xEx,by rw [F1,hlen]⟩ q)
def xmv:xwt X kh (λ xs H Q=>∃p ys,xs=Bf/\(xJF ys\/xF1 p ys)/\∀l,Ξ->xNP ys):=by
 intro M6 s σ H xs us Q I r h;show dD p ys hq q h;show uV u rx xB8 rx;have fin:∀(its:B5),Vals ys its->xRK->∀(h':M2) (c':Nat),(∀b o',SL Bc o'->xHd)->
   Ts s.heap.objs.size {cls:=kh,dict:=none,data:=xQp c',slots:=#[]}->DB jX vE:=λ its r' hz h' c' kp e=>
  Vj jX _ (I.laid kp UV (show xEj _ h' _ (.lst ys) from⟨hz,its,c',r',e⟩)) (q _ pD)
 rcases hq with hq|hq
 ·show qX r' pl;show xPE;show Cc o ho hc n hd pl.isList (x6C Dm ho hc hd (λ h' c' kp e=>fin its r' hz h' c' kp e) (by simp only [F1]<;>exact xZB hz))
 ·show k6 r' pl hz hq;show xPE;show Cc o ho hc n hd pl (x6C xj ho hc hd (λ h' c' kp e=>fin its r' hz h' c' kp e) (by simp only [F1]<;>exact xZB hz))
def xmm:xwt X xDw (λ xs H Q=>∃p ys,xs=Bf/\((xJF ys/\∀l,Ξ->Q A8 (qU l ys))\/(xF1 p ys/\tB H))):=by
 intro M6 s σ H xs us Q I r h;show Qb p ys rfl h;show uV u rx xB8 rx;rcases h with⟨hq,q⟩|⟨hq,q⟩
 ·show qX r' pl;show xPE;refine call_tuple_list pl.isList (SC h' kp) (by simp only [F1]<;>exact xZB hz);have I1:xG vE:=xS7 kp;have I2:lu (qU h'.objs.size ys) (vk (h'.push (xyj "tuple" xQp))):=
   x0v s.toks (λ b o e=>rR) UV (show xEj _ _ _ (.tup ys) from⟨hz,its,r',IsTup.new _ _⟩)
  exact Vj (.ref h'.objs.size) _ I2 (q _ xQy)
 ·show Bj its r' pl hz (I.tuple hq) (call_tuple_same pl (Vj Bw H I q))
def tyV (K:Frag)(T:String)(x:V)(H:Hp):Prop:=match x with
 | .str _=>T="str"
 | .int _=>T="int"
 | .ref p=>(T="list"/\∃xs,TX H p)\/(T="tuple"/\∃o,K.lookup p=IO/\o.cls=xDw/\WF o.dict)\/
   (T="dict"/\((∃Nj,wQ p Od)\/∃Nj,wQ p jz))\/(T="set"/\∃S n,wQ p (.set S n))
 |_=>False
def xnS {M6:χ}{σ:St}{H:Hp}(I:ST)(r:uF)(ty:tyV X.K T x H):
  s.TypeIs v T/\∀a,v=ω->∃ob,wR a ob/\WF ob.dict:=by
 cases x with
 |str z=>
  show o4 t r;cases(AI T "str" ty);show A5 (typeIs_str s z t) (jJ e e)
 |int i=>
  show o4 t r;cases(AI T "int" ty);show A5 (x78 i t) (jJ e e)
 |ref p=>
  cases r;rcases ty with⟨rfl,xs,hq⟩|⟨rfl,o,hk,hc,hd⟩|⟨rfl,hk⟩|⟨rfl,S,n,hk⟩
  ·obtain⟨its,_,pl,_⟩:=I.list hq;refine Bh pl.isList.typeIs a e;cases e;obtain⟨o,n,e,c,hd,_⟩:=pl;exact rH e hd
  ·refine Bh (rH (xXj p hk) hc) a e;cases e;exact rH (xXj _ hk) hd
  ·have z:∃o,s.heap.get? p=IO/\o.ExactDict:=by
    rcases hk with⟨Nj,hk⟩|⟨Nj,hk⟩
    ·obtain⟨_,_,_,_,o,_,_,e,ex,_⟩:=qK p hk;exact rH e ex
    ·obtain⟨_,_,_,_,o,_,_,e,ex,_⟩:=qK p hk;exact rH e ex
   show Bq o e ex z (Bh (rH e ex.1) a e2);cases e2;exact rH e (A4 ex)
  ·obtain⟨o,_,_,_,e,ex,_⟩:=qK p hk;refine Bh (rH e ex.1) a e2;cases e2;exact rH e (A4 ex)
 |_=>show pH ty
inductive xkH (K:Frag) (T:String) (r:V->um) (Q:VK) (x:V) (H1:Hp):Prop
 |mk (h0:tyV K T x H1) (h1:Td [] H1 Q):xkH K T r Q x H1
def xcY (K:Frag)(T:String)(r:V->um)(to:TE):TE:=λ σ H Q=>to σ H λ x H1=>xkH K T r Q x H1
inductive tBM_p (K:Frag) (T:String) (r:V->um) (t:TA) (σ:St) (Q:VK) (x:V) (H1:Hp):Prop
 |mk (h0:tyV K T x H1) (h1:t σ H1 λ xs H2=>Td xs H2 Q):tBM_p K T r t σ Q x H1
def tBM (K:Frag)(T:String)(r:V->um)(to:TE)(t:TA):TE:=λ σ H Q=>to σ H λ x H1=>tBM_p K T r t σ Q x H1
variable {o e:M3}{es:zq}{to:TE}{t:TA}{name:Str}{apos Rh:Pos}{T id:String}{r:V -> um}
def xf9 (pa:x79)(slot:Slot T name id)(hty:typeOf xZa=pure x4y)(hm:MtR X id r)(ho:xCo to)
  (Uz:Κ (xQ4 o name ZT=ZT)) (YT:Κ (SB (apos.endLine==Rh.line))):Am (xQw o name [] [] Rh) (xcY X.K T r to):=by
 intro M6 s σ H Q I h;refine wpAny_Call_method0_late Uz YT (yF (kj s H _ I h) v);obtain⟨x,H1,I1,r1,ty,q1⟩:=z9;show De h1 h2 (xnS I1 r1 ty) ⟨T,id,pa,slot,hty,h1,h2,Calls.callWith_builtin rfl (PySem.evalArgs_none (hm M6 s1 σ H1 x [] v [] Q I1 r1 .nil q1))⟩
def xms (pa:x79)(slot:Slot T name id)(hty:typeOf xZa=pure x4y)(hm:MtR X id r)(ho:xCo to)(ha:uC)
  (Uz:Κ (xQ4 o name ZT=ZT))
  (hfew:Κ (SB ((backTo Rh (fF Fv)).all (λ x=> ! ze)&&(x4n Rh []).all (λ x=>(ze).isSome)
   &&vB (xBo (Fv).length ([]:xZA)+oP ([]:xZA).isEmpty 0 1) 30)))
  (YT:Κ (SB (apos.endLine==Rh.line))) (hs:Κ (lV=wo::lp)) (Rp:Κ ((backTo Rh (starEach es X.env)).any (·.1)=false)):
  Am (xQw o name Fv [] Rh) (tBM X.K T r to t):=by
 intro M6 s σ H Q I h;refine wpAny_Call_method_late Uz hfew YT rfl (yF (kj s H _ I h) v);obtain⟨x,H1,I1,r1,ty,q1⟩:=z9;show DG h1 h2 (xnS I1 r1 ty) ⟨T,id,pa,slot,hty,h1,h2,?_⟩;have hA:=ha Rh M6 s1 σ H1 _ I1 q1;rw [hs] at hA ⊢;refine Calls.callWith_builtin (by show(false||(backTo Rh (starEach es X.env)).any (·.1))=false;rw [Rp]<;>rfl) (Calls.evalArgs_plain ?_);exact dU hA us s2 z9 (by show Cc vs H2 I2 r2 q2 z9 (hm M6 s2 σ H2 x vs v us Q I2 r1 r2 q2))
universe s
def MtM (X:Cx)(id:String)(r:V->um):Prop:=
 ∀(M6:χ) (s:MX) (σ:St) (H:Hp) x xs v us Q,ST->uF->qx->Td xs H Q->
  Dt (xuL id (v::us))
theorem Vals.one:∀{x} {us},ko DM->∃u,us=Zo/\Df
 |_,_,.cons r .nil=>Υ r
theorem Vals.zero:∀{us:B5},ko []->us=[]
 |_,.nil=>rfl
theorem Vals.rep (h:qx):∀k,Vals (Zg k xs) (Zg k us)
 |0=>.nil
 |k+1=>by
  rw [Hv,Hv,HJ,HJ];exact Vals.append h (Vals.rep h k)
theorem xlW (its:B5):∀k acc,
  x2a (λ x1 x2=>x1++x2) acc.toArray k=xWa acc (Zg k its)
 |0,acc=>by simp
 |k+1,acc=>by
  have e:acc.toArray++its.toArray=xWa acc its:=Z6;have e2:(acc++its)++Zg k its=acc++Zg (k+1) its:=by
   rw [Hv,HJ,FJ]
  rw [<-e2,<-xlW its k (acc++its),<-e,Hv,List.foldl_cons]
section
variable {X:Cx}{M6:χ}{σ:St}{H:Hp}{s:MX}{l b:MV}{xs ys zs:NE}
def Inv.lset {its its':B5}{n:Nat}{f:jd->jd}(I:ST)(hH:sV=Ar)
  (e:wR l xAi) (hf:f its.toArray=its'.toArray) (hv:x3A its') (hz:xRK):
  lu (kU ys) (vj (s.heap.update l x6b) t'):=by
 show Ay q (PySem.IsL.update e f) hf q;refine x24 (by show LT hH trivial) (λ b' u hb hu=>(Ij s.heap x6b (Kc hb)).trans hu) (Bt q) ?_;exact⟨hz,its',_,hv,q⟩
def Inv.lnew {its:B5}{t':Nat}(I:ST)(hv:Vals ys its)(hz:xRK):
  lu (E4 H s.heap.objs.size ys) (vj (xKc "list" xQp) t'):=
 I.laid x2G UV ⟨hz,its,0,hv,vq⟩
theorem Inv.fresh (I:ST):x5v:=pD
def Inv.lstM (I:ST)(hH:sV=Ar):kP/\∃(its:B5) (n:Nat),O7/\xyY xs.length/\wR l xAi:=by
 show Cc z its n r e (qK l hH) ⟨z,its,n,r,r.length,e⟩
def xl1 (h:nL n):Ρ (Builtin.List.listTooLong n):=by
 show wU Builtin.List.listTooLong (Ik (Mw.mpr h))
universe s
section
variable {X:Cx}
inductive xqk (x:V) (vs:NE) (H:Hp) (Q:VK):Prop
 |mk (l:_) (xs:_) (y:_) (h0:x=A8) (h1:vs=SO) (h2:sV=Ar) (h3:xKo xs.length) (h4:xu7 (kU (xs++SO))):xqk x vs H Q
def xqR:MtM X "list.append" xqk:=by
 intro M6 s σ H x vs v us Q I rx rv h;show jx l xs y rfl rfl hH hz q;cases rx;show ie u ru rv.one;show xz2 z its n r hl e hH;show Wp (xRE G6 e F.entry_list_append (F.args_list_append_2 _ _) (PySem.list_append l its.toArray n u (by show LT F1 (xOm U3 hz))) (Fh e)) (Vj .non _ (x1a (its++Zo) hH e Z6 (r.append (xyv ru)) ?_) q);rw [FD,JQ]
 assumption
inductive xkz (x:V) (vs:NE) (H:Hp) (Q:VK):Prop
 |mk (l:_) (b:_) (xs:_) (zs:_) (h0:x=A8) (h1:vs=[EY]) (h2:sV=Ar) (h3:E5=Φ zs) (h4:nL (xs.length+zs.length)) (h5:xu7 (kU (xs++zs))):xkz x vs H Q
def xwx:MtM X "list.extend" xkz:=by
 intro M6 s σ H x vs v us Q I rx rv h;obtain⟨l,b,xs,zs,rfl,rfl,hH,hB,hz,q⟩:=h;cases rx;show uV u ru rv.one ru;show xz2 z its n r hl e hH;show xz2 z2 N2 n2 r2 NH e2 hB;have hsz:nL (its.toArray.size+N2.toArray.size):=by rw [F1,F1];exact(B7 [_,_,_,_,_] yE P3 (CN yE) P3 Tm hz (d8 U3 NH.symm))
 have YS:¬SB (! its.toArray.isEmpty&&Builtin.List.listTooLong (its.toArray.size+N2.toArray.size)):=by
  rw [xl1 hsz,Bool.and_false];exact F7
 show Wp (xRE IX e F.entry_list_extend (F.args_list_extend_2 _ _) (AutoSeq1.list_extend_list_list_0 l its.toArray n b N2.toArray n2 YS (by show LT F1 (xSt z)) (HL hsz)) (AG e e2)) (Vj .non _ (x1a (its++N2) hH e Z6 x6D ?_) q);rw [FD]
 assumption
inductive xng (x:V) (vs:NE) (H:Hp) (Q:VK):Prop
 |mk (l:_) (xs:_) (h0:x=A8) (h1:vs=[]) (h2:sV=Ar) (h3:xu7 xAP):xng x vs H Q
def xl9:MtM X "list.clear" xng:=by
 intro M6 s σ H x vs v us Q I rx rv h;show Zj l xs rfl hH q;cases rx;have T8:=rv.zero;subst T8;show xz2 z its n r hl e hH;refine xRE Lx e F.entry_list_clear (F.args_list_clear_1 _) (AutoSeq1.list_clear_list_0 l its.toArray n (by show LT F1 (xSt z))) (Fh e);exact Vj .non _ (x1a [] (ys:=[]) hH e rfl .nil AM) q
inductive rCat (x:V) (y:V) (H:Hp) (Q:VK):Prop
 |mk (l:_) (b:_) (xs:_) (zs:_) (h0:x=A8) (h1:y=EY) (h2:sV=Ar) (h3:E5=Φ zs) (h4:nL (xs.length+zs.length)) (h5:∀p,RT->tB (E4 H p (xs++zs))):rCat x y H Q
def bi:oZ .Add rCat:=by
 intro M6 s σ H x y v u Q I rx ry h;obtain⟨l,b,xs,zs,rfl,rfl,hH,hB,hz,q⟩:=h;show vS rx ry;show xz2 z its n r hl e hH;show xz2 z2 N2 n2 r2 NH e2 hB;refine PySem.P.add_list e e2 ?_ (by rw [F1,F1];exact(B7 [_,_,_,_,_] yE P3 (CN yE) P3 Tm hz (d8 U3 NH.symm)));have ea:its.toArray++N2.toArray=xWa its N2:=Z6;show LT ea (Vj (.ref _) _ (I.lnew x6D (by rw [FD];assumption)) (q _ I.fresh))
inductive rRep (x:V) (y:V) (H:Hp) (Q:VK):Prop
 |mk (l:_) (k:_) (xs:_) (h0:x=A8) (h1:y=xWq) (h2:sV=Ar) (h3:-(2^63)≤k) (h4:k<2^63) (h5:nL (xs.length*k.toNat)) (h6:∀p,RT->tB (E4 H p (Zg k.toNat xs))):rRep x y H Q
def xaP {α:Type}(xs:DU)(k):(x6t xs).flatten.length=k*xs.length:=by
 induction k with
 |zero=>simp
 |succ k ih=>rw [Hv,HJ,FD,ih,Nat.succ_mul,Kh]
def xqE:oZ .Mult rRep:=by
 intro M6 s σ H x y v u Q I rx ry h;obtain⟨l,k,xs,rfl,rfl,hH,h1,h2,hz,q⟩:=h;show xBN rx ry;show xz2 z its n r hl e hH;have hlen:nL xZR:=by rw [F1,<-hl];exact hz
 have hcap:¬xZR>(2^63-1)/8:=by
  have:YX sizeLine≤(2^63-1)/8:=Z9;lia
 have YM:¬SB (! Builtin.List.listFitsIndex k):=by
  show LT (fitsIndex_both h1 h2) F7
 have YS:¬SB (Builtin.List.listTooLong xZR):=by
  show LT (xl1 hlen) F7
 have hnew:x2a (λ x1 x2=>x1++x2) #[] (E1 its.toArray.isEmpty 0 k.toNat)=x4J k.toNat its:=by
  have f0:∀m,x2a (λ x1 x2=>x1++x2) #[] m=x4J m its:=λ m=>by
   show zh (xlW its m []) Hl
  rw [f0];cases its with
  |nil=>simp
  |cons a r'=>rw [FY Z6]
 show p9 (wpAny_binaryOp_repeat_ref Z9 (m7 e) (λ s'=>typeIs_int s' k t) noFill_list_mul F.fills_int_mul F.slot_int_rmul repeat_list F.slot_int_index.lookup
  (call_meets F.slot_int_rmul (x78 k t) F.entry_int_rmul (F.args_int_rmul_2 _ _) (int___rmul___int_list k t l its.toArray n)
   (SU e (m7 e) (xRE F.slot_list_mul e F.entry_list_mul (F.args_list_mul_2 _ _) (AutoListH.list___mul___list_int_3 l its.toArray n k t YM hcap YS) (Fh e))))) hnew (Vj (.ref _) _ (I.lnew (r.rep k.toNat) (by rw [xaP,HM];exact hz)) (q _ I.fresh))
universe s
section
variable {prog:MY}{w:MZ}{A:M1}{E:AB}{s:MX}
set_option maxRecDepth 100000 in
universe s
section
variable {X:Cx}
universe s
universe L2
namespace Att
open PySem PySem.W PySem.Calls PyProof.Rows
def xep:∀ns vs,WellAll P h vs x5e->xG4:=by
 intro ns
 induction ns with
 |nil=>
  intro vs w;show zL Mm w w .nil
 |cons n ns ih=>
  intro vs w;rw [HH] at w;cases w with
  |cons a b=>
   cases a;exact .cons _ _ (ih _ b)
def wP {l:OpenLaw}(hn:xUL n)
  (hpre:SB (l.row.toRowW.claim.pre args)) (Yd:WellAll P h vals args):
  ∃a vs ns,vals=[tF]/\args=[WData.list x5e]/\uK xMG/\xG4/\xLO n:=by
 have hsh:SB (WShape.hasAll [] args [.list .int]):=x5m.1;have hc:SB (l.pre.holds [] {args:=args}):=x5m.2;show dD d r h1 h2 (hasAllW_cons hsh);obtain rfl:=hasAllW_nil h2;show ie xs h3 (hasW_list h1);show o4 ns (items_int h3);have hlen:xLO n:=by
  unfold OpenLaw.pre at hc;have h4:SB ((WTm.not (.lt (.lit (.int AA)) (.len (.arg 0)))).holds [] {args:=[.list (ns.map .int)]}):=by
   have h4:=(holds_andW hc).1;show ρ hn h4 h4
  show Ay h5 (condW_of h4 (w_not (w_lt w_lit (w_len_list (w_arg rfl))))) Fy h5;refine Hg (o6 q)
  have q':AA<x8w:=(xNF q)
  first
   |(rw [FM q'] at h5;show AX h5 Z9)
   |(simp at h5;omega)
 cases Yd with
 |cons w1 w2=>
  cases w2;cases w1 with
  |list ho NC=>exact Fb _ _ ns rfl ho (xep ns _ NC) hlen
def xgI (l:OpenLaw)(args:List WData):SB (l.row.toRowW.claim.post args xuM args):=
 postW_of
  (show SB (WShape.has [] xuM .bool) by first|rfl|decide|simp [WShape.has,WShape.arms,WShape.armsAll])
  (show SL ((WTm.eq .res (.lit xuM)).value [] {args:=args,res:=some xuM,after:=args}) (.bool (true==true)) from w_eq_bool (w_res rfl) w_lit) rfl
def xdz {l:OpenLaw}
  (hn:xUL n) (hdf:xYZ [])
  (call:∀(w:MZ) (s₀ s₁:MX) (mg mb:Β) (fa:MV) (o:M4) (pm cd doc:MW) (a:MV) (vs:B5) (ns:wd),
   Ground q loose [] XP w s₀ mg mb s₁.heap->YP w s₁.heap->
   s₁.heap.get? fa=IO->xAj (.func (docDef d.name d.params d.body d.scope pm cd doc))->s₁.heap.CodeRec cd d.name->x1m=TD fa->
   xYN a xMG->xG4->xLO n->s₁.gens=#[]->
   xuP (model l.prog w) callerA x0Q xT4 (λ r s'=>r=.ok x0Z/\x06/\x3j/\xDq) s₁):
  WalkO q loose XP YP l.row.toRowW d [] (λ f vs=>xZC vs):=by
 intro w s₀ s₁ mg mb G Y fa o pm cd doc dV kV ho hd Q9 hD hmg hg args vals as hpre hlay hrd Yd Qm;obtain rfl:dV=.none:=Dflts.none hD hdf;obtain rfl:kV=.none:=Dflts.noKw hD;obtain⟨a,vs,ns,rfl,rfl,hobj,hints,hlen⟩:=wP hn hpre Yd;refine enter_call (KU (call w s₀ s₁ mg mb fa o pm cd doc a vs ns G Y ho (fd_plain hd) Q9 hmg hobj hints hlen hg) (nA r hq));show Bj rfl h2 h3 h4 hq ⟨.inl ⟨xuM,xuM,[],rfl,E2,xuM,xgI l _,λ _=>⟨List.Pairwise.nil,λ _ hm=>(nomatch hm)⟩⟩,h2,h3,h4⟩
section
variable {prog:MY}{w:MZ}{A:M1}{E:AB}{s:MX}{K:Frag}
universe s
universe Att
namespace L2
open PySem PySem.Spec PyProof.Rows
def xfT (h:xG4):Vals U7 vs:=by
 induction h with
 |nil=>show yQ
 |cons n t _ ih=>exact Qd (Ex t)
def xdB (s:M5) (j:Nat):M5:=match s with
 | .ClassDef _ _ _ body _ _ _ _ _ _ _=>body.getD j (.Pass ⟨0,0,0,0⟩)
 |_=>.Pass ⟨0,0,0,0⟩
def xqS (s:M5):Arguments:=match s with
 | .FunctionDef _ a _ _ _ _ _ _ _ _=>a
 |_=>{posonlyargs:=[],args:=[],vararg:=none,kwonlyargs:=[],kw_defaults:=[],kwarg:=none,defaults:=[]}
def xxD (s:M5):yg:=match s with
 | .FunctionDef _ _ b _ _ _ _ _ _ _=>b
 |_=>[]
def am (s:M5):Scope:=match s with
 | .FunctionDef _ _ _ _ _ _ sc _ _ _=>sc
 |_=>{kind:=.function,names:=[],isGenerator:=false,isCoroutine:=false}
abbrev Ni:YA:=λ _ _ _ _ _ _=>False
abbrev E0:XK:=xQZ
def a7 {X:Cx}:xwz Ni X E0:=λ _ _ _ _ _ _ _ h=>h.elim
structure xwM (K:Frag)(x qual:Str)(st:M5)(f:MV)(fd:M0):Prop where
 ex:∃(oc:MW) (od:RD) (kV doc pm:MW) (an:RD) (M7 ct:MW) (osl:jc),
  fd=xDV x qual .none doc pm an M7 ct/\xHX fd/\xGV K M7
 kp:RO
section
variable {P:MY}{w:MZ}{K:Frag}{mg:Β}{base:M2}
def xwM.ok {x qual:Str}{st:M5}(F:Aj x qual st)(S:Uf N ps st)
  (Rk:∀(M7:MW) (A:M1) (outer:w4) (s:MX) (H:Hp) (vs:NE) (Q:VK) (E:XK),xDN k (xKY jU f M7)->qr->
   let X:=(xEt Ni P w K mg N jU f M7 A outer s H E).nox;∃t,xO9 t/\xCG) (len:xLv (∀vs H Q E,qr->iJ)):xJy (k+1):=by
 obtain⟨oc,od,kV,doc,pm,an,M7,ct,osl,rfl,lk,Q9⟩:=F.ex;refine xxt lk Q9 S len λ A outer s H vs Q E hr Sq=>?_
 show B8 t h q (Rk M7 A outer s H vs Q E hr Sq) ⟨t,h.nox,q⟩
def fun_mk {st:M5}{kV doc pm M7 ct:MW}(l:xHX (xDV x qual .none doc pm an M7 ct))
  (c:xGV K M7) (k:RO):xwM K x qual st f (xDV x qual .none doc pm an M7 ct):=⟨⟨oc,od,kV,doc,pm,an,M7,ct,osl,rfl,l,c⟩,k⟩
universe s
def xlT (h:kM n):xKo n:=Tn h
section
variable {X:Cx}
def pv (i){x:Str}{pos:Pos}(hN:Κ xz5)(hv:autoParam (xRd x) xk5)(hd:sS)
  (Q9:jZ (Ρ (x==x5I))):Am eM (xwA i):=xnV hN hv hd Q9
universe s
def aV {A B:Prop}(h:B):E1 false A B:=by
 show iL F7 h
def cy {A B:Prop}(h:A):E1 true A B:=by
 show LT AD h
def aT {c A B:Prop} [xLn] (h1:c->A)(h2:¬c->B):xWT A B:=by
 by_cases h:c
 ·show rz h (h1 h)
 ·show iL h (h2 h)
def xqJ {c A B:Prop} [xLn] (hc:c)(h:B):E1 (! decide c) A B:=by
 show LT (FM hc) (aV h)
def C' (H H':Hp):Prop:=∀b o,E5=IO->yC=IO
def C'.refl (H:Hp):ZC H:=λ _ _ h=>h
def C'.trans {H H1 H2:Hp}(a:mE)(b:xA0 H2):SR:=λ c o h=>b c o (a c o h)
def C'.seq {K:Frag}{H H':Hp}{a:MV}{xs:NE}(e:Ι)(h:yV):TX H' a:=by
 rcases h with(h|⟨o,h⟩)|h
 ·show BB (.inl (e _ _ h))
 ·show BB (qG o (e _ _ h))
 ·show CU h
def BT (n:Nat)(wi:TI)(g:TG)(te:TE):TE:=λ σ H Q=>xJA λ J H1=>∀l,vz l->∃W:uw,
 (xQb)/\∀i m ys σ' H',cq->
  (xEH H'/\AS)\/(xFQ H'/\∀x H2,xE5 H' x H2->yB λ σ3 H3=>xBj λ y H4=>
   yh=gm/\EG/\Fq (m'<m/\Dl))
def xiI (i:Nat)(t:TE):TS:=λ D σ H=>SY v (D.nx xUa H1)
def xbu {K:Frag}{g:TG}{te:TE}{R:lI}(Pv:Ct xNo)(h0:Pv 0 [] xDA)(hl:∀i ys H,kJ->sL->yV)
  (hs:∀i x ys σ H,xk->sL->xI2->RN λ σ3 H3=>xBj λ y H4=>yh=gm/\EG/\xL0 n/\wc (ys++SO) xEg)
  (hd:∀ys H,xRN H->R H) (mg:∀x σ H (A B:p7),(∀σ' H',xF4->xF5)->RN A->RN B) (mt:∀σ H (A B:VK),(∀v H',sJ->sG)->xI9->xJa):
  ∃W:uw,(xQb)/\∀i m ys σ' H',cq->
   (xIY Rz/\R H')\/(xJm Rz/\∀x H2,xJb Rz x H2->yB λ σ3 H3=>xBj λ y H4=>
    yh=gm/\EG/\Fq (m'<m/\Dl)):=by
 refine AG (λ i m ys σ H=>m=xIA/\kJ/\xI2/\sL) ⟨xs.length,Z6,AM,Gy,h0⟩;rintro i m ys σ H ⟨rfl,hi,hn,p⟩;have q:=tM ys H hi p;by_cases M8:oQ
 ·show Ey (qG ⟨xs,xs[i],q,by simp [M8]⟩ nK) e y y;show Fs (mg _ _ _ _ _ (λ σ3 H3 z=>mt _ _ _ _ (λ y H4 z9=>by show Bj z1 z2 z3 z4 z9 (Fb z1 z2 (WL (i+1)) aJ M8 z3 z4)) z) (tK x ys σ _ xH3 p hn))
 ·have e:xIH:=CC;show rU e ⟨xJ0,xOp H p⟩
def xhb (hc:xuN):xuS X "sum" (λ xs H Q=>∃(p:MV) (ns:wd),xs=Bf/\xJF U7/\Zv ns.sum):=by
 intro M6 s σ H xs us Q I r h;show dD p ns hq q h;show uV u rx xB8 rx;show qX rv pl;have hi:=xVF;show S8 ys hx hi.allInts.items hl (xYh x6E) (hx▸pl.isList);refine sum_intListG hc hl λ h' tk t' hk=>?_
 have e1:ns=xYp:=by
  rw [<-nums_intItems,<-hx];exact(AI x4S ns hi.numsOf).symm
 have e2:preSum xLW ys.size=ns.sum:=by
  rw [preSum_eq,xOo,e1]
 show LT e2 (bp ns.sum (I.kept hk) CY q)
def dg:xuS X "isinstance" (λ xs H Q=>∃x c t b,xs=[x,.ty c]/\xqz X.K H x t/\SL (kitOne X.K t (.type c)) b/\xIU):=by
 intro M6 s σ H xs us Q I r h;show jx x c t b rfl ty e q;show dD u v ru rv (xxk r);cases rv;exact xf6 I ru ty e λ tk=>Ef b H (I.tok tk) q
def xqD {X:Cx}:zQ .IsNot (λ x y H Q=>∃c d,x=.bl c/\y=.bl d/\xv (c !=d)):=by
 intro M6 s σ H x y v u Q I rx ry h;show dD c d rfl q h;show vS rx ry;exact isnot_bool (Ef (c !=d) H I q)
def xnb (X:Cx) (N:An) (scope:Scope) (cl:fg) (fp:υ) (s:MX) (H:Hp):Cx where
 prog:=X.prog
 w:=X.w
 K:=X.K
 mg:=X.mg
 base:=X.base
 A:=X.A
 N:=N
 s₀:=s
 H₀:=H
 env:=x66 cl s.heap.objs.size X.env
 outer:=X.stack
 stack:=X.stack
 ex:=fp
 fn:=λ _=>false
 calm:=X.calm
 pn:=[]
 xe:=jb
def cap (js:xVb)(σ:St):St:=xWU o (match o with
 |none=>none
 |some j=>xEm (σ[j]?))
structure xdd (X:Cx)(N:An)(scope:Scope)(cl:fg)(js:xVb):Prop where
 kind:xDY
 nocell:xHg
 names:a6 (xPY->xO8)
 clos:x2D=pure cl
 sub:∀x c,xDJ x c->PX
 has:∀x,(xVY x3I\/SL x3I .free)->∃c,xDJ x c
 len:js.length=N.length
 slot:pk i x Str j Nat (vw N->A7 js (some j)->yO X.N x/\xXP x .cell/\xVY x3I/\∀c,PX->xDJ x c)
def xfP {σ:St}{fp:υ}(I:ST)(C:xAb X N cl js)
  (hf:o5 H) (M8:yG (xuC b)) (hn:x46 m) (hk:∀b o,Bc=IO->WE=IO):
  t8 Zd (cap js σ) H TZ:=by
 have sub:∀{x} {c},SL (x67 Zd) c->PX:=λ {x c} e=>C.sub x c e
 refine⟨⟨I.ok.mod,C.kind,I.ok.glob,I.ok.blt,UV,λ x y c e1 e2=>I.ok.inj x y c (sub e1) (sub e2),λ x hx=>C.has x hx,λ x c e _=>(by cases e),I.qt,I.ok.frames,Dm,
  BA ⟨Hf (M8 b hb),λ x c e=>YV ui x c xMl⟩,I.bs,xRY I.sz,λ b o e hb=>?_,τ b hb hs,I.stack,I.stkFree⟩,
  rfl,I.bare,x0G,⟨m,hn,λ i x v h1 h2 h3=>?_⟩,Fw x c,pD,λ x c e=>xNn xMl,Zc,x7C,by unfold cap;show Ai C.len⟩
 ·show Ed (kK ui)
  ·exact xZZ o e z
  ·show AX (FN a8 (xRY z)) Xa
 ·show WX (xSr hs) z z
  ·exact A4 ui z
  ·exact A4 ui.2 z
 ·unfold cap at h2;rw [Gs] at h2;cases ej:js[i]? with
  |none=>show Μ ej h2 h2
  |some o=>
   rw [ej] at h2;cases o with
   |none=>cases h2
   |some j=>
    have T6:aU (xEm (σ[j]?)):=Gg h2;obtain⟨hj1,ZM,Uc,hc⟩:=C.slot i x j h1 ej;have Sg:yO σ wA:=by
     cases e:σ[j]? with
     |none=>show vR T6 T6
     |some w'=>show ρ e T6 (xyP T6)
    obtain⟨mo,hno,hl⟩:=I.loc;show Bq u r l (hl j x v hj1 Sg (.inr (.inl ZM))) (AG u r);rcases l with⟨q,_⟩|⟨_,c,ec,o,ho,hd⟩
    ·have q':xIQ:=q;show Μ ZM q' q'
    ·show CU ⟨.inl Uc,c,hc c ec,o,hk c o ho,hd⟩
 ·show Bj v o ho hd (xNq xMl) ⟨v,o,hk c o ho,hd⟩
 ·show AX (jr p ([]:χ) hp) Z6
def xfA {σ:St}{σ':St}(I:ST)(hf:o5 H)(I':Inv Zd N4 σ' H' s'):Wg:=
 I.call' I'.os I'.base I'.hok I'.bare (BA ⟨kK ui,A4 ui,YV ui,iK ui⟩)
def xb6 (js:xVb)(wi:TI)(g:TG)(te:TE):TE:=λ σ H Q=>xJA λ J H1=>∀l,vz l->∃W:uw,
 (xQa (cap js σ))/\∀i m ys σ' H',cq->
  (xEH H'/\AS)\/(xFQ H'/\∀x H2,xE5 H' x H2->yB λ σ3 H3=>xBj λ y H4=>
   yh=gm/\EG/\Fq (m'<m/\Dl))
def xqN (js:xVb)(wi:TI)(g:TG)(tt:TT)(te:TE):TE:=λ σ H Q=>xJA λ J H1=>∀l,vz l->∃W:uw,
 (xQa (cap js σ))/\∀i m ys σ' H',cq->
  (xEH H'/\AS)\/(xFQ H'/\∀x H2,xE5 H' x H2->yB λ σ3 H3=>N9 λ c H5=>O8 c (λ y H4=>
   yh=gm/\EG/\Fq (m'<m/\Dl)) (Fq (m'<m/\xEy (i+1) ys H5)))
def tz (n:Nat)(wi:TI)(g:TG)(tt:TT)(te:TE):TE:=λ σ H Q=>xJA λ J H1=>∀l,vz l->∃W:uw,
 (xQb)/\∀i m ys σ' H',cq->
  (xEH H'/\AS)\/(xFQ H'/\∀x H2,xE5 H' x H2->yB λ σ3 H3=>N9 λ c H5=>O8 c (λ y H4=>
   yh=gm/\EG/\Fq (m'<m/\Dl)) (Fq (m'<m/\xEy (i+1) ys H5)))
def xnx (prog:MY)(w:MZ)(A:M1)(elt M9 iter:M3)(cs:zq)(scope:Scope)(pos:Pos)(tw:Env->(xVf)->W8 (AB)):Prop:=
 ∀(R:W8 Result) (s:MX) (it acc:MW) (env:Env) (J:Ct (ZU MX)),(∀n z,J n z->xK (pyNext it) (λ r z1=>match r with
   |none=>R (.ok .next) z1
   |some v=>xK (letOwnedTupleGo M9 it v) (λ _ z2=>xK (assign M9 env v) (λ _ z3=>tw env (λ b z6=>E1 b (xK (zt elt) (λ x z4=>
     xK (xuL "list.append" [acc,x]) (λ _ z5=>∃m,m<n/\J m z5) (xJD λ e s'=>xIP) z4) (xJD λ e s'=>xIP) z6) (∃m,m<n/\J m z6)) (xJD λ e s'=>xIP) z3) (xJD λ e s'=>xIP) z2) (xJD λ e s'=>xIP) z1) (xJD λ e s'=>xIP) z)->
  ∀n,J n s->codeAny QK A (x8P 0 it acc env) R s
def twI (prog:MY)(w:MZ)(A:M1)(VE:M3):Env->(xVf)->W8 (AB):=λ env Q E z=>xzw (isTrue VE env (zt VE)) z
def tw0:Env->(xVf)->W8 (AB):=λ _ Q _ z=>xAo z
def xwU
    (h:(∃VE,cs=[VE]/\tw=twI prog w A VE)\/(cs=[]/\tw=tw0)):xnx prog w A elt M9 iter cs scope pos tw:=by
  intro R s it acc env J turn n h0
  refine codeAny_loop rfl J (τ k z hz) n h0
  show qL ((compTurn xHD 0 it acc env).onRaise (λ q=>do noteFrame q env;theTreesLotGoes q)) z
  refine wpAny_noted ?_
  rw [compTurn_list]
  show xRi (FG (Z0 (turn k z hz) (τ r z1 g1) q q))
  cases r with
  |none=>exact F3 g1
  |some v=>
    show AR (Z0 g1 (λ _ z2 g2=>FG (Z0 g2 (λ _ z3 g3=>?_) q q)) q q)
    rcases h with⟨VE,rfl,rfl⟩|⟨rfl,rfl⟩
    · show AR (wpAny_tests_one (Z0 g3 (τ b z6 g6) q q))
      cases b with
      |false=>exact xWs g6
      |true=>exact FG (FG (Z0 g6 (λ x z4 g4=>FG (Z0 g4 (λ _ z5 g5=>F3 (xWs g5)) q q)) q q))
    · exact FG (xz7 (FG (Z0 g3 (λ x z4 g4=>FG (Z0 g4 (λ _ z5 g5=>F3 (xWs g5)) q q)) q q)))
def PTw (X:Cx)(tw:Env->(xVf)->W8 (AB))(tt:TT):Prop:=∀M6 s σ H Q Q' E,ST->xCC Q->(∀b s',(∃H',Wg/\Fj b)->Q' b s')->tw X.env Q' E s
def ttT:TT:=λ _ H Q=>xAo H
def xa2:PTw X tw0 ttT:=λ _ _ _ H _ _ _ I h k=>zf ⟨H,I,h⟩
def xgr (ht:gz VE tt)(hx:∀e s,X.xe e s->False):PTw X (twI X.prog X.w X.A VE) tt:=
 λ M6 s σ H Q Q' E I h k=>Z0 (ht M6 s σ H Q I h) (λ b s' z9=>by show B8 H' x y z9 (k b s' ⟨H',x,y⟩)) z (hx _ _ z).elim
def xlM {N:An}{σ:St}:cap xSg σ=xKm N.length:=by
 show Rq cap Ii MR
def xt5 (O0:xDY)(OU:a6 xUv)(O1:xHg)(PD:a6 (xPY->xO8)):xAb X N [] xSg:=by
 have rl:yT (xYB).names (x∈scope.names):=by
  intro x hx;obtain⟨⟨n,k⟩,m,e⟩:=IK.mp hx;have hk:xSl k:=OU _ m;have:Ρ (k==NameKind.free):=by simpa using hk
  simp [this] at e;show Bg e m
 refine⟨O0,O1,PD,closureFor_none OU,λ x c h=>(by cases h),SC x h,Fy ..,λ i x j h1 h2=>?_⟩
 ·rcases h with h|h
  ·show AX rfl (O1 _ (rl _ (Hu h)))
  ·show AX rfl (OU _ (rl _ (Hu h)))
 ·rw [Gs] at h2;cases e:N[i]? with
  |none=>show vR h2 h2
  |some y=>show vR h2 h2
def xcJ {N:An}{te:TE}{σ:St}{H:Hp}(h:BT N.length wi g te σ H Q):xH5 xSg g ttT te σ H Q:=by
 show Rq xqN xlM h
def xiM {N:An}{wi:TI}{g:TG}{tt:TT}(h:xZ2 wi g tt te σ H Q):xH5 xSg g tt te σ H Q:=by
 show Rq xqN xlM h
inductive xjh (cl:fg) (X:Cx) (N:An) (scope:Scope) (fp:υ) (tn:lT M2) (W:uw) (H3:Hp) (s3:MX) (n:Nat) (s':MX):Prop
 |mk (i:Nat) (ys:NE) (σ':xVa) (H':Hp) (h0:t8 xPc σ' H' s') (h1:xBB s'.heap) (h2:(xG7)) (h3:W i n ys σ' H'):xjh cl X N scope fp tn W H3 s3 n s'
def xmg {X:Cx}{N:An}{scope:Scope}{σ:St}{RR:MW->MV->W8 Result}{Wx:υ->MX->Hp->AB}
  (hc:mj) (Cp:xAb X N cl js)
  (hi:Rm) (hg:∀fp s H,xPy g) (LR:x1n X.w X.A elt M9 iter cs scope pos tw) (ht:∀fp s H,PTw Zd tw tt) (he:∀fp s H,zA ((Zd).wish (Wx fp s H)))
  (I:ST) (h:xH5 js g tt te σ H Q)
  (hR:∀(l C:MV) (H':Hp) (s':MX),Wg->xBp C->(∃m,s'.heap.Ns C m)->AS->RR A8 C (.ok .next) s')
  (hE:∀(l:MV) (fp:υ) (s3:MX) (H3:Hp) (e:MW) (s':MX),lu H3 s3->(o5 H3)->Wx fp s3 H3 e s'->pM (noteFrame e X.env) (λ _ s'=>xYD A8 xX2 s') (λ e s'=>xYD A8 xX2 s') s'):
  yN x0T (λ x s₁=>pI (pyIter x) (λ it s₂=>pI (newList []) (λ acc s₃=>
   pI (newFunctionEnv scope X.env.globals cl [] X.env.qual none .none (some X.env)) (λ cenv s₄=>
    xSz X.A (.compStart xHD 0 it acc {cenv with scope:=xYB}) (RR acc cenv.locals) s₄) s₃) s₂) s₁):=by
 refine dU (xB1 s H _ I h) v s1 h1 (dU h1 itv s2 h2 ?_)
 obtain⟨it,fp,tn,J,H2,e,I2,T,Qw,f2,hw⟩:=h2;subst e;have NH:WF (H2 s2.heap.objs.size):=x51;obtain⟨W,⟨m0,w0⟩,turn⟩:=hw s2.heap.objs.size NH;have lt2:yG (b<s2.heap.objs.size):=BA (let⟨o,e,_⟩:=xJi Qw b hb;a8)
 refine xQQ;have I3:lu (E4 H2 s2.heap.objs.size []) {s2 with heap:=xWB ([]:B5)}:=
  I2.laid (t':=s2.toks) (λ b u e=>rR) UV ⟨AM,[],0,.nil,vq⟩
 have Ot:tn 0 (xWB ([]:B5)):=xMa _ _ Qw λ b hb o e=>rR
 have lt3:yG (b<(xWB ([]:B5)).objs.size):=BA (by show LT KM (J9 (lt2 b hb)))
 show DR f3 (o5 (E4 H2 s2.heap.objs.size [])) (BA ⟨by show XV (Hf (lt2 b hb)) (f2 b hb).1,(f2 b hb).2⟩) s2.heap.objs.size l;show vo H2 l [] H3;have hs3:∃s3:MX,s3={s2 with heap:=xWB ([]:B5)}:=CY;obtain⟨s3,e3⟩:=hs3;rw [<-e3] at I3;rw [<-e3];have Ot:tn 0 s3.heap:=by show LT e3 Ot
 have lt3:yG (b<s3.heap.objs.size):=by show LT e3 lt3
 clear e3;refine wpAny_newFunctionEnv Cp.nocell (by intro y hy;simp at hy) (τ h4 hns hsb) Cp.kind;have kp:∀b o,s3.heap.get? b=IO->h4.get? b=IO:=λ b o e=>x8a o xMz rR
 have I4:=xfP (N:=N) (t':=xBo s3.toks ([]:gP MW)) I3 Cp f3 lt3 hns kp;have Pd:tn 0 h4:=xMa _ _ Ot λ b hb o e=>kp b o e
 have VF:∀{H':Hp},(xG7)->yG (xrE xPc [] H' b):=λ hn b hb=>
  ⟨hn b hb,(I4.ok.exf b hb).1,I4.ok.exfs b hb,.inl hb,(I4.ok.exf b hb).2,px p hp (jr p ([]:χ) hp) Z6⟩
 have loop:xSz X.A (x8P 0 jV A8 (x66 cl s3.heap.objs.size X.env)) (xYD A8) {s3 with heap:=h4,toks:=xBo s3.toks ([]:gP MW)}:=by
  refine LR _ _ _ _ _ (xjh cl X N scope fp tn W H3 s3) ?_ m0 ⟨0,[],_,_,I4,Pd,BA (f3 b hb).1,w0⟩;rintro n s5 ⟨i,ys,σ5,H5,I5,st5,Sv,w5⟩;rcases turn i n ys σ5 H5 w5 with⟨stop,q⟩|⟨go,step⟩
  ·show Ey (EJ (T.done xPc rfl rfl rfl hc i [] s5 σ5 H5 _ I5 (VF Sv) st5 stop) r s6) hr I6 z9;show DI hr (hR _ _ _ _ (xfA I3 f3 I6) (I3.fpOk UV I6.free) (let⟨m,hn,_⟩:=I6.loc;⟨m,hn⟩) q)
  ·show wF (EJ (T.item xPc rfl rfl rfl hc i [] s5 σ5 H5 _ I5 (VF Sv) st5 go) r s6) u hr h6 z9;subst hr;refine xGp h6 s7 z9 ?_
   obtain⟨x,H7,I7,r7,y7,st7,Ys⟩:=z9;have I7':=I7.pinned (VF Ys) (xJi st7);refine Z0 (hg fp s3 H3 _ s7 σ5 H7 x u _ I7' r7 (step x H7 y7)) (λ _ s8 z9=>?_) z xDx;obtain⟨σ8,H8,I8,q8⟩:=z9;show wF (ht fp s3 H3 _ s8 σ8 H8 _ _ _ I8 q8 (τ bb s85 z85)) H85 I85 q85 z85;cases bb with
   |false=>
    rw [NZ] at q85 ⊢;show Bq m' hm' w9 q85 ⟨m',hm',i+1,ys,σ8,H85,I85.unpinned,xMa _ _ st7 λ b hb o e=>(I85.pin (b,o) CP).1,rK,w9⟩;show B8 o e d (xJi st7 b hb) (A4 (I85.pin (b,o) CP))
   |true=>
   rw [AD] at q85 ⊢;refine HP (he fp s3 H3 _ s85 σ8 H85 _ (I85.wish _) q85) (τ v s9 z9) λ e s' z=>hE l fp s3 H3 e s' I3 f3 z
   obtain⟨y,H9,I9',r9,hl9,hz9,m',hm',w9⟩:=z9;have I9:=I9'.unwish;refine Z0 (xqR (X:=xPc) _ s9 σ8 H9 A8 SO A8 [v] (λ z Hz=>Hz=qO H9 (ys++SO)) I9 rfl (xyv r9) (Fb l ys y rfl hl9 hz9 rfl)) (λ _ Xd ⟨z,Hz,I10,_,eH⟩=>?_) z xDx
   subst eH;refine⟨m',hm',i+1,ys++SO,σ8,_,I10.unpinned,xMa _ _ st7 λ b hb o e=>(I10.pin (b,o) CP).1,rK,w9⟩;show B8 o e d (xJi st7 b hb) (A4 (I10.pin (b,o) CP))
 exact codeAny_compStart_list loop (T.self X.A 0 _ _ _ Pd loop)
def xs0 {X:Cx}{N:An}{scope:Scope}{cl:fg}(hc:mj)(Cp:xAb X N cl js)
  (hi:Rm) (hg:∀fp s H,xPy g) (LR:x1n X.w X.A elt M9 iter cs scope pos tw) (ht:∀fp s H,PTw Zd tw tt) (he:∀fp s H,zA Zd)
  (hs:BW x (Xn=eW)):xNC [NG cs] (xH5 js g tt te):=by
 intro M6 s σ H Q I h;show Η eval_ListComp (x4F hs Cp.clos Cp.kind Cp.names (xmg hc Cp hi hg LR ht he I h ?_ (x6r z)))
 rintro l C H' s' I' fC ⟨m,hn⟩ q;exact⟨m,hn,λ h' sb'=>Vj A8 H' (I'.turned (λ b o hb e=>vL sb' b hb e) fC.1 (A4 fC) (kK fC) (YV fC) (iK fC)) q⟩
def xaB {X:Cx}{N:An}{scope:Scope}{cl:fg}{i:Nat}{y:Str}{py YC:Pos}(hN:X.N.Nodup)(hiy:xW1)(hy:xDp y)
    (hc:mj) (Cp:xAb X N cl js)
    (hi:Rm) (hg:∀fp s H,xPy g) (LR:x1n X.w X.A elt M9 iter cs scope pos tw) (ht:∀fp s H,PTw Zd tw tt) (he:∀fp s H,zA Zd)
    (hsw:xX4 xHD (some xFq) YC.line=pure true)
    (hs:BW x (Xn=eW)) (hf:xu0 (SB (X.fn y)\/xKL y)):
    xEl X [xFq] xHD YC (xiI i (xH5 js g tt te)):=by
  intro M6 s σ H D I h
  rw [exec_Assign_Name_used _ _ _ _ hsw]
  show xRi (FG ?_)
  show xKs X.A (do let _<-comprehension xHD scope X.env _ (newList []) false x0T (some (xSk xFq))) s
  show AR (Z0 (x4F hs Cp.clos Cp.kind Cp.names (xmg hc Cp hi hg LR ht he I h ?_ (x6r z))) (λ _ s' hq=>F3 (F3 hq)) e e)
  rintro l C H' s' I' fC ⟨m,hn⟩ q
  show xKs X.A (xSk xFq A8) _
  show wF (wpAny_assign_Name (xlS I' hN hiy hy (show RelV A8 A8 from rfl) (τ s2 I2 z9) hf)) a sb ha z9
  have hCa:C≠a:=by
    rcases ha with ha|ha
    · show LT ha (A4 fC)
    · exact Kc (YV fC y a ha)
  exact⟨m,hn.sameBut sb hCa,λ h' sb'=>vg H' (I2.turned (λ b o hb e=>vL sb' b hb e) fC.1 (A4 fC) (kK fC) (YV fC) (iK fC)) q⟩
def xaR (hc:mj)(O0:xDY)(OU:a6 xUv)(O1:xHg)(PD:a6 (xPY->xO8))(hi:Rm)(hg:∀fp s H,PG (cH X N s H) M9 g)(he:∀fp s H,zA (cH X N s H))(hs:BW x (Xn=eW)):
  xNC [NG []] (BT N.length wi g te):=
 λ M6 s σ H Q I h=>xs0 hc (xt5 O0 OU O1 PD) hi hg (xwU eQ) x6c he hs M6 s σ H Q I (xcJ h)
def xev {X:Cx}{N:An}{scope:Scope}{elt:M3}(hc:mj)(O0:xDY)(OU:a6 xUv)(O1:xHg)(PD:a6 (xPY->xO8))(hi:Rm)(hg:∀fp s H,PG (cH X N s H) M9 g)(ht:∀fp s H,PT (cH X N s H) VE tt)(he:∀fp s H,zA (cH X N s H))(hs:BW x (Xn=eW)):
  xNC [NG [VE]] (xZ2 wi g tt te):=
 λ M6 s σ H Q I h=>xs0 hc (xt5 O0 OU O1 PD) hi hg (xwU xMw) (x2l (ht _ _ _) xzp) he hs M6 s σ H Q I (xiM h)
def xhj {X:Cx}{N:An}{scope:Scope}{py YC:Pos}(hN:X.N.Nodup)(hiy:xW1)(hy:xDp y)(hc:mj)(O0:xDY)(OU:a6 xUv)(O1:xHg)(PD:a6 (xPY->xO8))(hi:Rm)(hg:∀fp s H,PG (cH X N s H) M9 g)(ht:∀fp s H,PT (cH X N s H) VE tt)(he:∀fp s H,zA (cH X N s H))(hsw:xX4 (xQP [NG [VE]]) (some xFq) YC.line=pure true)(hs:BW x (Xn=eW))(hf:xu0 (SB (X.fn y)\/xKL y)):
  xEl X [xFq] (xQP [NG [VE]]) YC (xiI i (xZ2 wi g tt te)):=
 λ M6 s σ H D I h=>xaB hN hiy hy hc (xt5 O0 OU O1 PD) hi hg (xwU xMw) (x2l (ht _ _ _) xzp) he hsw hs hf M6 s σ H D I (xiM h)
def xpB {X:Cx}{N:An}{scope:Scope}(hc:mj)(Cp:xAb X N cl js)(hi:Rm)(hg:∀fp s H,xPy g)(he:∀fp s H,zA Zd)(hs:BW x (Xn=eW)):
  xNC [NG []] (xb6 js wi g te):=
 λ M6 s σ H Q I h=>xs0 hc Cp hi hg (xwU eQ) x6c he hs M6 s σ H Q I (h)
def xfK {X:Cx}{N:An}{scope:Scope}(hc:mj)(Cp:xAb X N cl js)(hi:Rm)(hg:∀fp s H,xPy g)(ht:∀fp s H,PT Zd VE tt)(he:∀fp s H,zA Zd)(hs:BW x (Xn=eW)):
  xNC [NG [VE]] (xH5 js g tt te):=
 λ M6 s σ H Q I h=>xs0 hc Cp hi hg (xwU xMw) (x2l (ht _ _ _) xzp) he hs M6 s σ H Q I (h)
def xlU {lo:Int}{g:TG}{te:TE}{R:lI}(Pv:Ct (NE->p7))(h0:Pv 0 [] σ0 xDA)
  (hs:∀i ys σ H,i<k->xPo H->x2A (lo+YX i) H (λ σ3 H3=>xBj λ y H4=>yh=gm/\EG/\wc (ys++SO) σ3 xEg))
  (hd:∀ys σ H,xy0 k σ H->R H) (mg:∀x σ H (A B:p7),(∀σ' H',xF4->xF5)->RN A->RN B) (mt:∀σ H (A B:VK),(∀v H',sJ->sG)->xI9->xJa):
  ∃W:uw,(xQa σ0)/\∀i m ys σ' H',cq->
   (xIY x3K/\R H')\/(xJm x3K/\∀x H2,xJb x3K x H2->yB λ σ3 H3=>xBj λ y H4=>
    yh=gm/\EG/\Fq (m'<m/\Dl)):=by
 refine AG (λ i m ys σ H=>m=k-i/\i≤k/\xPo H) ⟨k,Z6,AM,h0⟩;rintro i m ys σ H ⟨rfl,hi,p⟩;by_cases M8:i<k
 ·show Ey (qG M8 nK) e y y;subst e y;exact mg _ _ _ _ _ (λ σ3 H3 z=>mt _ _ _ _ (λ y H4 z9=>by show B8 z1 z2 z4 z9 (Qc z1 z2 (k-(i+1)) aJ M8 z4)) z) (tK ys σ _ M8 p)
 ·have e:i=k:=CC;show rU e ⟨UV,xOp σ H p⟩
structure OG (K:Frag)(x qual:Str)(st:M5)(dV:MW)(f:MV)(fd:M0):Prop where
 ex:∃(oc:MW) (od:RD) (kV doc pm:MW) (an:RD) (M7 ct:MW) (osl:jc),
  fd=xDV x qual dV doc pm an M7 ct/\xHX fd/\xGV K M7
 kp:RO
def OG.ok {K:Frag}{st:M5}(F:xCv qual f fd)(S:Uf N ps st)
  (hb:∀(M7:MW) (A:M1) (outer:w4) (s:MX) (H:Hp) (vs:NE) (Q:VK) (E:XK),xDN k (xKY jU f M7)->qr->
   let X:=(xEt Ni P w K mg N jU f M7 A outer s H E).nox;∃t,xO9 t/\xCG) (len:xLv (∀vs H Q E,qr->iJ)):xJy (k+1):=by
 obtain⟨oc,od,kV,doc,pm,an,M7,ct,osl,rfl,lk,Q9⟩:=F.ex;refine xxt lk Q9 S len λ A outer s H vs Q E hr Sq=>?_
 show B8 t h q (hb M7 A outer s H vs Q E hr Sq) ⟨t,h.nox,q⟩
def xrw (P:MY)(w:MZ)(h:M2)(d:MV)(a b:Int):Prop:=∃t t':Tok,h.MapOf (intKind P w) d (valueAt [(kT,xzg a),(16,.int b t')])
def at8 (a b:MW):SL (valueAt [(kT,a),(16,b)] 8) a:=rfl
def xcV (a b:MW):SL (valueAt [(kT,a),(16,b)] 16) b:=rfl
def xvD (K:Frag)(d:MV)(a b:Int):Prop:=Ρ (xXZ d)/\∃(t1 t2 t3 t4:Tok) (ep:Nat),xKj d ⟨xRq,none,xVC #[xH6 8 (xVo t1) a t2,xH6 16 x3u b t4],#[]⟩
def xvD.map {K:Frag}{d:MV}{a b:Int}{h:M2}(P:MY)(w:MZ)(T:xvD K d a b)(X:aX):xrw P w h d a b:=by
 obtain⟨_,t1,t2,t3,t4,ep,e⟩:=T;refine⟨t2,t4,_,_,ep,X _ _ e,xNg rfl,rfl,?_,?_⟩
 ·intro en hen;have hen':en=xH6 8 (xVo t1) a t2\/en=xH6 16 x3u b t4:=by simpa using hen
  show Ru hen'
  ·exact⟨8,x8b w 8 t1,by show eG (kT=hashInt 8)⟩
  ·exact⟨16,x8b w 16 t3,by show eG (Ε 16=hashInt 16)⟩
 ·intro k;show findBy Value.isInt _ k=_;unfold findBy valueAt;by_cases h8:k=8
  ·subst h8;simp [Value.isInt]
  ·by_cases h16:k=16
   ·subst h16;simp [Value.isInt]
   ·have e1:¬kT=k:=Re (h8 z.symm)
    have e2:¬Ε 16=k:=Re (h16 z.symm)
    simp [Value.isInt,e1,e2]
def xcZ (P:MY)(w:MZ)(d:MV)(a b:Int):HO:=.ext λ h=>xrw P w h d a b
def Sq2 (X:Cx)(H:Hp)(d:MV)(a b:Int):Prop:=xvD X.K d a b\/wQ d (xcZ X.prog X.w d a b)
def Inv.map2 {X:Cx}{M6:χ}{σ:St}{H:Hp}{s:MX}{d:MV}{a b:Int}(I:ST)(h:Sq2 X H d a b):xrw X.prog X.w s.heap d a b:=by
 rcases h with h|h
 ·exact h.map _ _ I.kIn
 ·exact(qK d h).1
inductive rIx2 (X:Cx) (x:V) (y:V) (H:Hp) (Q:VK):Prop
 |mk (d:_) (i:_) (a:_) (b:_) (h0:x=VO) (h1:y=Eh) (h2:Sq2 X H d a b) (h3:((i=8/\Zv a)\/(i=16/\Zv b))):rIx2 X x y H Q
def xue {X:Cx}:xGE (rIx2 X):=by
 intro value slice M6 s σ H x y v u Q I rx ry h hs;show jx d i a b rfl rfl hm hq;show xBN rx ry;obtain⟨t1,t2,hm⟩:=I.map2 hm;rcases hq with⟨rfl,q⟩|⟨rfl,q⟩
 ·exact x8M (x68 (xZD _ _ _) (at8 _ _) (bp a sI CY q)) hs
 ·exact x8M (x68 (xZD _ _ _) (xcV _ _) (bp b sI CY q)) hs
inductive xjy (X:Cx) (x:V) (y:V) (H:Hp) (Q:VK):Prop
 |mk (d:MV) (i:Int) (a:Int) (b:Int) (h0:x=Eh) (h1:y=VO) (h2:xvD X.K d a b) (h3:(i=8\/i=16)) (h4:xTL):xjy X x y H Q
def xeg {X:Cx}:zQ .NotIn (xjy X):=by
 intro M6 s σ H x y v u Q I rx ry h;obtain⟨d,i,a,b,rfl,rfl,hT,hi,q⟩:=h;show i7;cases ry;show Bq t1 t2 hm (hT.map X.prog X.w I.kIn) (wpAny_notIn_of (xZD _ i t) hT.1 hm ?_);show Ru hi
 ·exact Ef false H sI q
 ·exact Ef false H sI q
inductive xld (X:Cx) (x:V) (y:V) (H:Hp) (Q:VK):Prop
 |mk (p:MV) (q:MV) (ns:wd) (ms:wd) (h0:x=Bw) (h1:y=Y5) (h2:xJF U7) (h3:x1P q xYT) (h4:xv (Dy ns ms)):xld X x y H Q
def xtH {X:Cx}(hu:xPv):zQ .Eq (xld X):=by
 intro M6 s σ H x y v u Q I rx ry h;obtain⟨p,q,ns,ms,rfl,rfl,h1,h2,k⟩:=h;show vS rx ry;show xNh rv pl h1;show Bj N2 Vk Vv Sm x1o (PySem.W.eq_intsK pl.isList xVF Vv.isList (xqQ Vk) hu (Ef _ H I k))
universe L2
namespace QQ
open PySem
def xeB {os:OsState}
  (hC:Tr C (x69 q C N bs bm hdct sn sub ab col dd k0 k1 k2 k3 k5 newId)) (hD:Tr D (excClassObj nm' q' D N' bs' bm' hdct' sn' sub' ab' col' dd' j0 j1 j2 j3 j5 newId'))
  (he:Tr e oe) (YO:oe.cls=Ap) (Uz:SB (bm'.contains xKu)) (hm:xRQ (gB C bm) (.ref D)) (ne:C≠D)
  (hq:xAo ⟨h,g,d,t,os⟩):uo (excMatches DZ (.ref D)) ⟨h,g,d,t,os⟩:=by
 have hcB:xRQ (gB D bm') xKu:=by rw [List.contains_cons,Uz,Bool.or_true]
 have f:=tc_notTuple;unfold excMatches
 repeat (first|(with_reducible refine x6F he;rw [YO])|with_reducible refine x6F hD|(with_reducible refine x5P hD;rw [hcB])|(with_reducible refine x5P hC;rw [hm])|wp_step)
 exact hq
universe QQ
set_option maxHeartbeats 8000000
namespace L2
open PySem PySem.Spec PyProof.Rows QQ
def xwI.there (x:BY o):∃ob,uK ob:=by
 cases o with
 |lst xs=>show xK1 e x uS
 |tup xs=>obtain⟨_,_,_,ob,e,_⟩:=x;exact uS
 |dK Nj=>show xQS e x;exact uS
 |dT Nj=>show xQS e x;exact uS
 |set S n=>obtain⟨o,_,_,_,e,_⟩:=x;exact uS
 |ins C dx fs=>show xRX e x uS
 |own y=>exact x
 |xd fs=>show x64 x;exact uS
 |rng lo hi=>show iN e x uS
 |frz ob u=>obtain⟨e,_⟩:=x;exact uS
 |tbl ps=>exact Bt (xXc _ x)
 |met f y=>exact Bt (xXc _ x)
 |ext φ=>obtain⟨_,e,_⟩:=x;exact e
def O6.gone (x:RK)(e:WF xzI):xIy:=by
 cases q:XL with
 |none=>rfl
 |some u=>
  obtain⟨ob,r⟩:=(x a u q).there;show vR r r
def xru (h0:M2)(H:Hp)(e:MV)(c:MW):Prop:=xf H e/\∀b,c=EY->WF (h0.get? b)
def xqY (D:ZU MW)(P:MY)(w:MZ):YA:=λ outer H s E e s'=>∃ea cls fp H',e=dN/\x33/\xDq/\Un xZ1 [] H H' s.heap s'.heap/\aP H' s'.heap/\
 (∃c,D c/\x3d ea fp c/\xru s.heap H' ea c)/\(yG (WF Bc/\Oo))/\xLw cls H'
abbrev CXE:MY->MZ->YA:=xqY xRI
structure xxI (X:Cx)(M6:χ)(b:MV):Prop where
 s0:WF WQ
 loc:wz
 cel:∀x c,PX->RU
 pin:Sx
def BkX (X:Cx)(M6:χ)(H:Hp)(e:MV)(c:MW):Prop:=xf H e/\∀b,c=EY->xxI X M6 b
structure xxJ (X:Cx)(M6:χ)(H:Hp)(b:MV):Prop where
 s0:WF WQ
 h:Ee
 loc:wz
 cel:∀x c,PX->RU
 pin:Sx
def Inv.newA {σ:St}(I:ST)(e:WF Bc)(hx:xM7):xxI X M6 b:=by
 refine⟨?_,xw,λ x c ec z=>?_,τ p hp z⟩
 ·cases q:WQ with
  |none=>rfl
  |some o=>
   obtain⟨o',r⟩:=x7o q;show vR r r
 ·show xYM m o ho;rw [<-z,e] at ho;cases ho
 ·obtain⟨v,o,ho,_⟩:=xNq ec;show B0 e ho ho
 ·show xCx xAa.1 e
def Inv.new {σ:St}(I:ST)(e:WF Bc)(n:Oo)(hx:xM7):xPC b:=
 let a:=I.newA e hx
 ⟨a.s0,n,a.loc,a.cel,a.pin⟩
def xxJ.ch (n:xNS H b):(xJt\/WF WQ)/\wz/\(∀x c,PX->RU)/\Sx:=⟨.inr n.s0,n.loc,n.cel,n.pin⟩
def Inv.landed {σ:St}{fp:υ}(I:ST)(hn:yG (xNS H b))(k:∀b o,Bc=IO->b∉fp->b∉x4G->WE=IO)
  (sl:∀b o,Bc=IO->b∉fp->∃z,xDK b o z) (th:∀b o,Bc=IO->∃o',xHd):xG vE:=by
 have nf:∀b,xEZ->wz->b∉x4G:=λ b h1 h2 z=>by
  show WX (xSr z) q q
  ·exact h2 q
  ·exact h1 q
 have tr:∀b u,xJf->∀o,Bc=IO->WE=IO:=λ b u e o g=>by
  refine Vs g xw xw
  ·show kD (hn b z).h
  ·show kD (I.stkFree b z)
 refine I.step0 (BA (hn b hb).ch) (λ b o h1 h2 h3 g _=>Vs g h3 (nf b h2 h1)) (λ b o _ _ h3 g _=>sl b o g h3) (λ _ _ _ _ n=>n) (λ b o _ g=>th b o g)
  (λ _ _ e=>e) xVx (λ b ps e=>xGf (by show CR e)) (SC m hm) (Fw a o) I.bare
 ·obtain⟨o,es,ep,ho,r⟩:=hm;show De z q (sl _ o ho λ y=>(oj y).loc rfl) (iH es ep q r)
 ·refine xy3 a o e (λ c v hc q=>?_) xPW aQ
  show Ed hc
  ·show DI z (tr c _ e v q)
  ·exact tr c _ z v q
def Inv.thrown {σ:St}(I:ST)(hx:x2P X.stack H s E e s')(hX:X.ex=[]):∃ea cls fp H',e=dN/\Wg/\(∃c,D c/\x3d ea fp c/\BkX X M6 H' ea c)/\(yG (xPC b))/\xLw cls H':=by
 obtain⟨ea,cls,fp,H',rfl,os,bare,un,hok,⟨c,dc,F,bk,bn⟩,fr,q⟩:=hx;exact⟨ea,cls,fp,H',rfl,I.call' os un hok bare (px b z z Z6),⟨c,dc,F,bk,λ b e=>I.newA xXI (by show CR hX)⟩,BA (I.new (fr b hb).1 (fr b hb).2 (by show CR hX)),q⟩
def xuv {K:Frag}:
  xwz xCD (x4 xCD P w K mg N f cd A outer s₀ H₀ E) E:=by
 intro M6 σ H s e s' I hx;obtain⟨ea,cls,fp,H',rfl,I',⟨c,dc,F,bk,bn⟩,fr,q⟩:=I.thrown hx rfl;show kZ P w _ (leaving _ dN) _ _ _;show Ej leaving (xh8 I'.ok.frames I'.stack rfl F λ h' T F' hT f3 f4 f5=>?_);have J:=I'.landed fr f3 f4 f5;refine⟨ea,cls,[ea,T],H',rfl,J.os,J.bare,J.base,J.hok,⟨c,dc,F',bk,λ b e=>(xXI).s0⟩,rK,q⟩;show WX hb hb hb
 ·subst hb;have z:=fr b F.here;show A5 z.s0 z.h
 ·rw [Ge] at hb;subst hb;refine xXb (I'.hok.fresh hT);cases z:s₀.heap.get? b with
  |none=>rfl
  |some o=>
   show De o' r (I'.base.there b o z (by simp [cxOf])) (absurd (xVT r hT) Xa)
def ut:xwz xCD X E0:=by
 intro _ _ _ _ _ _ _ h;obtain⟨_,_,_,_,_,_,_,_,_,_,_,q⟩:=h;exact q.elim
def xwM.okE {K:Frag}{st:M5}(F:Aj x qual st)(S:Uf N ps st)
  (hb:∀(M7:MW) (A:M1) (outer:w4) (s:MX) (H:Hp) (vs:NE) (Q:VK) (E:XK),xDN k (xKY jU f M7)->qr->
   let X:=(xEt xCD P w K mg N jU f M7 A outer s H E);∃t,xO9 t/\xCG) (len:xLv (∀vs H Q E,qr->iJ)):xVy xCD (k+1) sp:=by
 obtain⟨oc,od,kV,doc,pm,an,M7,ct,osl,rfl,lk,Q9⟩:=F.ex;exact xxt lk Q9 S len λ A outer s H vs Q E hr Sq=>hb M7 A outer s H vs Q E hr Sq
abbrev bmV:B5:=[xDf,.type "Exception",xKu,xKN]
def ExC (K:Frag)(C:MV):Prop:=SB (excIn K C bmV "ValueError.__new__")
def xuc {K:Frag}(c:SS C):∃bm N nm q bs hdct sn sub ab col dd k0 k1 k2 k3 k5,xKj C (x69 q C N bs bm hdct sn sub ab col dd k0 k1 k2 k3 k5 "ValueError.__new__")/\
  SL (clsIn K C) ⟨nm,bs,Ap::bm,N,q,hdct,sn,sub,ab,col,false⟩/\∀h,aX->(∃mN,h.Ns N mN/\WF (mN "__init__"))/\OwnTail h bmV bm:=by
 unfold ExC excIn at c
 split at c
 ·rename_i dd cd sl hl
  split at c
  ·rename_i C1 bm k0 k1 k2 k3 n k5 hm hs
   simp only [Kn,beq_iff_eq,My] at c;obtain⟨⟨⟨⟨⟨e1,e2⟩,hdel⟩,ht⟩,hok⟩,hni⟩:=c;subst e1 e2;obtain⟨nm,bs,mro,ns,qn,hd,sn,sub,ab,col,del⟩:=cd;dsimp only at hm hdel hok hni;subst hm hdel;have hsl:sl=#[k0,k1,k2,k3,xKH "ValueError.__new__",k5]:=by
    obtain⟨l⟩:=sl;simp only at hs;rw [hs]
   subst hsl;refine⟨bm,ns,nm,qn,bs,hd,sn,sub,ab,col,dd,k0,k1,k2,k3,k5,hl,by show CS clsIn hl,λ h X=>⟨Ax (.of_isNs (PySem.W.isNs_of_in X hok)) (PySem.W.nsMap_none_of_in X hok hni),PySem.W.tail_of_in X ht⟩⟩
  ·cases c
 ·cases c
def xb2 (C:MV)(E:XK)(te:TE):TS:=λ _ σ H=>xzX λ _ H1=>xLw Ap H1
def xpR {D:ZU MW}{X:Cx}{np Rh pos:Pos}(hx:xwz x2P X E)(hh:xuN)(hg:tR)(hm:W0=xM)(c:xU0 C)(he:yM)
  (OR:Κ (fF [e]=wo::fF [])) (hd:sS) (hD:D .none:=by trivial):jw (.Raise (some (xyn x np [e] [] Rh)) none pos) (xb2 C E te):=by
 intro M6 s σ H D I h;obtain⟨bm,N,nm,q,bs,hdct,sn,sub,ab,col,dd,k0,k1,k2,k3,k5,hl,_,hf⟩:=xuc c;obtain⟨⟨mN,hN,hni⟩,T⟩:=hf X.base I.mod.kin;refine wpAny_Raise_call_subT (nm:=nm) (q:=q) (N:=N) (bs:=bs) (hdct:=hdct) (sn:=sn) (sub:=sub) (ab:=ab) (col:=col) (dd:=dd) (k0:=k0) (k1:=k1) (k2:=k2) (k3:=k3) (k5:=k5)
  PySem.F.excBase_ValueError (mN:=mN) (T.hasType Z8) hh (by show Af OR) hni (xTt I DY hd)
 show ug OR (Calls.evalArgs_plain (Calls.spliced_cons (thn (xSA H _ I h) λ u s1 ⟨y,H1,I1,r1,q1⟩=>Calls.spliced_nil ?_))) ⟨rfl,by show qa,I1.kIn C _ hl,hN.keeps I1.bk,T.keeps I1.bk,dC ea md⟩;exact hx M6 σ H1 s1 _ _ I1 ⟨ea,_,[ea],H1,rfl,rfl,I1.bare,Un.kept md.keeps,I1.hok.kept md.keeps,iH hD (xxL.made md) Dm (λ b e=>xTJ),BA (by
  rw [Ge] at hb;subst hb;show A5 md.new (I1.hok.gone md.new)),q1⟩
def xxj (X:Cx) (pn:χ) (σ0:St) (E:XK) (D:ZU MW:=xRI):Cx:={X with
 pn:=pn
 xe:=λ e s'=>∃ea cls fp H',e=dN/\t8 {X with pn:=pn} σ0 H' s'/\(∃c,D c/\x3d ea fp c/\BkX {X with pn:=pn} [] H' ea c)/\(yG (xxJ {X with pn:=pn} [] H' b))/\xLw cls H'}
def cxHand (X:Cx) (e:MV) (G:Hp):Cx:={X with
 A:=xZV e
 H₀:=G
 xe:=jb}
def xwo (CX:YA)(X:Cx)(E:XK)(σ0:St):Prop:=∀M6 H s e s',eu σ0 H s->CX X.stack H s E e s'->X.xe e s'
def Cx.Ok.repn {X:Cx}(ok:X.Ok)(pn)(W):Cx.Ok (xzh pn W):=
 ⟨ok.mod,ok.kind,ok.glob,ok.blt,ok.above,ok.inj,ok.has,ok.cab,ok.hd,ok.frames,ok.stk,ok.exf,ok.bs,ok.bsz,ok.noex,ok.exfs,ok.funs,ok.frf⟩
def Cx.Ok.unpn {X:Cx}{pn:χ}(ok:Cx.Ok (xzh pn W)):X.Ok:=
 ⟨ok.mod,ok.kind,ok.glob,ok.blt,ok.above,ok.inj,ok.has,ok.cab,ok.hd,ok.frames,ok.stk,ok.exf,ok.bs,ok.bsz,ok.noex,ok.exfs,ok.funs,ok.frf⟩
def Inv.lift {σ:St}(I:ST)(W):t8 (xzh Yy W) σ H s:=
 ⟨I.ok.repn _ W,I.os,I.bare,I.base,I.loc,I.cell,I.free,I.freeC,λ p hp=>xyV (by show xXl),I.hok,I.len⟩
def Inv.unlift {σ:St}(I:Inv (xzh Yy W) N4 σ H s):ST:=
 ⟨I.ok.unpn,I.os,I.bare,I.base,I.loc,I.cell,I.free,I.freeC,λ p hp=>xyV xMP,I.hok,I.len⟩
theorem Inv.repn {X:Cx}{σ:St}(I:jS (xzh pn W) H s):t8 (xzh pn W') σ H s:=
 ⟨I.ok.unpn.repn _ W',I.os,I.bare,I.base,I.loc,I.cell,I.free,I.freeC,λ p hp=>xyV (by show vW hp xMP),I.hok,I.len⟩
theorem xvE.unlift (h:xvE (xzh Yy W) [] D f s'):xJs s':=by
 cases f with
 |next=>show Bj σ' H' I q h x30
 |brk=>show Bj σ' H' I q h x30
 |cont=>show Bj σ' H' I q h x30
 |ret u=>show iP v σ' H' I r q;exact⟨v,σ',H',I.unlift,r,q⟩
def xst {X:Cx}{pn:χ}{σ0:St}(hX:X.ex=[])(hD:∀c,D c->D' c:=by intros;trivial):xwo x2P (xxj X pn σ0 E D') E σ0:=by
 intro M6 H s e s' I hx;obtain⟨ea,cls,fp,H',rfl,I',F,fr,q⟩:=I.thrown hx hX;show Cc c dc F bk bn F ⟨ea,cls,fp,H',rfl,I'.repn,⟨c,hD c dc,F,bk,λ b e=>let n:=xXI;⟨n.s0,n.loc,n.cel,λ p hp=>xMV (by show vW hp xMP)⟩⟩,BA (let n:=fr b hb;⟨n.s0,n.h,n.loc,n.cel,λ p hp=>xMV (by show vW hp xMP)⟩),q⟩
def tAt (σ0:St)(t:TE):TE:=λ σ H Q=>σ=σ0/\xCq
def xuk (F:Zp)(hr:RS)(hb:lW)(hd:ll)(hx:xwo CX X E σ0)
  (I:eu σ0 H s) (r:xBd) (h:sp (vs++OS) H Q E):yN (xK8 us) (xxd X M6 σ0 Q):=by
 have r2:Vals (vs++OS) (us++ds):=xZz;have hl:xyE (Vg us ds):=by show Bg r2.length (xUY _ _ _ h)
 refine Lp (KU (xRS X.A s H (WD us) (us++ds) (vs++OS) Q E hr I.env0 (hb s us I.kIn hl) r2 h) (nA r hq));cases r with
 |error e=>exact hx M6 H s e s' I hq
 |ok fl=>
  cases fl with
  |ret u=>exact I.after hq
  |next=>show iQ
  |brk=>show iQ
  |cont=>show iQ
def xf8 {p:Pos}{pos:Pos}(F:Zp)(hr:RS)(hg:tR)(hm:W0=ik)(hk:ix X.K yv)(hb:lW)(hd:ll)(hx:xwo CX X E σ0)
  (ha:uC) (Ue:sS) (he:Κ (lV=wo::lp)) (OE:ja):
  rf x p Fv [] (x3l (xwW sp OS E t)):=by
 intro M6 s σ H Q I h;show DG rfl h h (xHE I ?_ Ue);refine x6G hk (thn xF6 (xY1 us s1 I1.kIn)) he OE;exact xuk F hr hb hd hx I1 r q
def xhp {pos:Pos}{apos:Pos}{pl:cX}(he:sU)(c:Wb)(hm:xNR m f)(F:Zp)(hr:RS)(hb:lW)(hd:ll)(hx:xwo CX X E σ0)(ha:uC)
    (OR:Κ (lV=wo::lp)) (OE:ja)
    (ht:Κ (fQ o m Fv=(do
      let ov<-ZT
      xuE
      let(f,first)<-xuG uR ov m pl
      nJ f Fv))):
    fK o m Fv (x3l (xJJ OS E ta t)):=by
  intro M6 s σ H Q I h
  show DG rfl h h (Jr (ag H _ I h u) ht)
  obtain⟨x,H1,I1,rx,a,dx,fs,ex,ea,l,q⟩:=z9
  subst ex
  obtain rfl:u=tF:=rx
  show Wp xJ4 (x6G hm.kp (thn (xRt s1 H1 _ I1 q) (xYO us s2 I2.kIn)) OR OE)
  exact xuk (vs:=ω::vs) F hr hb hd hx I2 x3L q2
def Inv.know {σ:St}(I:ST)(n:xxI X M6 b)(hb:ke (ET ob b)):jS (xL8 xVl) H s:=by
 have neF:∀c∈X.fs,RU:=λ c hc z=>by
  show xQN o ho hc;show B0 n.s0 ho ho
 have Sk:∀c o,x5C=IO->RU:=λ c o q z=>by show B0 n.s0 q q
 have neB:∀c o,X.base.get? c=IO->RU:=λ c o q=>xB9 o (xyZ c q).1
 refine⟨⟨I.ok.mod,I.ok.kind,I.ok.glob,I.ok.blt,I.ok.above,I.ok.inj,I.ok.has,I.ok.cab,?_,I.ok.frames,I.ok.stk,I.ok.exf,λ c o q=>Fh (xyZ c q).1,I.ok.bsz,I.ok.noex,I.ok.exfs,I.ok.funs,SC c hc⟩,
  I.os,I.bare,⟨λ c o q z hc hx=>?_,λ c o q z hc hx=>?_,λ c o q z hx=>?_,I.base.there,BK c xs,λ c o u q=>?_,BK c ps⟩,I.loc,I.cell,I.free,I.freeC,I.pin,I.hok,I.len⟩
 ·rcases I.ok.hd with q|⟨a,o,vs,c,e,f,d,z,k⟩
  ·show BB q
  ·have up:∀x o u,SL (X.H₀ x) Y0->SL (xVl x) Y0:=λ x o u g=>by
    by_cases hx:x=b
    ·show zc (x7w _ _ g) hx hb;rw [hx,ad];exact this
    ·show XV hx g
   show CU ⟨a,o,vs,c,e,up _ _ _ f,d,z,k.keep up⟩
 ·show WF (EO b _ c);show XV (neB c o q) (xyZ c q).2
 ·show WF (EO b _ c);show XV (neF c hc) (I.ok.frf c hc)
 ·have z':WF uY:=z;show uj (xB9 o q) z' (x7D o q z' hc hx)
 ·have z':WF uY:=z;show uj (xB9 o q) z' (xyU c q z' hc hx)
 ·have z':WF uY:=z;show uj (xB9 o q) z' (x7E o q z' hx)
 ·have q':x8 uY:=q;by_cases hc:c=b
  ·show WR hc ad q' q'
  ·show uj hc q' (xDD c q')
 ·have q':SL uY Y0:=q;by_cases hc:c=b
  ·rw [hc] at q' ⊢;rw [ad] at q';show LT hb q'
  ·show uj hc q' (xZj o u q')
 ·have q':SL uY jg:=q;by_cases hc:c=b
  ·show WR hc ad q' q'
  ·show uj hc q' (xDE c q')
def Inv.unknow {σ:St}{σ1:St}(I0:ST)(n:xxI X M6 b)(hb:ke (ET ob b))(I:xyi (xL8 xVl) σ1 H1 s1):eu σ1 H1 s1:=by
 have Sk:∀c u,UI x5C->RU:=λ c u q z=>by show B0 n.s0 q q
 have tr:∀c,RU->uY=X.H₀ c:=λ c hc=>ai hc
 refine⟨I0.ok,I.os,I.bare,⟨λ c u q z hc hx=>x7D u q (mz c (xB9 u q) z) hc hx,λ c u q z hc hx=>I.base.slot c u q (mz c (xB9 u q) z) hc hx,λ c u q z hx=>x7E u q (mz c (xB9 u q) z) hx,I.base.there,BK c xs,λ c u v q=>?_,BK c ps⟩,I.loc,I.cell,I.free,I.freeC,I.pin,I.hok,I.len⟩
 ·refine xDD c (mz c xw q);show xCx (I0.base.tups c xs q) hb
 ·by_cases hc:c=b
  ·show zc (I0.base.frzs c u v q) hc hb;refine xZj u v ?_;show uY=_;rw [hc,ad];exact this
  ·exact xZj u v (mz c hc q)
 ·show Ey (xDE c (mz c xw q)) m this (I0.base.tbls c ps q);show B0 hb this this
def Inv.ready {σ:St}(I:ST)(bk:BkX X M6 H e c):∃G,jS (xL8 G) H s/\xf G e/\∀σ1 H1 s1,xyi (xL8 G) σ1 H1 s1->eu σ1 H1 s1:=by
 obtain⟨bk,bn⟩:=bk;rcases bk with bk|⟨b,ob,us,rfl,n,f,r⟩
 ·exact⟨X.H₀,I,.inl bk,λ _ _ _ z=>z⟩
 ·exact vg (I.know (bn b rfl) f) (.inr (U8 b ob us n ad r)) (λ _ _ _ z=>I.unknow (bn b rfl) f z)
def Inv.hand {σ:St}(I:ST)(n:xNS H e)(g:wR e xEY)(h2:Aq vs 2 c/\xCr)(bk:xf X.H₀ e):
  jS (xDO e (EO e Q6)) (wJ e Q6) s:=by
 have neF:lH X.fs wg:=λ b hb z=>by
  show xQN o ho hb;show B0 n.s0 ho ho
 have Sk:∀b o,WQ=IO->wg:=λ b o q z=>by show B0 n.s0 q q
 have neB:∀b o,xDC=IO->wg:=λ b o q=>Sk b o (xyZ b q).1
 have bk':xf (EO e Q6) e:=by
  rcases bk with bk|⟨b,ob,us,e1,n1,f1,r⟩
  ·show BB bk
  ·show CU ⟨b,ob,us,e1,n1,Tq n1 f1,r⟩
 refine⟨⟨I.ok.mod,I.ok.kind,I.ok.glob,I.ok.blt,I.ok.above,I.ok.inj,I.ok.has,I.ok.cab,.inr ⟨e,_,vs,c,rfl,ad,rfl,h2,bk'⟩,I.ok.frames,I.ok.stk,I.ok.exf,λ b o q=>Fh (xyZ b q).1,I.ok.bsz,I.ok.noex,I.ok.exfs,I.ok.funs,rK⟩,
  I.os,I.bare,⟨λ b o q z hb hx=>?_,λ b o q z hb hx=>?_,λ b o q z hx=>?_,I.base.there,BK b xs,λ b o u q=>?_,BK b ps⟩,I.loc,I.cell,?_,τ x c ec,Zc,BK a o,I.len⟩
 ·show WF (EO e _ b);show XV (neB b o q) (xyZ b q).2
 ·show WF (EO e _ b);show XV (neF b hb) (I.ok.frf b hb)
 ·have z':WF (EO e Q6 b):=z;show uj x3X z' (xII q z' hb hx)
 ·have z':WF (EO e Q6 b):=z;show uj x3X z' (xyU b q z' hb hx)
 ·have z':WF (EO e Q6 b):=z;show UQ (ai x3X) z' (xKq o q z' hx)
 ·have q':x8 (EO e Q6 b):=q;by_cases hb:b=e
  ·show WR hb ad q' q'
  ·show UQ zZ q' (xDD b q')
 ·have q':SL (EO e Q6 b) Y0:=q;by_cases hb:b=e
  ·rw [hb] at q' ⊢;show UQ ad q' q'
  ·show UQ zZ q' (xRu o u q')
 ·have q':SL (EO e Q6 b) jg:=q;by_cases hb:b=e
  ·show WR hb ad q' q'
  ·show UQ zZ q' (xDE b q')
 ·show WF (wJ e _ X.env.locals);show XV (Kc n.loc) I.free
 ·show XV (n.cel x c ec) (xNn ec)
 ·show B8 a1 a2 a3 xAa ⟨a1,by show XV (xMV hp) a2,a3⟩
 ·by_cases ha:a=e
  ·show D5 ha ad q q;exact⟨g,_,g⟩
  ·rw [ai ha] at q;have nt:∀b u,xJf->wg:=λ b u r z=>by show B0 n.h r r
   exact xy3 a o q (λ b u _ r=>r) (λ b r=>by show XV (nt b _ r) r) (λ b xs r=>by show XV (nt b _ r) r)
def Inv.unhand {σ:St}{σ1:St}(I0:ST)(n:xNS H e)(I:xyi (xDO e (EO e (ET o e))) σ1 H1 s1):eu σ1 H1 s1:=by
 have Sk:∀b u,UI WQ->wg:=λ b u q z=>by show B0 n.s0 q q
 have tr:∀b,wg->(xDO e (EO e (ET o e))).H₀ b=x2d:=BA zZ
 refine⟨I0.ok,I.os,I.bare,⟨λ b u q z hb hx=>x4f u q (mz b (Sk b u q) z) hb hx,λ b u q z hb hx=>I.base.slot b u q (mz b (Sk b u q) z) hb hx,λ b u q z hx=>xKq u q (mz b (Sk b u q) z) hx,I.base.there,BK b xs,λ b u v q=>?_,BK b ps⟩,I.loc,I.cell,I.free,I.freeC,I.pin,I.hok,I.len⟩
 ·refine xDD b (mz b xw q);show xCx (I0.base.tups b xs q) n.h
 ·refine xRu u v (mz b xw q);show xCx (I0.base.frzs b u v q) n.h
 ·show Ey (xDE b (mz b xw q)) m this (I0.base.tbls b ps q);show B0 n.h this this
def Inv.nameGoes {σ:St}(I:ST)(hN:X.N.Nodup)(hi:xW1)(hl:xKL y)
    (h:∀s',eu xSL H s'->xPl):uo (do x7a y .none;x4O y pos) s:=by
  have hiσ:i<σ.length:=by show LT I.len (Fg hi)
  have YO:Ρ (xQ7 .class||(xQ7 .module&&X.env.locals !=X.env.globals)):=by show Af I.ok.kind
  have hk:xRh y .local:=hl
  show AR (wpAny_bindName (xrZ (v:=.non) I hN hi xSD rfl (SC s1 I1) (.inr hl)))
  unfold unbindBehindTheSuite
  refine wpAny_onRaise ?_
  show Ej unbindName (wpAny_point (FG ?_))
  unfold deleteName
  simp only [hk,YO]
  rw [FY Z9]
  show pB m hn hm (id I1.loc) u ru lk (hm i y .non hi (by rw [xUX]) xSD)
  have hmy:UI (m y):=by
    rcases lk with⟨_,q⟩|⟨q,_⟩
    · exact q
    · rw [hk] at q
      rcases q with q|q<;>cases q
  show AR (wpAny_nsDel_keeps hn λ h2 v Ss PV=>?_)
  rw [hmy]
  simp only [if_true,Option.isSome_some,Bool.not_true,IJ,K1]
  refine F3 (wpAny_point xW7)
  obtain⟨oL,_,_,hoL,_⟩:=id hn
  have Sk:∀b o,WQ=IO->wz:=λ b o e=>gH a8 I1.ok.above
  refine⟨I1.ok,I1.os,I1.bare,⟨λ b o e n hb hx=>vL PV b x3Y (I1.base.keep b o e n hb hx),λ b o e n hb hx=>?_,I1.base.free,λ b o e hx=>?_,I1.base.tups,I1.base.frzs,I1.base.tbls⟩,Ax Ss (λ j z v' e1 e2 e3=>?_),Fw z c,I1.free,I1.freeC,Zc,Fw b ob,by show x3i⟩
  · show yP sl e1 (I1.base.slot b o e n hb hx) sl (vL PV b x3Y e1)
  · show yP o' e1 (I1.base.there b o e hx) o' (vL PV b x3Y e1)
  · have hj:j≠i:=λ q=>by show WR q xUX e2 e2
    rw [xXg] at e2
    show Bq u' r' q (hm j z v' e1 (by show LT xXg e2) e3) (AG u' r')
    rcases q with⟨kk,e⟩|⟨kk,c,e,zz⟩
    · refine x25 kk
      have:z≠y:=λ q=>hj (xpp hN e1 (q▸hi))
      simp [this,e]
    · show CU ⟨kk,c,e,zz.sameBut PV (I1.cne z c e)⟩
  · show yP w' q (I1.cell z c e) w' (q.sameBut PV (I1.cne z c e))
  · show Cc e n ne nf d (I1.pin p hp) ⟨vL PV Ab ne e,n,ne,nf,d⟩
  · refine(I1.hok b ob e).stay (λ c w' hc q=>vL PV c xw q) xPW aQ
    rcases hc with hc|hc
    · rw [<-hc,z,I1.free] at e;cases e
    · show B0 I1.free hc hc
def xrG (i:Nat)(D:Ends):Ends:=⟨λ σ H=>D.nx xSL H,D.rt,λ σ H=>D.bk xSL H,λ σ H=>D.ct xSL H⟩
def xcf (K:Frag)(D0:MV)(i:Nat)(tb:St->XK->TS)(th:TS):TS:=λ D σ H=>
 tb σ (λ cls _ H'=>∃C,cls=Ap/\SS C/\C≠D0/\xzE K C x0R/\
  ∀e vs,WF (H' e)->th (xrG i D) (xQF (TD e)) (upd H' e (xBX e))) D σ H
def xbs {s:MX}(OR:X.stack=xNb)(XW:xRr)(hX:X.ex=[])
  (hb:xFg (xxj X Yy σ W D') tb) (I:ST) (h:tb D σ H)
  (k:∀(ea T:MV) (cls c:MW) (H':Hp) (s1:MX) (vs ts:jd) (oT:M4),D' c->xf H' ea->(∀b,c=EY->xxI X M6 b)->W cls none H'->Rt s1.heap ea [ea,T] c->jN s1->xPC ea->xPC T->SL (s1.heap.get? ea) xEY->(Aq vs 2 c/\xCr)->vs[1]?=TD T->T≠ea->SL x7b oT->oT.data=x0C->xDU ts 3->pI (handleBy dN X.env (h₀::hs)) xF2 s1):
  yN (x2X (xSV (h₀::hs) [] [] pos)) xF2:=by
 refine wpAny_Try_except (HP (hb [] s σ H D (I.lift _) h) (BK f s1) (BK e s1))
 ·have q':xJs s1:=xvE.unlift q;cases f with
  |next=>exact KA q'
  |brk=>exact q'
  |cont=>exact q'
  |ret u=>exact q'
 ·obtain⟨ea,cls,fp,H',rfl,I1,⟨c,dc,F,bk,bn⟩,fr,q⟩:=q;have I1:jN s1:=Inv.unlift I1;have fr:yG (xPC b):=BA (let n:=fr b hb;⟨n.s0,n.h,n.loc,n.cel,λ p hp=>xMV (by show xXl)⟩)
  have hf:SL X.A.frames xNb:=OR▸I1.ok.frames;refine xh8 hf (OR▸I1.stack) XW F λ h' T F' hT f3 f4 f5=>?_
  obtain⟨vs,ge,z2,⟨_,r⟩|⟨T',oT,ts,v1,neT,gT,dT,zT,r⟩⟩:=id F'
  ·cases r
  ·cases r;exact k ea T cls c H' _ vs ts oT dc bk (λ b e=>let n:=xXI;⟨n.s0,n.loc,n.cel,λ p hp=>xMV (by show xXl)⟩) q F' (I1.landed fr (by show LT OR f3) f4 f5) (fr ea F.here) (I1.new (by
    cases z:x7b with
    |none=>rfl
    |some o=>show AX (xVT z hT) Xa) (I1.hok.fresh hT) (by show CR hX)) ge z2 v1 neT gT dT zT
def M'.hand (r:xCz)(h:j≤k)(h30:j<30):M' j (A.mark v):=
 ⟨vh z z (Nat.not_le.mpr h30),by have:=r.dp;show xPX _+5<_;exact(Bu [_,_,_,_] (WJ 3 (xP3 (RA 3))) (Tv 3 Tm) x28 Tm (FE 3 h) this),by have:=r.un;show xDZ _+200<_;exact(Bu [_,_,_,_] (WJ 16 (xEG (RA 16))) (Tv 16 Tm) (xEG xMs) Tm (FE 16 h) this),r.gd⟩
structure ExI (K:Frag)(C:MV):Prop where
 ga:m9 "__getattribute__" (xKH "BaseException.__getattribute__")
 gt:xXK "__getattr__"
 hd:xRL K C
 ha:m9 "__class__" (some jE)
 hn:SL (specialIn K jE "__get__") (some xKl)
 htk:xy7 (takesIn K jE)
 hm:xzE K C xKN
 be:xzE K C xKu
def xhi {os:OsState}(L:Looks M h (isInstance Cw xKu) true)
  (hq:fP ⟨h,g,d,t,os⟩):uo (checkBuiltinCall "BaseException.__getattribute__" (WD [Cw,nv])) ⟨h,g,d,t,os⟩:=by
 have hk:SL (builtinKind "BaseException.__getattribute__") .slot:=Z8;have VS:SL (splitId "BaseException.__getattribute__") ("BaseException","__getattribute__"):=Z8;have ha:=PySem.F.args_bexc_ga Cw nv;simp only [checkBuiltinCall,hk,VS];show AR (L.at ?_)
 repeat (first|exact hq|wp_step)
def xhd {os:OsState}{K:Frag}(Y:aX)(I:xVE h ox C none)
  (L3:Looks QK h (Builtin.ObjectAttr.find Cw Ap "__class__") (.bind xKl jE)) (hm:xzE K C xKN)
  (hq:Q (.done (.ret Ap)) ⟨h,g,d,t,os⟩):xzw (Builtin.«object.__getattribute__» (WD [Cw,.str "__class__" tk])) ⟨h,g,d,t,os⟩:=by
 have L0:=I.type (M:=QK);show lG (FG (F3 vD)) (xz7 (L0.at (FG (L3.at ?_))));show qL (xMQ (Value.builtin "object.__class__") (call xKl [jE,Cw,Ap])>>= ret) _;exact xVN (Lp (PySem.W.class_get Y I hm (F3 hq)))
def xgh {K:Frag}(c:xJe)(Y:yR)(I:xVE s.heap ox C none)
  (h:Q xM xMO):qk (getAttr? Cw "__class__"):=by
 have hf:SL (findObj K C none "__class__") (.bind xKl jE):=by
  obtain⟨cd,hc,_⟩:=x3m;unfold findObj;rw [hc,Option.bind_some,c.ha,Option.bind_some];simp [c.hn,c.htk]
 obtain⟨hh,g,d,t,os⟩:=s;have L0:=I.type (M:=QK);have L1:=KI (M:=QK) Y c.ga;have L2:=KI (M:=QK) Y c.gt;have L3:=PySem.W.looks_find (M:=QK) Y I hf;have L4:=PySem.W.looks_mroIn (M:=QK) Y c.be;unfold getAttr? getAttrBy? getAttrBy;show AR (wpAny_mkText (FG (Kl (HR (FG (L0.at (FG (L1.at ?_))))))));show qL (getAttrByItsOwn _ _ _ _ _ _) _;unfold getAttrByItsOwn;show lG (show qL (typeLookup Ap "__getattr__") _ from L2.at ?_) (Kl xWS);show qL (boundAndCalled _ _ _) _;show Ej boundAndCalled (xZS (PySem.F.attr_ValueError.ga.bind _));show Wp (Lp (codeAny_call_builtin PySem.F.attr_ValueError.ga.plain PySem.F.entry_bexc_ga ?_)) (xhi (L0.andThen L4) (xhd Y I L3 c.hm ?_));show qL (handedOut Ap) _;exact F3 (F3 h)
def xhF {K:Frag}(c:xJe):KitX K Cw Ap (λ h=>xVE h (exO Ap vs) C none) where
 ty:=λ _ _ _ I=>I.type
 it:=λ M h Y _=>by
  obtain⟨cd,hc,_⟩:=x3m;show dF clsIn hc hc
  ·rename_i ho
   intro A' Q' E' s' k q;unfold isType loadHead;exact FG (wpAny_loadPart (zf (Y _ _ ho)) (F3 q))
  ·cases hc
 ne:=λ h tp dd its n sl Y htp=>by
  obtain⟨cd,hc,_⟩:=x3m;refine Bool.eq_false_iff.mpr (o6 q)
  have e:C=tp:=Value.ref.inj (Hb.mp q);subst e;show dF clsIn hc hc
  ·rename_i ho
   have z:=(Y _ _ ho).symm.trans htp;cases z
  ·cases hc
 ca:=λ Y I k=>xgh c Y I k
def xhS:MW->V
 | .ref a=>ω
 | .type n=>.ty n
 |_=>.non
def xmN:xuS X "isinstance" (λ xs H Q=>∃a C vs c b,xs=[ω,xhS c]/\(∃n,c=.ref n\/∃t,c=x2m)/\uT (xBX a)/\ExI X.K C/\SL (kitOne X.K Ap c) b/\xIU):=by
 intro M6 s σ H xs us Q I r h;obtain⟨a,C,vs,c,b,rfl,hc,hf,ci,e,q⟩:=h;show dD u v ru rv (xxk r);cases ru;have ev:v=c:=by
  obtain⟨n,hc|⟨t,hc⟩⟩:=hc
  ·show DI hc rv
  ·show DI hc rv
 subst ev;obtain⟨g,_⟩:=qK a hf;exact xDv (xhF ci) (VT g rfl trivial) e BQ λ tk=>Ef b H (I.tok tk) q
def xex {K:Frag}{g:TG}{tt:TT}{te:TE}{R:lI}(Pv:Ct xNo)(h0:Pv 0 [] xDA)(hl:∀i ys H,kJ->sL->yV)
  (hs:∀i x ys σ H,xk->sL->xI2->RN λ σ3 H3=>N9 λ c H5=>O8 c (λ y H4=>yh=gm/\EG/\xL0 n/\wc (ys++SO) xEg) (xL0 n/\xy0 (i+1) H5))
  (hd:∀ys H,xRN H->R H) (mg:∀x σ H (A B:p7),(∀σ' H',xF4->xF5)->RN A->RN B) (mtt:∀σ H (A B:CL),(∀v H',sJ->sG)->xCC A->xCC B) (mt:∀σ H (A B:VK),(∀v H',sJ->sG)->xI9->xJa):
  ∃W:uw,(xQb)/\∀i m ys σ' H',cq->
   (xIY Rz/\R H')\/(xJm Rz/\∀x H2,xJb Rz x H2->yB λ σ3 H3=>N9 λ c H5=>O8 c (λ y H4=>
    yh=gm/\EG/\Fq (m'<m/\Dl)) (Fq (m'<m/\xEy (i+1) ys H5))):=by
 refine AG (λ i m ys σ H=>m=xIA/\kJ/\xI2/\sL) ⟨xs.length,Z6,AM,Gy,h0⟩;rintro i m ys σ H ⟨rfl,hi,hn,p⟩;have q:=tM ys H hi p;by_cases M8:oQ
 ·show Ey (qG ⟨xs,xs[i],q,by simp [M8]⟩ nK) e y y;subst e;refine mg _ _ _ _ _ (λ σ3 H3 z=>mtt _ _ _ _ (τ c H5 z) z) (tK x ys σ _ xH3 p hn);cases c with
  |true=>
   show UQ AD z (mt _ _ _ _ (λ y H4 z9=>by show Bj z1 z2 z3 z4 z9 (Fb z1 z2 (WL (i+1)) aJ M8 z3 z4)) z)
  |false=>
   show UQ NZ z ⟨WL (i+1),aJ,rfl,M8,i6,CE⟩
 ·have e:xIH:=CC;show rU e ⟨xJ0,xOp H p⟩
def xgD (A)(s)(a)(t)(c)(u):xRH s (.str a t) (.str c u) (a==c):=by
 first|exact x5d t c u|exact(MeetsSeq.EqGives.str_str a t c u).at A s
universe L2
namespace L2
open PySem
def xaV {dV kV doc pm M7 ct oc:MW}
    (lk:xHX (xVn dV kV doc pm an M7 ct)) (Q9:xGV K M7) (S:xwm N ps scope)
  (len:∀vs H Q E,qr->iJ)
  (Rk:∀(A:M1) (outer:w4) (s:MX) (H:Hp) (vs:NE) (Q:VK) (E:XK),qr->
   ∃t,xFg (x4 CX P w K mg N f M7 A outer s H E) t/\xCG):
  xSP CX 0 f (xVn dV kV doc pm an M7 ct) ps sp:=by
 refine⟨len,λ A outer s H args us vs Q E hr e0 hb r Sq=>?_⟩;have hl:=len _ _ _ _ Sq;have KX:yR:=e0.mod.kin.keeps λ b o e=>(xUZ o e).1
 have lim:s.heap.NoLimit:=e0.mod.nolimit.keeps λ b o e=>(xUZ o e).1
 have O0:SW xD0 (xQX zJ\/(xVL zJ/\mr ((xYv K' []).lookup zJ))):=λ⟨n,v⟩ hy=>by
  rcases S.par n (K7 hy).1 with q|q
  ·show BB q
  ·exact qG q (Ll _ _ _ (.inl q))
 show Wp (x4x (KX _ _ lk) rfl S.co S.gen rfl (x7B Q9) (rD _ _ _ ?_)) (x4s O0 λ env he s1 x=>?_)
 subst he;show wF ⟨x4R,x6B⟩ t ht hq (Rk A outer s H vs Q E Sq);have I:t8 (x4 CX P w K mg N f M7 A outer s H E) xDR H s1:=xm1 S e0 hl r x;refine HP (ht [] s1 xDR H _ I hq) (nA fl hs) λ e s' hs=>hs
 have fin:∀{σ'} {H'} {v} {u},t8 (x4 CX P w K mg N f M7 A outer s H E) σ' H' s'->fZ->xCd->x2h P w H s Q u s':=
  λ {σ' H' v u} J rv q=>⟨v,H',J.os,J.bare,J.base,J.hok,rv,q⟩
 cases fl with
 |ret u=>
  show gq v σ' H' J rv q hs (fin J rv q)
 |next=>
  show Bj σ' H' J q hs (fin (v:=V.non) J rfl q)
 |brk=>
  show xRn q hs q
 |cont=>
  show xRn q hs q
def xwM.ok0 (F:Aj x qual st)(S:Uf N ps st)
  (Rk:∀(M7:MW) (A:M1) (outer:w4) (s:MX) (H:Hp) (vs:NE) (Q:VK) (E:XK),qr->
   let X:=(xEt Ni P w K mg N jU f M7 A outer s H E).nox;∃t,xO9 t/\xCG) (len:xLv (∀vs H Q E,qr->iJ)):xJy 0:=by
 obtain⟨oc,od,kV,doc,pm,an,M7,ct,osl,rfl,lk,Q9⟩:=F.ex;refine xaV lk Q9 S len λ A outer s H vs Q E Sq=>?_
 show B8 t h q (Rk M7 A outer s H vs Q E Sq) ⟨t,h.nox,q⟩
universe L2
namespace L2
open PySem PySem.Spec PyProof.Rows QQ
def aq (h:∀R:p7,(∀σ H,u D σ H->R σ H)->nQ {D with nx:=R} H):xh7 t u D σ H:=h (u D) xzp
def xg9 {K:Frag}(hK:X.K=K):xGE (rIxL K):=by
 show DI hK xv8
def xoN {X:Cx}{K:Frag}(hK:X.K=K):xGE (rIxT K):=by
 show DI hK xmu
inductive rNeL (K:Frag) (x:V) (y:V) (H:Hp) (Q:VK):Prop
 |mk (p q:MV) (ns ms:wd) (h0:x=Bw) (h1:y=Y5) (h2:xCP p U7) (h3:xCP q xYT) (h4:xv (! Dy ns ms)):rNeL K x y H Q
def xd9 {X:Cx}(hu:xPv):xEB (rNeL X.K):=by
 intro M6 s σ H x y v u Q I rx ry h;obtain⟨p,q,ns,ms,rfl,rfl,h1,h2,k⟩:=h;show vS rx ry;show xNh rv pl h1;show Bj N2 Vk Vv Sm x1o (PySem.W.ne_intsK pl.isList xVF Vv.isList (xqQ Vk) hu (Ef _ H I k))
def xvl (xs)(k:Nat):xAN xs lR=xs.take k:=by
 show dR;rw [HT.xqn,HT.Oh,Iy,Ki];by_cases h:xyq k
 ·rw [G2 h]
 ·rw [HY (LM h),Hc,Gh (LM h)]
def dm (xs)(k:Nat):xE6 xs (gh k)=xs.drop k:=by
 show dR;rw [HT.xqn,HT.Oh];by_cases h:xyq k
 ·rw [G2 h,<-FU,Hc]
 ·rw [HY (LM h),LH,List.drop_of_length_le (LM h),List.take_nil]
def xp0 (xs:NE){m n:Nat}(hm:xJq)(hn:xyq n):ky xs (some zU) rX=oM (xs.drop m) n m:=by
 show dR;rw [HT.Oh,HT.Oh,G2 (show xyq m from FK hm hn),G2 hn]
def xsB {a x:Str}{b c:MV}(h:xDy x [(a,b)] c):x=a/\c=b:=by
 rw [List.lookup_cons] at h;cases hx:x==a with
 |true=>show ρ hx h ⟨eq_of_beq hx,P8 h⟩
 |false=>show Μ hx h h
def none_of (s:Ι)(h:WF (H' q)):A1 q:=by
 cases e:H q with
 |none=>rfl
 |some o=>show Μ (E6 e) h h
def ak (h:RT):ZC (wJ p o):=λ b u e=>by
 show pQ h e
def xlO:∀x,xLT x->SB (eqV x x):=by
 intro x h;cases x<;>simp [flatV,eqV] at h ⊢
def xhI {X:Cx}{M6:χ}{σ:St}{H:Hp}{s:MX}(I:ST){a b:MV}{xs:NE}(ha:xF1 a xs)(hb:xF1 b xs)(fl:SB x8c){A:M1}(hu:x07):xRH s ω EY true:=by
 by_cases e:a=b
 ·show Fs (.same _)
 ·show k6 rv pl hz ha;obtain⟨N2,Vk,Vv,Sm⟩:=I.tuple hb;show AO l1;have l2:=Vk.length;refine .of_refs e ?_;have R:=SeqAt.RcAt.tuples (A:=A) (e:=xSa) (xuD a its.toArray pl) (xuD b N2.toArray Vv) hu (τ j h1 h2)
  ·have e2:SB ((List.range (min its.toArray.size N2.toArray.size)).all xSa&&its.toArray.size==N2.toArray.size):=by
    rw [F1,F1,<-l1,<-l2];simp
   show ρ e2 R R
  ·have j1:xCi:=by show vW h1 (rS [_,_,_] 2 On Θ On Os l1.symm h1)
   show pB u1 e1 r1 (xHP j xs[j] (by simp [j1])) u2 e2 r2 (x1Z j (x:=xs[j]) (by simp [j1]));have g1:xSE j=u1:=by
    show xFZ z e1 z
   have g2:xS9 j=u2:=by
    show xFZ z e2 z
   have f1:xLT xs[j]:=MM.mp fl _ (HU j1);rw [g1,g2,<-xlO _ f1];exact xtP r1 r2 f1 f1
def xrP (hb:xFg X.nox tb):jw (xSV (h₀::hs) [] [] pos) tb:=by
 intro M6 s σ H D I h;refine wpAny_Try_except (HP (hb M6 s σ H D (I.wish _) h) (BK f s1) λ e s1 q=>q.elim);have q':xJs s1:=xvE.unwish q;cases f with
 |next=>exact KA q'
 |brk=>exact q'
 |cont=>exact q'
 |ret u=>exact q'
universe L2
namespace QQ
open PySem PyProof.Rows
def xeW {items}(hq:Yu)
  (hit:xYo l i) (hl:xYI l) (hx:WF items[i]?)
  (hE:∀h' e,xPO->(∃o,h'.get? e=IO/\o.cls=xQD)->E DZ vE):
  qk (Builtin.SmallTypes.nextOf jV):=by
 show aE o ho hc hd hit;obtain⟨ol,hol,_,nl,hdl⟩:=hl;show Ej Builtin.SmallTypes.nextOf (xZg Lg (x55 Lg ?_ x4Z));show nO 0;show oO ho hd;show gc (xyS l) _ _;rw [FY (show¬(SB (xyS l)) from F7)];show nO 1;show oO ho hd;show QD (xEf A8 _);show AR (KN hol hdl ?_);show xVd Gr hx (xVB (J4 ho hd Z6 ?_));have sb1:=xXV (h:=s.heap) it;refine xZY (λ a o' us e d' z'=>xZw o' (xtO ho hd Z6 e d' z') e) (λ h' e k he=>?_)
 exact hE _ e (λ b ob hb e1=>CB (xZx ob hb e1)) he
universe QQ
namespace L2
open PySem PySem.Spec PyProof.Rows QQ
def xgp {K:Frag}{a l:MV}{xs:NE}{σ0:St}{g:TG}{tt:TT}{te:TE}{R:lI}{H1:Hp}(Pv:Ct (NE->p7))(h0:Pv 0 [] σ0 xDA)(hl:∀i ys σ H,kJ->xPo H->yV)
  (hs:∀i x ys σ H,xk->xPo H->RN λ σ3 H3=>N9 λ c H5=>O8 c (λ y H4=>yh=gm/\EG/\wc (ys++SO) σ3 xEg) (xy0 (i+1) σ3 H5))
  (hd:∀ys σ H,xRN σ H->R H) (mg:∀x σ H (A B:p7),(∀σ' H',xF4->xF5)->RN A->RN B) (mtt:∀σ H (A B:CL),(∀v H',sJ->sG)->xCC A->xCC B) (mt:∀σ H (A B:VK),(∀v H',sJ->sG)->xI9->xJa):
  ∃W:uw,(xQa σ0)/\∀i m ys σ' H',cq->
   (xIY Rz/\R H')\/(xJm Rz/\∀x H2,xJb Rz x H2->yB λ σ3 H3=>N9 λ c H5=>O8 c (λ y H4=>
    yh=gm/\EG/\Fq (m'<m/\Dl)) (Fq (m'<m/\xEy (i+1) ys H5))):=by
 refine AG (λ i m ys σ H=>m=xIA/\kJ/\xPo H) ⟨xs.length,Z6,AM,h0⟩;rintro i m ys σ H ⟨rfl,hi,p⟩;have q:=tM ys σ H hi p;by_cases M8:oQ
 ·show Ey (qG ⟨xs,xs[i],q,by simp [M8]⟩ nK) e y y;subst e;refine mg _ _ _ _ _ (λ σ3 H3 z=>mtt _ _ _ _ (τ c H5 z) z) (tK x ys σ _ xH3 p);cases c with
  |true=>
   show UQ AD z (mt _ _ _ _ (λ y H4 z9=>by show B8 z1 z2 z4 z9 (Qc z1 z2 (WL (i+1)) (yL [_,_,_,_] 3 xzS xMN On Os (Zi [_,_] On On M8)) M8 z4)) z)
  |false=>
   show UQ NZ z (EE (WL (i+1)) (yL [_,_,_,_] 3 xzS xMN On Os (Zi [_,_] On On M8)) M8 z)
 ·have e:xIH:=oz (xCX hi) LE LE (Hg M8);show rU e ⟨xJ0,xOp σ H p⟩
universe L2
namespace QQ
open PySem PyProof.Rows
universe QQ
namespace L2
open PySem PySem.Spec PyProof.Rows
def xwR (lo c:Int)(n:Nat):It:=⟨λ i _=>i<n,λ i H x H'=>H'=H/\x=.int (lo+i*c),λ i _=>n≤i⟩
def xeO {K:Frag}(it)(lo c)(n):xWe w K tg (xwR lo c n) [it] it (λ i h=>xK0 h (lo+YX i*c) (AA-YX i) c) where
 mem:=Z6
 obj:=λ i h st b hb=>by
  have e:b=it:=by show lz
  show Fs (Ax st (λ v z=>by
   have z':xZh=xZ0:=z;cases z'))
 keep:=λ i h h' st k=>k it Z6 _ st
 item:=by
  intro X hP hw hK hc i M6 s σ H E I hf st hg;subst hP hw hK;obtain⟨f0,f1,f2,f3,f4,f5⟩:=fH;refine x4M (by have:i<n:=hg;omega) (dC VV sb)
  have st':xK0 h' (lo+zM*c) (AA-zM) c:=by
   have e1:lo+zM*c=lo+rT*c+c:=by rw [Sd zM (rT+1),Int.add_mul];lia
   have e2:AA-zM=AA-rT-1:=Z5;rw [e1,e2];exact VV
  have I1:xG (vj h' xEx):=xB5 (λ b o hb e=>xZX o hb e);exact Υ (xt8 st' rfl rfl Z9 ⟨.int (lo+i*c),H,I1,Ex s.toks,vf,st',BA ui.1⟩)
 done:=by
  intro X hP hw hK hc i M6 s σ H E I hf st hg;subst hP hw hK;show gq f0 f1 f2 f3 f4 f5 fH (QQ.xjp I.hq st (by have:n≤i:=hg;lia) λ h' eb=>qN (xB5 (λ b o hb e=>eb b o hb e)))
 self:=xTu h (x4P h)
inductive xkw (R:OH) (vs:NE) (H1:Hp):Prop
 |mk (i j c:Int) (n:Nat) (h0:vs=[Eh,QH,xLS]) (h1:EC 0) (h2:SB (Builtin.Range.small i j c)) (h3:x4T j c=AA) (h4:Ρ (Builtin.divisionGoesByPylong (j-i) c)) (h5:R (xwR i c n) H1):xkw R vs H1
def xco (ta:TA):TI:=λ σ H R=>xOn vs (xkw R vs H1)
def xgo {X:Cx}{tg:M3}{p pos:Pos}(hg:x03)(hm:x02)(ha:iy [a,b,c] ta)(hs:Κ (fF [a,b,c]=[Eu a,Eu b,Eu c]))(PV:Κ (fF [b,c]=[Eu b,Eu c])):
  PI X tg (xyn "range" p [a,b,c] [] pos) (xco ta):=by
 intro M6 s σ H R I h;show aL (Call_ (x0A I (IY xIG (by rw [hs,PV]) (by show Af PV)))) vs;obtain⟨i,j,c,n,e,h0,h1,h2,h3,q⟩:=q1;subst e;cases r1 with
 |cons r rr=>
  cases rr with
  |cons r' rr=>
   cases rr with
   |cons r'' rr=>
    show xBN rr r;show o4 t' r';show o4 t'' r'';show Wp (call_range_3 h0 ?_ (.inl h3)) (x4v .. h1 ?_);have I2:lu H1 {s1 with heap:=s1.heap.push (xL3 #[rj,QH t',xWD]),toks:=s1.toks}:=I1.kept λ b o e=>rR
    refine⟨xX9 (xL3 #[rj,QH t',xWD]),[xX9 (xL3 #[rj,QH t',xWD])],_,_,H1,rfl,
     I2.kept λ b o e=>rR,xeO _ i c n,?_,rK,q⟩
    ·have e1:i+sr*c=i:=Z6;have e2:AA-sr=x4T j c:=by rw [h2];lia
     show x7z _ (i+sr*c) (AA-sr) c;rw [e1,e2];exact vq
    ·have e:b=xX9 (xL3 #[rj,QH t',xWD]):=by show lz
     show Fs (I2.fpOk UV x51)
def xe7 {lo c:Int}{g:TG}{tb:TS}{D:Ends}(Pv:xO1)(h0:iV 0)
  (hs:∀i σ H,i<n->Cj->x2A (lo+i*c) H (λ σ2 H2=>tu D wc wc H2)) (hd:∀σ H,iV n->DF):
  ∃W:xO2,(∃m,xPr H)/\∀i m σ H,xPq H->
   (xK6 (xwR lo c n) H/\DF)\/((xwR lo c n).go i H/\∃N,(∀σ' H',xHm->Fq (m'<m/\xP5 (i+1) H'))/\∀x H',xLN (xwR lo c n) H x H'->xPb λ σ2 H2=>tu D N N H2):=by
 refine AG (λ i m σ H=>m=n-i/\xJp/\Cj) ⟨n,Z6,AM,h0⟩;rintro i m σ H ⟨rfl,hi,p⟩;by_cases M8:i<n
 ·show Ey (.inr ⟨M8,wc,λ σ' H' p'=>EE (n-(i+1)) aJ M8 p',nK⟩) e y y;subst e y;exact tK σ _ M8 p
 ·have e:i=n:=CC;show rU e ⟨UV,hd σ H p⟩
universe L2
namespace L2
open PySem PySem.Spec PyProof.Rows QQ
inductive rNeT1 (K:Frag) (x:V) (y:V) (H:Hp) (Q:VK):Prop
 |mk (p q:MV) (h0:x=Bw) (h1:y=Y5) (h2:((∃a b:Str,Px p [.str a]/\Px q [.str b]/\xv (!(a==b)))\/(∃a b:Bool,Px p [.bl a]/\Px q [xFM]/\xv (!(a==b))))):rNeT1 K x y H Q
def on {x:V}{us:B5}(r:ko DM):∃u,us=Zo/\Df:=by
 cases r with
 |cons r rr=>cases rr;exact Υ r
def xeu {X:Cx}(hu:X.A.units<cLine):xEB (rNeT1 X.K):=by
 intro M6 s σ H x y v u Q I rx ry h;show dD p q rfl h h;show vS rx ry;rcases h with⟨a,b,h1,h2,k⟩|⟨a,b,h1,h2,k⟩
 ·show k6 rv pl hz h1;obtain⟨N2,Vk,Vv,Sm⟩:=I.tuple h2;show pU u1 rfl t1 (on rv);show pU u2 rfl t2 (on Vk);refine L8 (e:=λ _=>a==b) (xuD p _ pl) (xuD q _ Vv) hu (τ j h1 h2) _ _ _ _ ?_
  ·have e:j=0:=by simp at h1;assumption
   show Fs (xgD _ _ a t1 b t2)
  ·refine BO (.bl (!(a==b))) I ?_ k;show xuT=xuT;congr 1;simp
 ·show k6 rv pl hz h1;obtain⟨N2,Vk,Vv,Sm⟩:=I.tuple h2;show pB u1 rfl r1 (on rv) u2 rfl r2 (on Vk);show vS r1 r2;refine L8 (e:=λ _=>a==b) (xuD p _ pl) (xuD q _ Vv) hu (τ j h1 h2) _ _ _ _ ?_
  ·have e:j=0:=by simp at h1;assumption
   subst e
   first|exact LP a b|exact LP _ _
  ·refine BO (.bl (!(a==b))) I ?_ k;show xuT=xuT;congr 1;simp
def xbt:TE:=λ _ H Q=>∀p,RT->tB (wJ p xMW)
def Inv.bigM {X:Cx}{M6:χ}{σ:St}{H:Hp}{s:MX}(I:ST):x7S:=by
 have h:x7l:=(I.ok.mod.glob.keeps I.bk).lt;exact JU Z9 h
def xhl {X:Cx}{pos:Pos}:Am (.Dict [] [] pos) xbt:=λ M6 s σ H Q I h=>
 wpAny_Dict_empty (Vj jX _ (I.laid (a:=s.heap.objs.size) (o:=xMW) (t':=s.toks) x2G UV ⟨AM,JK.mpr (Kc (Hf I.bigM)),[],.nil,Heap.DictOf.new s.heap⟩) (vZ pD))
structure MkB (K:Frag)(C:MV):Prop where
 makes:xy9 K C
 init:xzd K Ap (some xKp)
 kp:ix K Ap
def xby (C:MV):TE:=λ _ H Q=>∀x dx,A1 x->A1 dx->dx≠x->Q Cw (Tj (O9 dx x) x C [])
def xrU (M:MkB X.K C)(hg:tR)(hm:W0=xM)(Ue:sS):rf x p [] [] (xby C):=by
 intro M6 s σ H Q I h;show Wp (xHE I ?_ Ue) (x2j M.kp ?_);have I2:=Inv.made (C:=C) I;have hq:=x7A K' x5K pD x3E;refine Lp (xgj I.kIn M.makes M.init (λ self=>Looks.of_pure (PySem.W.oi_bind self)) ?_);have Y:=ML (M:=xyX) I.kIn M.makes;have e2:wH xBW K' (xKf C):=by
  have:=G1 xKg (o:=xKf C) rfl
  rwa [KM] at this
 have t1:Looks xyX xBW (typeOf xzB) Ap:=(Looks.ld e2).andThen .now;have t2:Looks xyX xBW (isInstance xzB xKN) true:=t1.andThen (Y.top.keeps λ b o e=>Qz rR);show p9 (codeAny_call_builtin PySem.W.oi_plain PySem.W.entry_oi (@PySem.W.check_slot xyX _ _ _ "object.__init__" "object" "__init__" xzB [] [] _ PySem.W.oi_kind PySem.W.oi_split t2 (PySem.W.oi_args xzB) ?_)) oi_run (F3 (And.intro rfl (Vj xzB _ I2 hq)))
universe L2
namespace L2
open PySem PyProof.Rows
theorem xek (a f):x5Q CV dP=(do
    let items<-Builtin.List.listItems (.ref a)
    Builtin.List.listUpdate (.ref a) λ _=>#[]
    let before<-seqEpoch a
    let held<-newTuple items.toList
    let keyStore<-newList []
    holding [held,keyStore] do
      rule "list.sort.key"
      for x in items do
        match<-(call (.ref f) [x]).attempt with
        | .ok k=>Builtin.List.listUpdate keyStore (·.push k)
        | .error e=>
          rule "list.sort.key-raised"
          let made<-Builtin.List.listItems keyStore
          Builtin.List.listUpdate keyStore λ _=>#[]
          letGo made.toList.reverse [e]
          Builtin.List.listUpdate (.ref a) λ _=>items;throw e
      let keys<-Builtin.List.listItems keyStore
      let kind<-if items.size<2 then pure general' else keyKind' keys
      let((),s)<-(if items.size<2 then pure () else sortRuns').run (SortSt.mk' kind (keys.zip items) #[] 7 none)
      let sorted:=(arrOf s).map (·.2)
      Builtin.List.listUpdate keyStore λ _=>#[]
      letGo ((arrOf s).map (·.1)).toList (failedOf s).toList
      let touched:=(<-seqEpoch a) !=before
      Builtin.List.listUpdate (.ref a) λ _=>sorted
      if let some e:=failedOf s then rule "list.sort.comparison-raised";throw e
      if touched then rule "list.sort.modified";raiseError "ValueError" "list modified during sort"
      ret .none):=by
  first|rfl|(fail "not by rfl")
def xd2 (a v):argsOk "list.sort" ⟨sW,[x15 v]⟩:=by unfold argsOk;kernel_rfl
def xeo (a v):argsOk "sorted" ⟨sW,[x15 v]⟩:=by unfold argsOk;kernel_rfl
def xgs (h:xG4):IntsAre (vs++[VU n]) (ns++[n]):=by
 induction h with
 |nil=>exact xVp n t
 |cons m u _ ih=>exact .cons m u ih
def xs8:∀v,(seqObj c xs n).data≠ xz1:=λ v h=>by cases h
def Inv.turn {σ:St}(I:ST)(fa:DA a):xNB (x4j g):=
 I.turned (λ b o hb e=>by show OK _ hb e) fa.1 (A4 fa) (kK fa) (YV fa) (iK fa)
universe L2
namespace L2
open PySem PyProof.Rows QQ
def Inv.adopt {σ:St}(I:ST)(fa:DA a)(rv:O7)(hz:kP)
  (ho:wR a (xKW n)):lu (E4 H a xs) s:=by
 have hn:=fa.1;refine x1b sW rK (λ b o _ _ _ e _=>e) (λ b o _ _ _ e _=>xLM e) (λ b o hb e n=>?_) (λ b o _ e=>xHy e) (Fw b ys) (λ b o u e=>?_) (λ b ps e=>Fh #[]) (λ m hm=>hm) (Fw b u) I.bare
 ·show Qe hb ⟨kK fa,A4 fa,YV fa,iK fa⟩
 ·show XV (zS (by show Nn)) n
 ·show pQ hn e
 ·show pQ hn e
 ·rw [yH hn,e];simp
 ·by_cases hb:b=a
  ·show D5 hb ad e e;exact⟨hz,its,n,rv,ho⟩
  ·show ρ zZ e (xy3 b u e (λ c v _ q=>q) (λ c q=>by show Ez q hn q) (λ c xs q=>by show Ez q hn q))
inductive PR:NK (yx MW MW) (yx Int V)
 |nil:PR [] []
 |cons {k v:MW} {n:Int} {x:V} {l:yx MW MW} {m:yx Int V}:(∃t,k=VU n)->uF->xJP->PR ((k,v)::l) ((n,x)::m)
def xbQ (h:xSv ks)(g:O7):PR pf (ks.zip xs):=by
 induction h generalizing xs its with
 |nil=>show yQ
 |cons n t _ ih=>cases g with
  |nil=>show yQ
  |cons r rs=>exact .cons (Ex t) r (ih rs)
def xaC (h:xJP):Vals (m.map (·.2)) (l.map (·.2)):=by
 induction h with
 |nil=>show yQ
 |cons _ r _ ih=>exact Qd r
def xbR (h:xJP):l.length=m.length:=by
 induction h with
 |nil=>rfl
 |cons _ _ _ ih=>exact xKK ih
def xcF (h:xJP):∀{i:Nat} {q},A7 m q->∃t v,A7 l (VU C4,v):=by
 induction h with
 |nil=>intro i q hq;cases hq
 |cons e _ _ ih=>
  intro i q hq;cases i with
  |zero=>show jj t e e hq;show Fs (kq t _)
  |succ i=>exact ih hq
def xnB (e1:ns=xYp)(h:xMi i):xLW i=ns[i]:=by
 subst e1;rw [Fy,HD] at h;simp [numAt,h]
def xm6 (hc:xuN):xuS X "max" (λ xs H Q=>∃(p:MV) (ns:wd),xs=Bf/\xJF U7/\xMi 0/\∀n∈ns,(∀m∈ns,xJq)->Zv n):=by
 intro M6 s σ H xs us Q I r h;show Zj p ns hq OZ q;show uV u rx xB8 rx;show qX rv pl;have hi:=xVF;show S8 ys hx hi.allInts.items hl (xYh x6E) (hx▸pl.isList);have e1:ns=xYp:=by
  rw [<-nums_intItems,<-hx];exact(AI x4S ns hi.numsOf).symm
 have hsz:ns.length=ys.size:=by show CR e1
 refine max_intList hc hl (FZ OZ hsz) λ v h' tk hv hk=>?_
 show o4 t (intItems_at hv);obtain⟨h1,h2⟩:=argBest_gt xLW (ys.size-1);generalize argBest (λ i j=>decide (xLW i>xLW j)) (ys.size-1)=b at*;have hb:xMi b:=(rS [_,_,_,_] 2 (A9 Y2) xMC On Os hsz.symm (Fx h1 (gu [_,_] DW LE P3 AU Os OZ (Fz hsz))));have eb:=xnB e1 hb;refine bp ns[b] (I.kept hk) ⟨t,by rw [eb]⟩ (q _ (HU hb) (SC m hm));show Vf j hj (List.getElem_of_mem hm);show xP9 (h2 j (Jc (FZ hj hsz))) (xnB e1 hj) eb
universe L2
namespace L2
open PySem PySem.Spec PyProof.Rows QQ
universe L2
namespace W16
def Pc.size:qi Pc
 | .sg _=>1
 | .cp _ z=>z
def al (S:Id) (p b:Nat):Cs
 |0=>0
 |m+1=>if YZ=m/\S[p+m]?=S[p+m-b]? then m+1 else YZ
theorem xxo (S:Id)(p b:Nat):∀m,YZ≤m
 |0=>UV
 |m+1=>by
  unfold al;have:=xxo S p b m
  split<;>lia
theorem xxv {S:Id}{p b:Nat}:∀{m:Nat},∀i<YZ,S[p+i]?=S[p+i-b]?
 |0,i,h=>by simp [al] at h
 |m+1,i,h=>by
  show dF al h h
  ·rename_i c
   by_cases e:i=m
   ·show Fs Rd
   ·exact xxv (m:=m) i (by show LT SV (Hm (HI h) e))
  ·exact xxv (m:=m) i h
theorem xsv {S:Id}{p b:Nat}:∀{m:Nat},(∀i<m,S[p+i]?=S[p+i-b]?)->YZ=m
 |0,_=>rfl
 |m+1,h=>by
  show CS al (F8 ⟨xsv λ i hi=>h i (MO 1 hi),h m (Lr _)⟩)
theorem xrz {S:Id}{p b r:Nat}(h:∀i<r,S[p+i]?=S[p+i-b]?)(hn:S[p+r]?≠S[p+r-b]?):∀m,r≤m->YZ=r
 |0,hm=>by
  show wX (r=0) (uv (By AV LE Cy LE Cy hm));rfl
 |m+1,hm=>by
  by_cases e:r=m+1
  ·show Fs (xsv h)
  ·have ih:=xrz h hn m Z5;show CS al ih
   split
   ·rename_i c
    rw [<-SV] at c;show AX Rd hn
   ·rfl
def xba {S:Id}{p b m:Nat}(h:YZ<m):S[p+YZ]?≠S[p+YZ-b]?:=by
 induction m with
 |zero=>simp [al] at h
 |succ m ih=>
  by_cases c:YZ=m/\S[p+m]?=S[p+m-b]?
  ·have e:yq b (m+1)=m+1:=by show CS al xH7
   exact U5 [_,_] xzZ (xBh LE) (xEK h)
  ·have e:yq b (m+1)=YZ:=by rw [al,uQ]
   rw [e];by_cases q:YZ=m
   ·show LT q (Re (c ⟨q,z⟩))
   ·exact ih (by have:=xxo S p b m;lia)
def lc (S:Id) (p m:Nat):Ct oK
 |0=>(0,0)
 |n+1=>if gn m n<yq (n+1) m then(n+1,yq (n+1) m) else xHF
theorem xxr (S:Id)(p m:Nat):∀n,gn m n≤m
 |0=>AM
 |n+1=>by
  unfold lc
  split
  ·exact xxo ..
  ·exact xxr S p m n
theorem xoP {S:Id}{p m k:Nat}(h:gn m k=m):∀n,xCy->xHF=x1U k
 |0,hk=>by
  show wX (k=0) (uv (By AV LE Cy LE Cy hk));rfl
 |n+1,hk=>by
  by_cases e:k=n+1
  ·subst e;rfl
  ·have ih:=xoP h n Z5;rw [lc,ih,h,FY];show AY (xxo S p (n+1) m) (Mw.mpr this)
def xin {S:Id}{p m n:Nat}(h:S[p+gn m n]?≠S[p+gn m n-(n+1)]?):x1U (n+1)=xHF:=by
 rw [lc,FY];intro c;exact h (xxv _ c)
theorem xo5 {S:Id}{p m:Nat}:∀{n:Nat},0<gn m n->AK xHF.1/\wa xHF.1/\gn m n=yq xHF.1 m
 |0,h=>by simp [lc] at h
 |n+1,h=>by
  show va lc
  split
  ·exact kq (Je AM) UV
  ·rename_i c
   rw [uQ] at h;show B8 a b e (xo5 h) ⟨a,HL b,e⟩
def most (S:Id)(p:Nat):Nat:=min 18 (Yx p)
def far (p:Nat):Nat:=min 255 p
def lcAt (S:Id)(p:Nat):oK:=lc S p Ea zg
def pcAt (S:Id)(p:Nat):Pc:=if 3≤bf then .cp xAF bf else .sg (S.getD p 0)
def Walk (S:Id):Ct (NK sE Nat)
 |p,[],q=>p=q
 |p,x::xs,q=>xCj/\x=dw/\Walk S (p+x.size) xs q
theorem xvr {S:Id}:∀{P:sE} {p q:Nat},YQ P q->RF q->YQ (P++[xHw]) (q+(xHw).size)
 | [],p,q,h,hq=>by
  cases h;exact xNg hq
 |x::P,p,q,h,hq=>⟨DJ,gv,xvr ir hq⟩
def xq1 {S:Id}{p:Nat}(h:xCj):AK xMh/\yK (p+xMh):=by
 unfold pcAt
 split
 ·rename_i c
  have:=xxr S p Ea zg;show AK bf/\yK (p+bf);unfold lcAt at c ⊢;unfold most at this c ⊢;show A5 (UG EZ AU c) (Bu [_,_,_,_,_] (A9 (xFo Os)) (xFo Tm) DD Tm this (xb rV [_,_] On Os LE Os h))
 ·show AK 1/\yK (p+1);exact x5n
theorem dj {S:Id}:∀{P:sE} {p q:Nat},YQ P q->p+P.length≤q
 | [],p,q,h=>by cases h;simp
 |x::P,p,q,h=>by
  have:=dj ir;have h1:=(xq1 DJ).1;rw [<-gv] at h1;simp;exact(Bu [_,_,_,_] x2I Eo EA Tm this h1)
def xbm {S:Id}{p b z:Nat}(hp:xCj)(h:dw=xA1 z):bO/\xS p/\xAw/\mY/\P5/\yK (p+z)/\(∀i<z,S[p+i]?=S[p+i-b]?)/\(z<18->RF (p+z)->S[p+z]?≠S[p+z-b]?):=by
 show dF pcAt h h
 ·rename_i c
  have e1:xAF=b:=by injection h
  have e2:bf=z:=by injection h
  rw [e2] at c;have g:=xo5 (S:=S) (p:=p) (m:=Ea) (n:=zg) (by show 0<bf;exact(Bu [_,_] (Zz 3) DD DW LE c (Fz e2.symm)));have l:=xxr S p Ea zg;change AK xAF/\xAF≤zg/\bf=yq xAF Ea at g;change bf≤Ea at l;rw [e1,e2] at g;rw [e2] at l;have hf:zg≤255/\zg≤p:=by unfold far;show A5 DN rV
  have hm:Ea≤18/\Ea≤Yx p/\(Ea=18\/Ea=Yx p):=by unfold most;lia
  refine⟨g.1,FK (A4 g) hf.2,FK (A4 g) hf.1,c,FK l hm.1,(Fp [_,_,_,_,_] 1 (xFo LE) (xFo Tm) P3 Tm l (xb (A4 hm) [_,_] On Os LE Os hp)),λ i hi=>xxv (m:=Ea) i (FN hi (Fz (CJ g))),SC h1 h2⟩;have:=xba (S:=S) (p:=p) (b:=b) (m:=Ea) (by rw [<-CJ g];lia);rw [<-CJ g] at this;exact this
 ·cases h
def xav {S:Id}{p s:Nat}(hp:xCj)(h:dw=P7):Aq S p s:=by
 show dF pcAt h h
 ·cases h
 ·show xPZ h
  rw [<-h];show xVq hp
universe W16
namespace BP
def val (B:Id):Nat:=xOj a b (a*256+b) 0
def xmG (B:Id):∀a,xOj a b (a*256+b) a=a*QE+zY:=by
 induction B with
 |nil=>intro a;simp [val]
 |cons b B ih=>
  intro a;have h0:val (b::B)=b*QE+zY:=by
   show xOj a b (a*256+b) (0*256+b)=_;rw [ih,KW,HG]
  show xOj a b (a*256+b) (a*256+b)=_;rw [ih,h0,F2,Iq,Ju,HQ,HM 256,Hj]
def xoI:val []=0:=rfl
def gl (b:Nat)(B:Id):val (b::B)=b*QE+zY:=by
 show xOj a b (a*256+b) (0*256+b)=_;rw [xmG,KW,HG]
def xmY (A B:Id):val (A++B)=xOq*QE+zY:=by
 show xVG A B (λ a b=>a*256+b) 0=_;rw [J5,xmG];rfl
def xsf (A:Id)(b:Nat):val (A++BH)=xOq*256+b:=by
 show xVG A BH (λ a b=>a*256+b) 0=_;show Af J5
def xw6 {B:Id}(h:xIJ):zY<QE:=by
 induction B with
 |nil=>simp [val]
 |cons b B ih=>
  rw [gl,F2,Iq];have h1:=ih λ x hx=>QC x hx
  have h2:xCg:=aw b;have h3:b*QE≤255*QE:=LO _ (HI h2);exact(B7 [_,_,_] Ψ LE (CN (pN 255)) qH (.w Tm 256) h1 h3)
def xwa (n:Nat):256^n=2^(8*n):=by rw [Nat.pow_mul]
def xqm (n:Nat):0<2^n:=jo
def xgq {B:Id}(h:xIJ)(n:Nat)(hn:yz n):val xSe=zY/256^(aC n):=by
 have e:zY=val xSe*xQc xSb+val xSb:=by rw [<-xmY,Gf]
 have hd:val xSb<xQc xSb:=xw6 (BA (h b (G8 hb)))
 rw [FU] at e hd;rw [e,HM,LU jo,LG hd,Jn]
def xns {B:Id}(h:xIJ){m n:Nat}(hmn:xJq)(hn:yz n):val xCh=zY/256^(aC n)%256^(n-m):=by
 have e:val xSe=val ((xSe).take m)*xQc xCh+val xCh:=by rw [<-xmY,Gf]
 have hl:B4 xCh (n-m):=by rw [FU,FW];omega
 have hd:val xCh<xQc xCh:=xw6 (BA (h b (G9 (G8 hb))))
 rw [hl] at e hd;rw [<-xgq h n hn,e,HM,Nat.mul_add_mod,Jv hd]
def xds {B:Id}(h:xIJ){p s:Nat}(hp:p+s≤xFk 8):
  val (xC5 ((p+s+7)/8) (p/8))/2^(8*((p+s+7)/8)-(p+s))%2^s=zY/2^(xFk 8-(p+s))%2^s:=by
 have h1:p/8≤(p+s+7)/8:=(BF 8 [_,_,_,_] (Yz (p8 Eo 7)) x2J Os xXy);have h2:yz ((p+s+7)/8):=(BF 8 [_,_,_,_] (.a Eo je) (kB (CF Eo 7)) Os (ZY hp));rw [xns h h1 h2,xwa,xwa];have ha:8*(p/8)≤p:=(yI je je jI);have hb:p+s≤8*((p+s+7)/8):=(bM (p8 P3 7) xT7 P3 Cv zK);show xuB (p/8) a ((p+s+7)/8) b;generalize B.length=n at*;show o4 c (Jz h1);show o4 y (Jz ha);obtain⟨x,hx⟩:=Jz hb;show o4 z (Jz h2);rw [HZ,HZ,hx,HZ,show 8*c=x+(s+y) by exact BC (By [_,_,_,_,_] (kx (rZ LE)) (vA (pV (xHj Be))) je xzT (Fz hx)) (By [_,_,_,_,_] (vA (pV (xHj Be))) (kx (rZ LE)) xzT je (Fz hx.symm)),show 8*(a+c+z)-(8*a+y+s)=8*z+x by exact BC (qe [_,_,_,_,_,_,_] (CD 8 yE (A9 (.a xUr xFv))) (.a (pV (.a xUr xFv)) (kx (vA yE))) (kB Tm) (Fz hx) (Dq [_,_,_,_,_] (rn (kB Be)) (kx Θ) (rn (kB Be)) (kx (.a Θ LE)) hb)) (B7 [_,_,_,_,_,_,_] (pV (.a xUr xFv)) (kx (vA yE)) (CD 8 yE (A9 (.a xUr xFv))) (kB Tm) LE (Fz hx.symm) Ω)];rw [Ji 2 x,Mc,Nat.div_div_eq_div_mul,<-Ji,Ji 2 s,Nat.mod_mul_right_mod]
structure BR (N T:Nat)(B:Id)(r k:Nat):Prop where
 tot:T=xFk 8+k
 num:N=zY*2^k+r
 low:r<2^k
 byt:xIJ
def BR.init:BR 0 0 [] 0 0:=SU rfl Z9 (jJ h h)
def BR.put {N T:Nat}{B:Id}{r k:Nat}(h:BR N T B r k){n s:Nat}(hn:n<2^s):BR (N*2^s+n) (T+s) B (r*2^s+n) (k+s):=by
 refine⟨by show LT h.tot (Hj _ _ _),?_,?_,h.byt⟩
 ·rw [h.num,Ji,Ju,HQ,Hj]
 ·have h1:r+1≤2^k:=h.low;have h2:(r+1)*2^s≤2^k*2^s:=LO _ h1;rw [Ju,Nat.one_mul] at h2;show LT Ji (xN7 hn _ h2)
def BR.move {N T:Nat}{B:Id}{r k:Nat}(h:BR N T B r (k+8)):BR N T (B++[r/2^k]) (r%2^k) k:=by
 have e:=IM r (2^k);refine⟨by rw [h.tot,FD,JQ];exact EN [_,_] (Yz xFC) (CD 8 On Os) [_,_] (CD 8 On Os) (Yz xFC),?_,xEb (xqm k),rK⟩
 ·rw [h.num,xsf,Ju,Ji];have:zY*(2^k*2^8)=zY*256*2^k:=by rw [HM (2^k),<-HQ]
  rw [this,Hj];rw [HM (r/2^k),e]
 ·show EM hb hb hb
  ·exact h.byt b hb
  ·rw [xMg];show wB h.low Ji (Nat.div_lt_of_lt_mul this)
structure xvF (N T:Nat)(R:Id):Prop where
 len:xGq ((T+7)/8)
 byt:uG
 num:xA2=N*2^(A6-T)
def BR.row0 {N T:Nat}{B:Id}{r:Nat}(h:BR N T B r 0):xvF N T B:=by
 have h1:=h.low;refine AG (by show LT h.tot (BC (BF 8 [_,_] (p8 (Zr je) 7) (QJ Ak) Os zK) (EL 8 [_,_] Ak (CF (Zr je) 7) Os LE jI))) h.byt;rw [h.num,h.tot];show wX (r=0) (by show yn);simp
def BR.row1 {N T:Nat}{B:Id}{r k:Nat}(h:BR N T B r k)(h0:0<k)(h8:k<8):xvF N T (B++[r*2^(8-k)]):=by
 refine AG (by rw [h.tot,FD,JQ];exact BC (EL 8 [_,_,_] (.a DW (p8 (Yz Tm) 7)) x2J On Os (Fx h0 zK)) (EL 8 [_,_,_] (pO Ak) (xCl (CF (Yz Tm) 7)) Os On (ZY h8))) rK
 ·show EM hb hb hb
  ·exact h.byt b hb
  ·rw [xMg];have h2:r*2^(8-k)<2^k*2^(8-k):=x4U (xqm _) h.low;rw [<-Ji] at h2;have:k+(8-k)=8:=xNl h8;show ρ this h2 h2
 ·have e:8*Vg B [r*2^(8-k)]-T=8-k:=by rw [h.tot,FD,JQ];exact BC (qe [_,_,_,_] (xCl (A9 (lK Tm))) (.a Θ (kx Y2)) Os Ω (Dq [_,_] On QI (kB LE) (kx Ψ) h8)) (Bu [_,_,_,_] (CD 8 Y2 Θ) (QJ (A9 (lK Tm))) Os LE Ω (Dq AV On QI LE QI h8))
  have e2:256=2^k*2^(8-k):=by
   rw [<-Ji];have:k+(8-k)=8:=BC (gY [_,_] DD 8 P3 8 (Dq AV On QI LE QI h8)) (BX QI DD QI P3 Ω);rw [this]
  rw [e,xsf,h.num,Ju,HQ,<-e2]
def cT:Bo->Cs
 | [],N=>N
 |p::ps,N=>NN (N*2^zO+Ab)
def tots (ps:Bo):Nat:=(ps.map (·.2)).sum
def xv5 (a b:Bo)(N:Nat):cT (a++b) N=cT b (cT a N):=by
 induction a generalizing N with
 |nil=>rfl
 |cons p a ih=>exact ih _
def aW (a b:Bo):tots (a++b)=tots a+tots b:=by simp [tots,FV,JF]
def cu (p:oK)(b:Bo):tots (p::b)=zO+tots b:=by simp [tots]
def Good (ps:Bo):Prop:=oE ps (Ab<2^zO)
def num (bs:Av):Nat:=bs.foldl (λ a b=>wV (2*a)) 0
def ww (bs:Av):∀a,bs.foldl (λ a b=>wV (2*a)) a=a*xQk+xWh:=by
 induction bs with
 |nil=>intro a;simp [num]
 |cons b bs ih=>
  intro a;have h0:num (b::bs)=b.toNat*xQk+xWh:=by
   show bs.foldl (λ a b=>wV (2*a)) (wV (2*0))=_;rw [ih,Nat.mul_zero,HG]
  show bs.foldl (λ a b=>wV (2*a)) (wV (2*a))=_;rw [ih,h0,F2,Iq,Ju,HM 2 a,HQ a 2,HM 2 xQk,Hj]
def xx5 (a b:Av):num (a++b)=num a*2^b.length+num b:=by
 show xVG a b (λ a b=>wV (2*a)) 0=_;rw [J5,ww];rfl
def xdD (a:Av)(b:Bool):num (a++BH)=wV (2*num a):=by
 show xVG a BH (λ a b=>wV (2*a)) 0=_;show Af J5
def xrX (b:Bool)(bs:Av):num (b::bs)=b.toNat*xQk+xWh:=by
 have:=xx5 BH bs;simpa [num] using this
def xvI (bs:Av):xWh<xQk:=by
 induction bs with
 |nil=>decide
 |cons b bs ih=>
  rw [xrX,F2,Iq];cases b<;>simp<;>omega
def dig (n:Nat):Ct Av
 |0=>[]
 |k+1=>Dy (n/2^k%2) 1::eJ k
def Nq (n k:Nat):B4 (eJ k) k:=by
 induction k with
 |zero=>rfl
 |succ k ih=>show(eJ k).length+1=k+1;rw [ih]
def xvh (n k:Nat):num (eJ k)=n%2^k:=by
 induction k with
 |zero=>simp [dig,num,Nat.mod_one]
 |succ k ih=>
  show num (Dy (n/2^k%2) 1::eJ k)=_;rw [xrX,Nq,ih,Iq,Nat.mod_mul];have h2:n/2^k%2<2:=tW;by_cases h:n/2^k%2=1
  ·rw [FM h,h];simp;exact EN [_,_] P3 DD [_,_] DD P3
  ·have h0:n/2^k%2=0:=Z4;rw [Ik h,h0];simp
theorem xoe:∀{A B:Id},QM A->xIM->A.length=B.length->xOq=zY->A=B
 | [],[],_,_,_,_=>rfl
 | [],_::_,_,_,h,_=>by cases h
 |_::_,[],_,_,h,_=>by cases h
 |a::A,b::B,hA,hB,hl,hv=>by
  have ZL:A.length=B.length:=by simpa using hl
  rw [gl,gl,ZL] at hv;have h1:xOq<QE:=by show Bg ZL (xw6 λ x hx=>hA x xMI)
  have h2:zY<QE:=xw6 λ x hx=>hB x xMI
  have p:0<QE:=jo;have e1:a=b:=by
   have q1:(a*QE+xOq)/QE=a:=by rw [HM,LU p,LG h1,Jn]
   have q2:(b*QE+zY)/QE=b:=by rw [HM,LU p,LG h2,Jn]
   rw [<-q1,hv,q2]
  subst e1;rw [xoe (λ x hx=>hA x xMI) (λ x hx=>hB x xMI) ZL (Nat.add_left_cancel hv)]
universe BP
namespace W13
def run (a:Nat):qi Id
 | []=>0
 |x::xs=>EK x a (xKv xs+1) 0
theorem xwd (a:Nat):∀L:Id,RC vy
 | []=>UV
 |x::xs=>by
  unfold run;have:=xwd a xs
  split<;>simp<;>assumption
theorem xti {a:Nat}:∀{L:Id} {i:Nat},i<vy->A7 L a
 | [],i,h=>by simp [run] at h
 |x::xs,0,h=>by
  show dF run h h
  ·rename_i c;simp [c]
  ·exact U5 [] DW Cy h
 |x::xs,i+1,h=>by
  show dF run h h
  ·simpa using xti (L:=xs) (i:=i) (Nat.succ_lt_succ_iff.mp h)
  ·exact Dw cW Cy h
theorem xtS {a:Nat}:∀{L:Id} {n:Nat},(∀i<n,A7 L a)->n≤vy
 | [],0,_=>AM
 | [],n+1,h=>by simpa using h 0 (Qa DW)
 |x::xs,0,_=>AM
 |x::xs,n+1,h=>by
  have h0:x=a:=by simpa using h 0 (Qa DW)
  rw [run,F8 h0];show AY (xtS (L:=xs) (n:=n) (λ i hi=>by simpa using h (i+1) (Nat.add_lt_add_right hi 1))) (HN this 1)
def xnO {a:Nat}{L:Id}{n:Nat}(h:∀i<n,A7 L a)(hn:XA L[n]? a):vy=n:=by
 have h1:=xtS h;show CM n vy h2 h2
 ·show AX (xti h2) hn
 ·exact FA h2 h1
inductive Itm where
 |one (x:Nat)
 |rep (r:Nat)
def Itm.size:qi Itm
 | .one _=>1
 | .rep r=>r
def Itm.cost:qi Itm
 | .one _=>3
 | .rep _=>9
def Itm.next (a:Nat):qi Itm
 | .one x=>x
 | .rep _=>a
def Itm.puts:Itm->Bo
 | .one x=>[(x,3)]
 | .rep r=>[(7,3),(r-3,6)]
def stAt (L:Id)(p a:Nat):Itm:=if 3≤xzA a p then .rep (xzA a p) else .one (jP p)
def Walk (L:Id):jL (qJ->lT Nat)
 |p,a,[],q,b=>p=q/\a=b
 |p,a,x::xs,q,b=>kc p/\x=T2 p a/\xWA (p+x.size) (x.next a) xs q b
theorem xvr {L:Id}:∀{P:qJ} {p a q b:Nat},xD1 L a P q b->Dc->xD1 L a (P++[T2 q b]) (q+(T2 q b).size) ((T2 q b).next b)
 | [],p,a,q,b,h,hq=>by
  show uN h (Wm hq rfl)
 |x::P,p,a,q,b,h,hq=>⟨DJ,gv,xvr ir hq⟩
def xm9 {L:Id}{p a:Nat}(h:kc p):AK (T2 p a).size/\RC (p+(T2 p a).size):=by
 unfold stAt
 split
 ·rename_i c
  show SK (xwd a xEi) FU;show AK (xzA a p)/\RC (p+xzA a p);show A5 (UG EZ AU c) (Fp [_,_,_,_,_] 3 (A9 (rZ Os)) (rZ ml) DD Tm this (xb rV [_,_] On Os LE Os h))
 ·show AK 1/\RC (p+1);exact x5n
theorem dj {L:Id}:∀{P:qJ} {p a q b:Nat},xD1 L a P q b->p+P.length≤q
 | [],p,a,q,b,h=>by show WY h;simp
 |x::P,p,a,q,b,h=>by
  have h1:=dj ir;have h2:=(xm9 (a:=a) DJ).1;rw [<-gv] at h2;simp;exact(Bu [_,_,_,_] x2I Eo EA Tm h1 h2)
def nxtS (a:Nat):qi qJ
 | []=>a
 |x::xs=>nxtS (x.next a) xs
def xny {L:Id}{p a:Nat}(hp:kc p):(∀x,T2 p a=.one x->xFA p 1=xMf++DM/\x6 p x)/\(∀r,T2 p a=.rep r->3≤r/\r≤66/\RC (p+r)/\xFA p r=xMf++xuJ r):=by
 show Ay hle (xwd a xEi) FU hle;unfold stAt
 split
 ·rename_i c
  refine Bh (λ x h=>(by cases h)) r h;show xPZ h
  have hr:r≤run a (L.drop p):=(qe [_,_,_] Dz DC Os xZE rV);refine⟨Ls c h,Cm [_,_] P3 (Rn 66) LE 66 xZE DN,LC (Gi hp) (FK hr hle),?_⟩;rw [MF];congr 1;apply Ix;intro i;rw [Mn,Kj]
  split
  ·rename_i hi
   exact xti (FN hi hr)
  ·rfl
 ·refine vV (SC x h) r h (by cases h);show xPZ h
  have e:x6 p x:=by rw [<-h];show xVq hp
  show A5 (by rw [HC,e];rfl) e
def Of (a:Nat):qJ->Id
 | []=>[]
 | .one x::P=>x::Of x P
 | .rep r::P=>xuJ r++Of a P
def xqZ:ZU Itm
 | .one x=>x≤6
 | .rep r=>3≤r/\r≤66
theorem xqt {L:Id}:∀{P:qJ} {p a q b:Nat},xD1 L a P q b->L.take q=xMf++Of a P
 | [],p,a,q,b,h=>by show WY h;simp [Of]
 |x::P,p,a,q,b,h=>by
  show Y3 hp hx hw h ih (xqt hw);have ht:=xny (a:=a) hp;rw [ih];cases x with
  |one y=>
   have h1:=(ht.1 y hx.symm).1;show xFA p 1++Of y P=xMf++y::Of y P;show CR h1
  |rep r=>
   have h1:=xSp (ht.2 r hx.symm);show xFA p r++Of a P=xMf++(xuJ r++Of a P);rw [h1,FJ]
theorem xqy {L:Id}(hL:Rv L 6):∀{P:qJ} {p a q b:Nat},xD1 L a P q b->yT P (xqZ x)
 | [],p,a,q,b,h,x,hx=>by simp at hx
 |y::P,p,a,q,b,h,x,hx=>by
  show sH hx hx
  ·have ht:=xny (a:=a) DJ;cases x with
   |one y=>exact hL _ (Hi (ht.1 y (gv).symm).2)
   |rep r=>have:=ht.2 r (gv).symm;show A5 xMX x3v
  ·exact xqy hL ir x hx
def puts (P:qJ):Bo:=P.flatMap Itm.puts
def xmZ (P Q:qJ):puts (P++Q)=puts P++puts Q:=by simp [puts]
theorem xpW:∀P:qJ,((puts P).map (·.2)).sum=xZ3 Itm.cost
 | []=>rfl
 | .one x::P=>by
  show((Itm.puts (.one x)++puts P).map (·.2)).sum=_;rw [FV,JF,xpW P];simp [Itm.puts,Itm.cost]
 | .rep r::P=>by
  show((Itm.puts (.rep r)++puts P).map (·.2)).sum=_;rw [FV,JF,xpW P];simp [Itm.puts,Itm.cost]
def xdy {P:qJ}(h:yT P (xqZ x)):∀q∈puts P,C4<2^EU:=by
 intro q hq;show Y3 x hx hq (MK.mp hq) ok (h x hx);cases x with
 |one y=>
  have:y≤6:=ok;simp [Itm.puts] at hq;subst hq;show y<2^3;exact Tn this
 |rep r=>
  obtain⟨h1,h2⟩:3≤r/\r≤66:=ok;simp [Itm.puts] at hq;show Ru hq
  ·decide
  ·show r-3<2^6;omega
universe W13
namespace W17
open BP W13
def bitsP (ps:Bo):Av:=ps.flatMap λ q=>dig C4 EU
def bX (q:oK)(ps:Bo):bitsP (q::ps)=dig C4 EU++gC:=by simp [bitsP]
def xqI (a b:Bo):bitsP (a++b)=oX a (bitsP b):=by simp [bitsP]
theorem xsD:∀ps:Bo,B4 gC Sj
 | []=>rfl
 |q::ps=>by rw [bX,FD,Nq,xsD ps,cu]
theorem xmA:∀{ps:Bo},xU1->∀N,NN N=N*2^Sj+num gC
 | [],_,N=>by simp [cT,tots,bitsP,num]
 |q::ps,h,N=>by
  have h1:C4<2^EU:=aw q;have ih:=xmA (ps:=ps) λ z hz=>QC z hz
  show NN (N*2^EU+C4)=_;rw [ih,bX,xx5,xsD,xvh,Jv h1,cu,Ji,Ju,HQ,Hj]
def xgg {ps:Bo}(h:xU1):num gC=NN 0:=by show CR (xmA h 0)
def rlF:Ct (Id->Bo)
 |0,_=>[]
 |_+1,[]=>[]
 |n+1,a::L=>(a,1+vy)::xXf
theorem xmS:∀{n m:Nat} {L:Id},kO n->kO m->xTy L=rlF m L
 |0,0,_,_,_=>rfl
 |0,m+1,[],_,_=>rfl
 |0,_+1,_::_,h,_=>by show DK
 |n+1,0,[],_,_=>rfl
 |_+1,0,_::_,_,h=>by show DK
 |n+1,m+1,[],_,_=>rfl
 |n+1,m+1,a::L,h1,h2=>by
  have PJ:kO n:=by show yn
  have T6:kO m:=by show xXk
  show(a,1+vy)::xXf=(a,1+vy)::rlF m xDj;rw [xmS (n:=n) (m:=m) (by show zw (FK Qn PJ)) (by show zw (Fp [_,_,_] 2 LE Θ LE Os T6 Qn))]
def rl (L:Id):Bo:=x8d L
def Cl:rl []=[]:=rfl
def xau (a:Nat)(L:Id):rl (a::L)=(a,1+vy)::rl xDj:=by
 show(a,1+vy)::x8d xDj=_;show Af (xmS (n:=L.length) (m:=(xDj).length) (by show zw Qn) UV)
def xg1 {T:Id}{b e a:Nat}(Ug:b<e)(heT:mn e)(T5:∀j,xS j->j<e->yO T a)(hend:XA T[e]? a):rl (T.drop b)=(a,e-b)::rl (T.drop e):=by
 have hb:xNY b:=FN Ug heT;have e1:T.drop b=a::T.drop (b+1):=by
  show SK (T5 b UV Ug) (FL hb);rw [Ig hb,Gg this]
 have e2:xKv (T.drop (b+1))=e-(b+1):=by
  refine xnO (SC i hi) ?_
  ·show LT Js (T5 _ Z5 (Ic hi))
  ·rw [Js,AI (b+1+(e-(b+1))) e (Hh Ug)];exact hend
 rw [e1,xau,e2,Ih,AI (b+1+(e-(b+1))) e (Hh Ug),show 1+(e-(b+1))=e-b by exact BC (yL [_,_,_,_] 3 xzS xMN bq Os (Zi [_,_] On On Ug)) (yL [_,_,_,_] 3 Θ (xzP xzS) Os bq (Zi [_,_] On LE Ug))]
def exp (rs:Bo):Id:=rs.flatMap λ q=>xQV C4
theorem xoB {a:Nat}:∀L:Id,L=xuJ vy++xDj
 | []=>rfl
 |x::L=>by
  by_cases h:x=a
  ·have e:xKv (x::L)=vy+1:=by rw [run,Qp]
   rw [e,Hv,List.drop_succ_cons,Jw,<-xoB L,h]
  ·have e:xKv (x::L)=0:=by rw [run,Qo]
   show Dn
theorem xoV:∀{n:Nat} {L:Id},kO n->exp (xTy L)=L
 |0,[],_=>rfl
 |0,_::_,h=>by show DK
 |n+1,[],_=>rfl
 |n+1,a::L,h=>by
  have h':kO n:=by show kY
  show ki 1 vy a++exp xXf=_;rw [xoV (by show zw (FK Qn h')),Kh,Hv,Jw,<-xoB]
def xye (L:Id):exp (rl L)=L:=xoV UV
theorem xoh:∀{n:Nat} {L:Id},∀q∈xTy L,xG1/\RC EU/\C4∈L
 |0,_,q,h=>by cases h
 |n+1,[],q,h=>by cases h
 |n+1,a::L,q,h=>by
  have hr:=xwd a L;show sH (jr q ((a,1+vy)::xXf) h) h
  ·exact⟨by show AK (1+vy);exact Gz 1 _,by show 1+vy≤(a::L).length;show LT F2 (mH LE bq hr),Gb⟩
  ·obtain⟨h1,h2,h3⟩:=xoh q h;show ρ FU h2 ⟨h1,by show LT F2 (qe [_,_,_] Dz DC Ψ h2 Qn),qM (G8 h3)⟩
def xtV {L:Id}{q:oK}(h:q∈rl L):xG1/\RC EU/\C4∈L:=xoh q h
def xhe (q:oK)(b:Bo):exp (q::b)=xQV C4++exp b:=by simp [exp]
def pR (rs:Bo):Bo:=rs.flatMap λ q=>[(EU-1,6),(C4,8)]
def xgE (a b:Bo):pR (a++b)=pR a++pR b:=by simp [pR]
def xrN (q:oK)(b:Bo):pR (q::b)=(EU-1,6)::(C4,8)::pR b:=by simp [pR]
def xuY:Bool->Id->Bo
 |false,T=>xUC s (s,8)
 |true,T=>pR pz
theorem xqF:∀{rs:Bo},(∀q∈rs,xG1)->x2Y (xUD).length
 | [],_=>UV
 |q::rs,h=>by
  have h1:=aw q;have ih:=xqF (rs:=rs) λ z hz=>QC z hz
  rw [xhe,FD,Gy,F2];exact(Bu [_,_,_] bq Θ On Θ h1 ih)
theorem xr9:∀rs:Bo,xW rs=14*rs.length
 | []=>rfl
 |q::rs=>by rw [xrN,cu,cu,xr9 rs,F2];show 6+(8+14*rs.length)=_;exact EN AV (Br 6 (xCl (yk 14))) (.m 14 On) AV (.m 14 On) (Br 6 (xCl (yk 14)))
theorem xv2:∀T:Id,tots Xy=xVH 8
 | []=>rfl
 |s::T=>by
  show tots ((s,8)::Xy)=_;rw [cu,xv2 T,F2];show 8+xVH 8=_;exact EN AV (xCl je) xUs AV xUs (xCl je)
def xoQ (u:Bool)(T:Id):tots (xuY u T)≤xVH 14:=by
 cases u with
 |false=>show LT xv2 (RE je (yk 14))
 |true=>
  show xW pz≤_;rw [xr9];show wB (xqF (rs:=pz) λ q hq=>(xtV hq).1) xye (bE this)
def xbn {rs:Bo}(h:∀q∈rs,xG1/\Zu EU/\EB C4):Good (pR rs):=by
 intro z hz;show pB q hq hz (MK.mp hz) h1 h2 h3 (h q hq);simp at hz;show Ru hz
 ·show EU-1<2^6;omega
 ·show C4<2^8;assumption
def xtD {T:Id}(hT:OT)(hb:wL T):∀q∈pz,xG1/\Zu EU/\EB C4:=λ q hq=>by
 show B8 h1 h2 h3 (xtV hq) ⟨h1,FK h2 hT,rD h3⟩
def xoE (u:Bool){T:Id}(hT:OT)(hb:wL T):Good (xuY u T):=by
 cases u with
 |false=>
  intro z hz;show B8 s hs rfl (IK.mp hz) (hb s hs)
 |true=>exact xbn (xtD hT hb)
universe W17
namespace K25
open PySem L2 QQ W17 W16
seal PE PA PS PSs PT PW PG PI
def top (i:Nat):M5:=PySem.Challenge.pw_balepress_k25_openers.main.body.getD i (.Pass ⟨0,0,0,0⟩)
abbrev xrM:M5:=top 22
abbrev xxC:M5:=top 23
abbrev cv:M5:=top 24
abbrev xuw:M5:=top 25
abbrev bY:M5:=top 26
abbrev xv6:M5:=top 29
abbrev xvb:M5:=top 30
abbrev xvp:M5:=top 73
abbrev xxy:M5:=top 74
abbrev xpM:M5:=top 75
abbrev xpV:M5:=top 76
abbrev xpL:M5:=top 77
abbrev xx4:M5:=top 82
abbrev ii:M5:=top 83
abbrev xpH:M5:=top 87
abbrev xq8:M5:=top 88
abbrev xp6:M5:=top 89
abbrev xvf:M5:=top 48
abbrev xxm:M5:=top 49
abbrev xwk:M5:=top 50
abbrev xwc:M5:=top 51
abbrev xxu:M5:=top 52
abbrev xpN:M5:=top 53
abbrev xt2:M5:=top 55
abbrev xwp:M5:=top 56
abbrev xrS:M5:=top 57
abbrev xsA:M5:=top 64
abbrev xyg:M5:=top 65
abbrev xq6:M5:=top 66
abbrev xtF:M5:=top 67
abbrev xpy:M5:=top 68
abbrev xpJ:M5:=top 85
abbrev xpm:M5:=top 86
abbrev xpF:M5:=top 90
abbrev xp8:M5:=top 91
abbrev xtG:M5:=N3 32
abbrev Do:M5:=NQ 32
abbrev xxl:M5:=nN 32
abbrev xt9:M5:=Zf 32 3
abbrev xuh:M5:=Zf 32 4
abbrev sCInit:M5:=N3 58
abbrev xt4:M5:=NQ 58
abbrev xta:M5:=nN 58
abbrev xtC:M5:=Zf 92 3
abbrev xp1:M5:=nN 96
abbrev xup:M5:=NQ 96
abbrev xpT:M5:=N3 96
abbrev xwh:M5:=top 84
abbrev xqG:M5:=N3 93
abbrev xpv:M5:=NQ 93
abbrev xpr:M5:=nN 93
abbrev xq0:M5:=N3 94
abbrev xpC:M5:=NQ 94
abbrev xpQ:M5:=nN 94
abbrev xqB:M5:=N3 95
abbrev xpn:M5:=NQ 95
abbrev xq4:M5:=nN 95
abbrev xsu:M5:=top 97
abbrev xpq:M5:=top 98
abbrev vN (n:Nat):V:=.int rX
structure Txt (K:Frag)(mg:Β):Prop where
 isi:WB "isinstance"
 bool:WB "bool"
 int:WB "int"
 list:WB "list"
 len:WB "len"
 range:WB "range"
 max:WB "max"
 min:x2v
 great:PL "GREATEST" 255
 most:PL "MOST_SIZE" 24
 signs:PL "MOST_SIGNS" 64
 ahead:PL "MOST_AHEAD" 192
 far:PL "FARTHEST" 255
 least:PL "LEAST_COPIED" 3
 mostC:PL "MOST_COPIED" 18
 sum:WB "sum"
 enum:WB "enumerate"
 sort:WB "sorted"
 bits:PL "MOST_BITS" 6
 mlen:PL "MOST_LENGTH" 12
 things:PL "MOST_THINGS" 300
 count:PL "MOST_COUNT" 1000000
 many:PL "MANY" 272
 again:PL "AGAIN" 7
 leastA:PL "LEAST_AGAIN" 3
 mostA:PL "MOST_AGAIN" 66
 first:PL "FIRST_COPY" 256
 isnumb:∃(f:MV) (fd:M0),x1G xrM/\mg "is_number"=ik/\ua Jae
structure xrF (K:Frag)(mg:Β)(x:Str)(st:M5)(ps:An)(f:MV)(fd:M0):Prop where
 F:Aj x x st
 m:si=ik
 b:de
structure Me (K:Frag)(C:MV)(x qual:Str)(st:M5)(ps:An)(f:MV)(fd:M0):Prop where
 F:Aj x qual st
 m:xI3 x f
 b:de
def xvA {X:Cx}{pos:Pos}(F:xKP Ni k f fd ps sp)(hr:RS)(M:xrF X.K X.mg x st ps f fd)(ha:uC)(hg:Κ tR)(Ue:sS)(he:Κ (lV=wo::lp))(OE:ja):rf x p Fv [] (xwW sp [] E0 t):=bv F hr hg M.m M.F.kp M.b .nil a7 ha Ue he OE
def bo {X:Cx}{pos:Pos}{pl:cX}(he:sU)(c:Wb)(M:Me X.K C m qu st ps f fd)(F:xKP Ni k f fd ps sp)(hr:RS)(ha:uC)(OR:Κ (lV=wo::lp))(OE:ja)(ht:Κ (fQ o m Fv=(do
      let ov<-ZT
      xuE
      let(f,first)<-xuG uR ov m pl
      nJ f Fv))):fK o m Fv (xJJ [] E0 ta t):=xx7 he c M.m F hr M.b .nil a7 ha OR OE ht
def bw {X:Cx}{pos:Pos}{pl:cX}(he:sU)(c:Wb)(M:Me X.K C m qu st ps f fd)(F:xKP Ni k f fd ps sp)(hr:RS)(ht:Κ (fQ o m []=(do
      let ov<-ZT
      xuE
      let(f,first)<-xuG uR ov m pl
      nJ f []))):fK o m [] (xJJ [] E0 ta iw):=xhm he c M.m F hr M.b .nil a7 ht
def xsM {X:Cx}{e:M3}{te:TE}{p pos:Pos}(hm:kH "len")(he:yM)(hg:Κ (xze "len"))(h1:Κ (fF [e]=wo::fF [])):=xvB (p:=p) (pos:=pos) (he:=h1) xmi hg hm PySem.boot_len (aa (hs:=h1) he xqT)
section
variable (K:Frag)
def xn7:mV xyN xDu false:=by
 show eG (SL (if(Value.type "int"==Value.type "bool")=true then some true else if kitMeta "bool"=true then(fastBuiltinMro "int").map (·.contains (.type "bool")) else none) false)
def xnH:OP xyN xyN:=by
 show eG (xy7 (if(Value.type "int"==Value.type "int")=true then some true else if kitMeta "int"=true then(fastBuiltinMro "int").map (·.contains (.type "int")) else none))
def xyh:OP kh kh:=by
 show eG (xy7 (if(Value.type "list"==Value.type "list")=true then some true else if kitMeta "list"=true then(fastBuiltinMro "list").map (·.contains (.type "list")) else none))
universe s
def xwK:xH8=xIk<->x=y:=by
 constructor
 ·intro h;show xPZ h
  exact ME.mp h
 ·show Zn;rfl
def xdP {S:Id}(h:RF i):(WV)[i]?=Χ S[i]:=by simp [h]
def cZ {B:Id}{i:Nat}(h:A7 (vM) y):∃b,A7 B b/\y=fb:=by
 rw [Gs] at h;cases e:B[i]? with
 |none=>show vR h h
 |some z=>show ρ e h (lM z (P8 h))
def cK {B:Id}(h:A7 B b):B.take (i+1)=xEc++BH:=by rw [HC,h];rfl
def bG (h:ux n):nL n:=gQ h
def bx (h:ux n):xKo n:=Tn h
inductive spWhole (vs:NE) (H:Hp) (Q:VK) (Nf:XK):Prop
 |mk (i lo hi:Int) (h0:vs=[Eh,x3w,xRa]) (h1:xv (qF lo i&&qF i hi)):spWhole vs H Q Nf
def xnv:Uf Jaa Jaa xxC:=Sc
inductive spNumb (vs:NE) (H:Hp) (Q:VK) (Nf:XK):Prop
 |mk (x:V) (b:Bool) (h0:vs=DM) (h1:((∃i,x=Eh)/\SB b)) (h2:xIU):spNumb vs H Q Nf
def xnY:Uf Jae Jae xrM:=Sc
def xub (F:x1G xrM)(T:Bz):xP2 0 spNumb:=by
 refine F.ok0 xnY λ M7 A outer s H vs Q E h=>?_
 intro _;show dD x b hw k h;refine XC (xAy (xBC dg Hn SZ (Qq (v:=.ty "int") T.int Kw)) (xnE (xBC dg Hn SZ (x60 (v:=.ty "bool") T.bool))));obtain⟨⟨i,rfl⟩,rfl⟩:=hw;refine⟨_,rfl,_,_,_,_,rfl,xWi,xnH K,_,rfl,Wl⟩;exact⟨_,rfl,_,_,_,_,rfl,xWi,xn7 K,_,rfl,k⟩
def xmr (F:Ζ "is_whole" xxC Jaa)(T:Bz):fV Jaa spWhole:=by
 obtain⟨fN,Ul,NF,Nm,Nb⟩:=T.isnumb;show Al xnv (λ M7 A outer s H vs Q E hr h=>?_);obtain⟨i,lo,hi,rfl,k⟩:=h;show xBO (xAy (BI (xub NF T) hr Nm NF.kp Nb Ew) (xpK xuu xuu PP SZ Ty)) (aN _ _ true rfl (Ex (Ex i)) _ rfl Wl);show Wp ⟨_,rfl,_,rfl,_,_,rfl,rfl,_,rfl,?_⟩ Za
 ·refine vc;rw [h1,Bool.true_and] at k;exact k
 ·have h2:Ρ (qF lo i):=by show yn
  rw [h2,Mt] at k;exact k
inductive spAreWhole (vs:NE) (H:Hp) (Q:VK) (Nf:XK):Prop
 |mk (a:MV) (B:Id) (lo hi:Int) (h0:vs=[ω,x3w,xRa]) (h1:XL=vv) (h2:(o8 (lo≤xc/\xc≤hi))) (h3:xM6):spAreWhole vs H Q Nf
def xsk:Uf ["thing","least","most","number"] Jaa cv:=Sc
def xx0 (F:Ζ "are_whole" cv Jaa)(W:rN)(T:Bz):xIz Jaa spAreWhole:=by
 have GW:uE fW QS Jaa spWhole:=xH9 T;show Al xsk (λ M7 A outer s H vs Q E hr h=>?_);show jx a B lo hi rfl hB hb k;show E9 (xBy (wK (xBC dg Hn SZ (Qq (v:=x0H) T.list HA))) cf (tC (rJ SZ 3 xsk.nd (xDQ (wK (il GW hr W π PP Ty)) cf)) cf)) ⟨_,rfl,_,_,_,_,rfl,.lst hB,xyh K,_,rfl,oo⟩ (xor _ a hB (rB Wo K a vM (λ i σ H2=>∃v,σ=[Bm,tG lo,tG hi,v]/\H2=H) x08 (λ i σ H2 _ z9=>by show xDP e;exact by show vU xzv) ?_ ?_))
 ·rintro i y σ H2 hi ⟨v,rfl,rfl⟩;show Vf b N8 (cZ hi);show DG h2 h3 (zP xTO) ⟨_,rfl,_,rfl,_,rfl,_,_,_,rfl,_,rfl,?_⟩;rw [FM h2,FM h3];exact xFI rfl
 ·rintro σ H2 ⟨v,rfl,rfl⟩;exact k
inductive spIsRow (vs:NE) (H:Hp) (Q:VK) (Nf:XK):Prop
 |mk (a:MV) (B:Id) (h0:vs=CV) (h1:XL=vv) (h2:xIM) (h3:xM6):spIsRow vs H Q Nf
def xoU:Uf Jae Jae xuw:=Sc
structure Rows (K:Frag)(mg:Β):Prop where
 X:Bz
 whole:xP4
 arewhole:x1E cv Jaa
 isrow:Δ "is_row" xuw Jae
def xpw (F:Ζ "is_row" xuw Jae)(Y:RQ):xP2 3 spIsRow:=by
 obtain⟨T,⟨_,_,W⟩,⟨_,_,AW⟩,_⟩:=Y;show xV tg hg T.great xoU (λ M7 A outer s H vs Q E hr h=>?_) _;show Zj a B hB hb k;refine XC (il (xx0 AW W T) hr AW SZ aj (DT 255 hg tg));exact⟨_,rfl,a,B,0,255,rfl,hB,λ b z=>by have:=zP z;show A5 pS (xO (UB 256 LE 255 this)),k⟩
inductive spNeedRow (vs:NE) (H:Hp) (Q:VK) (Nf:XK):Prop
 |mk (a:MV) (B:Id) (h0:vs=CV) (h1:XL=vv) (h2:xIM) (h3:∀l,Ξ->xNP vM):spNeedRow vs H Q Nf
def xm0:Uf Jae Jae bY:=Sc
def ok_needrow (F:Ζ "need_row" bY Jae)(Y:RQ):xP2 4 spNeedRow:=by
 show Y3 fR fdR R Y.isrow T Y.X;show Al xm0 (λ M7 A outer s H vs Q E hr h=>?_);show Zj a B hB hb k;show Wp (Tg (lB (g9 (xpw R Y) R SZ)) (f9 xWG)) ⟨_,rfl,a,B,rfl,hB,hb,_,rfl,oo⟩;exact UJ a (AN hB) k
inductive spNeedSize (vs:NE) (H:Hp) (Q:VK) (Nf:XK):Prop
 |mk (s:Nat) (h0:vs=aR) (h1:s≤24) (h2:Yv):spNeedSize vs H Q Nf
def xfs:Uf Jai Jai xv6:=Sc
def xmc (F:Ζ "need_size" xv6 Jai)(W:rN)(T:Bz):xIz Jai spNeedSize:=by
 have GW:uE fW QS Jaa spWhole:=xH9 T;show xV tg hg T.most xfs (λ M7 A outer s H vs Q E hr h=>?_) _;show Qb z rfl hz k;show Qt (lB (il GW hr W SZ aj (DT 24 hg tg))) (aN _ _ _ _ rfl _ rfl ?_);have e1:SB (qF Gl (Ε z)&&qF (Ε z) 24):=by
  rw [iF,FM (by exact MQ rfl rfl hz)];rfl
 show LT e1 xIa
inductive spOnes (vs:NE) (H:Hp) (Q:VK) (Nf:XK):Prop
 |mk (s:Nat) (h0:vs=aR) (h1:kM s) (h2:uq (2^s-1)):spOnes vs H Q Nf
def Ch:Uf Jai Jai xvb:=Sc
def xtt (F:Ζ "ones" xvb Jai):fV Jai spOnes:=by
 show Al Ch (λ M7 A outer s H vs Q E hr h=>?_);show Qb z rfl hz k;show xBO (oa (ap dQ aj SZ)) ⟨_,rfl,_,_,rfl,rfl,⟨vY,xVz 1000 hz,Z9⟩,_,_,rfl,rfl,?_⟩;have e1:E7*2^xLG z-1=Ps (2^z-1):=by
  have:=BP.xqm z;rw [Gr,Int.one_mul];have e2:Ps (2^z)=Ε 2^z:=Z6;exact jH this
 try dsimp only
 show LT e1 k
def xe1 (a b k)(h:b<2^k):(a*2^k)&&& b=0:=by
 have e1:b&&& (2^k-1)=b:=by rw [Kg,Jv h]
 have e2:(a*2^k)&&& (2^k-1)=0:=by rw [Kg,Nat.mul_mod_left]
 have e3:(a*2^k)&&& (b&&& (2^k-1))=((a*2^k)&&& (2^k-1))&&& b:=by rw [Nat.and_comm b,Nat.and_assoc]
 rw [e1,e2,Nat.zero_and] at e3;exact e3
def xp5 (k):Ps (2^k)=Ε 2^k:=Z6
def xtk (a b k:Nat)(h:b<2^k):Builtin.bitOr (Ε a*2^xLG k) eN=Ps (a*2^k+b):=by
 have e0:Ε a*2^xLG k=Ps (a*2^k):=by rw [Gr,Int.natCast_mul,xp5]
 rw [e0,PyProof.Rows.bitOr_and,Lh (Hk (_*2^_)) vY,Gr,Gr,xe1 a b k h];exact JG ((λ {a b}=>Int.neg_inj.mp) rfl)
def xvn (x k:Nat):xYE x (Ps (2^k-1))=Ps (x%2^k):=by
 rw [Lh vY Z5,Gr,Gr,Kg]
def xuq (x k:Nat):Ε x/2^xLG k=Ps (x/2^k):=by
 rw [Gr,<-xp5];rfl
def xui (x k:Nat):Ε x*2^xLG k=Ps (x*2^k):=by
 rw [Gr,Int.natCast_mul,xp5]
def xaj {B:Id}(hm:xJq)(hn:yz n):ky vM (gh m) AA=Ο xCh:=by
 show dR;rw [HT.Oh,HT.Oh,Fy,G2 hn,G2 (FK hm hn),IN,IP,List.drop_take]
inductive xsd (vs:NE) (H:Hp) (Q:VK) (Nf:XK):Prop
 |mk (a:MV) (B:Id) (p s:Nat) (h0:vs=[ω,xIj,Zx]) (h1:XL=vv) (h2:xIM) (h3:p+s≤xFk 8) (h4:s≤24) (h5:Ft (Ι->mI (BP.val B/2^(xFk 8-(p+s))%2^s))):xsd vs H Q Nf
def xhq:¬(xXR="rest"):=Z8
def xpc:¬(xXR="rest_size"):=Z8
def AC:¬(xLY="rest_size"):=Z8
def fW (d:MV) (r k:Nat):qw:=[("whole_bytes",VO),("rest",vN r),xTa (vN k)]
def xiJ (d):x6l pL (putF "rest" pL (xZe d []))=mZ 0 0:=by
 show(x6l pL (xW5 EP [("rest",xy6)]))=_;rw [xOr];show(x1J EP (gs "rest" "rest_size" (xLY,xy6) [xTa xy6]))=_;rw [xA3,FY AC];rfl
def xo0 (d)(r k r'):tH "rest" r' Wf=mZ r' k:=by
 show(xW5 EP (Tp "rest" "rest" ((xLY,vN r'):: [xTa (vN k)]) _))=_;rw [xOr,AD];rfl
def xo9 (d)(r k k'):tH "rest_size" k' Wf=mZ r k':=by
 show(x1J EP (gs "rest" "rest_size" (xLY,vN r) (Tp "rest_size" "rest_size" [(eE "rest_size",vN k')] _)))=_;rw [xA3,FY AC,AD];rfl
def xxi (d)(r k):Wf=tH "rest_size" k (tH "rest" r (xZe d [])):=by
 have h:=xiJ d;have h2:tH "rest" r (xZe d [])=[EP,("rest",vN r)]:=by
  show(xW5 EP [("rest",vN r)])=_;rw [xOr]
 rw [h2];show _=(x1J EP (gs "rest" "rest_size" (xLY,vN r) [xTa (vN k)]));rw [xA3,FY AC];rfl
def xpO (d)(r k):ZA Wf "whole_bytes"=uZ:=by
 rw [xxi,ar,xA3,ar,xOr,ar,AD]
def xrT (d)(r k):ZA Wf "rest"=Χ r:=by
 rw [xxi,ar,FY AC,ar,AD]
def xdN (d)(r k):ZA Wf "rest_size"=Χ k:=by
 rw [xxi,ar,AD]
def xdT (d)(r k){m:Str}(h1:Zs "rest_size")(h2:Zs "rest")(h3:Zs "whole_bytes"):yS Wf m:=by
 rw [xxi,ar,gi,ar,rI,ar,FY h3];rfl
def xr0 (d)(r k):xEu Wf:=by show AP 3
def Np (C:MV)(H:Hp)(p d:MV)(N T:Nat):Prop:=∃dx B r k,CI=xPg/\H d=vv/\BP.BR N T B r k/\k<8
structure xwQ (K:Frag)(mg:Β)(C:MV):Prop where
 cl:yZ
 nW:fj "whole_bytes"
 nR:fj "rest"
 nS:fj "rest_size"
inductive xkh (C:MV) (vs:NE) (H:Hp) (Q:VK) (Nf:XK):Prop
 |mk (p dx:MV) (h0:vs=Bf) (h1:CI=xBf) (h2:∀(d:MV) (H':Hp),A1 d->Np C H' p d 0 0->Fu (∀b o,E5=IO->yW->yC=IO)):xkh C vs H Q Nf
def xiq:bS xtG:=Sc
def xlG (F:x61 xtG)(T:xJQ):ya (xkh C):=by
 show AQ xiq (λ M7 A outer s H vs Q E hr h=>?_);show dD p dx hp k h;show Wp (u5 d5 (sQ xUg xUg)) (Bh AM d hd);have QO:xJN:=sF hd;show Wp ⟨_,rfl,p,C,dx,[],rfl,(by show XV QO hp),T.cl,T.nW,(by show AP 0),_,rfl,p,C,dx,_,rfl,ad,T.cl,T.nR,(by show qc),?_⟩ ⟨_,rfl,p,C,dx,_,rfl,ad,T.cl,T.nS,?_,?_⟩
 ·show xEu (xW5 EP [("rest",xy6)])
  try dsimp only
  rw [xOr];show AP 2
 refine k d _ hd ⟨dx,[],0,0,MU ad (xzi l (xSF C dx l) (xiJ d)),by rw [WI,WI,WI,ad];rfl,BP.BR.init,Z9⟩ λ b o e hb=>?_
 rw [zZ,zZ,zZ,yH hd];exact e
inductive spMove (C:MV) (vs:NE) (H:Hp) (Q:VK) (Nf:XK):Prop
 |mk (p d dx:MV) (B:Id) (r k:Nat) (h0:vs=Bf) (h1:CI=aG (mZ r (k+8))) (h2:H d=vv) (h3:x0l) (h4:k≤100) (h5:Ft (Dk=aG (mZ (r%2^k) k)->H' d=qh B [r/2^k]->Fu (∀c o,W1=IO->Γ->wx->AE=IO))):x0I vs H Q Nf
def xaX:bS xxl:=Sc
def xiu (F:Aj "move_byte" "BitRow.move_byte" xxl)(O:xPQ)(T:xJQ):zC 2 x0I:=by
 have GO:uE fO fdO Jai spOnes:=xtt O;show AQ xaX (λ M7 A outer s H vs Q E hr h=>?_);obtain⟨p,d,dx,B,r,k,rfl,hp,hd,hB,hk,q⟩:=h;have QO:xJN:=xOs hd (by show Τ);refine u5 (oa Α) (sQ (U9 Α (ap xvW Α Α)) (V7 (ap xvX Α (g9 GO O Α))))
 have e1:Ε (YX (k+8))-8=lR:=Int.sub_eq_iff_eq_add.mpr rfl;refine⟨_,rfl,p,C,dx,_,_,rfl,hp,T.cl,T.nS,di,_,_,rfl,rfl,_,rfl,p,C,dx,_,rfl,hp,T.cl,T.nS,xr0 _ _ _,?_⟩
 try dsimp only
 rw [e1,xo9];have NX:(rG H Wf) p=xPg:=ad;have hd1:(rG H Wf) d=vv:=by show LT WI hd
 show E9 ⟨_,rfl,p,C,dx,_,_,rfl,NX,T.cl,T.nW,xpO _ _ _,oI hd1,?_⟩ ⟨_,rfl,p,C,dx,_,_,rfl,NX,T.cl,T.nR,xrT _ _ _,_,rfl,p,C,dx,_,_,rfl,NX,T.cl,T.nS,di,_,_,rfl,rfl,pS,?_⟩ (Fb d _ _ rfl hd1 (xlT (by show Ai hB)) ?_)
 try dsimp only
 rw [xuq];generalize hH2:E4 (rG H Wf) d (vM++[vN (r/2^k)])=H2;have NB:H2 p=xPg:=by rw [<-hH2,ai QO];exact NX
 have hd2:H2 d=qh B [r/2^k]:=by rw [<-hH2,ad,FV];rfl
 have QY:∀c o,W1=IO->Γ->wx->yf=IO:=λ c o e n1 n2=>by rw [<-hH2,ai n2,ai n1];exact e
 refine⟨_,rfl,p,C,dx,_,_,rfl,NB,T.cl,T.nR,xrT _ _ _,_,rfl,p,C,dx,_,_,rfl,NB,T.cl,T.nS,di,k,rfl,gQ hk,_,_,rfl,rfl,?_⟩
 try dsimp only
 show Η xvn ⟨_,rfl,p,C,dx,_,rfl,NB,T.cl,T.nR,xr0 _ _ _,?_⟩
 try dsimp only
 show Η xo0 (q _ ad (by show LT WI hd2) λ c o e n1 n2=>?_)
 show XV n1 (QY c o e n1 n2)
inductive spPut (C:MV) (vs:NE) (H:Hp) (Q:VK) (Nf:XK):Prop
 |mk (p d:MV) (N T n s:Nat) (h0:vs=[Bw,Qh,Zx]) (h1:xJ3) (h2:T≤4000) (h3:s≤24) (h4:n<2^s) (h5:Ft (Np C H' p d (N*2^s+n) (T+s)->Fu (∀c o,W1=IO->Γ->wx->AE=IO))):spPut C vs H Q Nf
def xcG:Uf xSQ xSQ Do:=Sc
inductive xne (C:MV) (H:Hp) (p:MV) (d:MV) (N:Nat) (T':Nat) (n:Nat) (s:Nat) (dx:MV) (m:Nat) (σ:St) (H2:Hp):Prop
 |mk (h0:σ=[Qg,yc,Vc]) (B2:Id) (r2:Nat) (h1:H2 p=aG (mZ r2 m)) (h2:H2 d=Φ (B2.map vN)) (h3:BP.BR (N*2^s+n) (T'+s) B2 r2 m) (h4:m≤40) (h5:(∀c o,W1=IO->Γ->wx->yf=IO)):xne C H p d N T' n s dx m σ H2
def xem (F:Aj "put" "BitRow.put" Do)(S:x7n xv6 Jai fS fdS)(W:xRA fW' QS)
  (O:xPQ) (M:Me K C "move_byte" "BitRow.move_byte" xxl Jab fM fdM) (T:xJQ) (X:Bz):AH 3 xSQ (spPut C):=by
 have GO:uE fO fdO Jai spOnes:=xtt O;have GW:uE fW' QS Jaa spWhole:=xH9 X;have GS:T1 2 fS fdS Jai spNeedSize:=xmc S W X;have GM:T1 2 fM fdM Jab x0I:=xiu M.F O T;show AQ xcG (λ M7 A outer st H vs Q E hr h=>?_);obtain⟨p,d,N,T',n,s,rfl,⟨dx,B,r,k,hp,hd,br,hk8⟩,hT,hs,hn,q⟩:=h;have QO:xJN:=xOs hd (by show Τ);have NA:Bv:=UF;show E9 (u9 (g9 GS S Ty) (ac (lB (il GW NA W PP aj (mJ GO O Ty)))
  (xBw (V7 (ap xsw (ap dQ Α Ty) PP)) (V7 (E8 Α Ty)) (zX (CZ xwT Α aj) (af (aB (bw SZ T.cl M GM hr))))))) (wY _ s hs ?_) ⟨_,rfl,_,rfl,s,rfl,(xU 24 1000 hs),_,_,_,rfl,_,rfl,?_⟩;have e1:SB (qF Gl AA&&qF AA (Ps (2^s-1))):=by
  rw [FM vY,iF];rfl
 try dsimp only
 show Η e1 oo;have hr128:r<128:=FN br.low ((xA4 (HI hk8):2^k≤2^7));refine⟨_,rfl,p,C,dx,_,_,rfl,hp,T.cl,T.nR,xrT _ _ _,_,rfl,_,_,rfl,rfl,⟨vY,xVz 24 hs,Z4⟩,_,rfl,_,_,rfl,rfl,?_⟩
 try dsimp only
 show Η (xtk r n s hn) ⟨_,rfl,p,C,dx,_,rfl,hp,T.cl,T.nR,xr0 _ _ _,?_⟩
 try dsimp only
 rw [xo0];have NX:∀o,(wJ p o) p=IO:=λ _=>ad
 refine⟨_,rfl,p,C,dx,_,_,rfl,NX _,T.cl,T.nS,di,_,rfl,_,_,rfl,rfl,_,rfl,p,C,dx,_,rfl,NX _,T.cl,T.nS,xr0 _ _ _,?_⟩;have e2:lR+Ε s=Ps (k+s):=(Tz [_,_] P3 P3 [_,_] P3 P3)
 try dsimp only
 rw [e2,xo9];have br1:=br.put hn;generalize hH1:rG (rG H (mZ (r*2^s+n) k)) (mZ (r*2^s+n) (k+s))=H1;have hpA:H1 p=aG (mZ (r*2^s+n) (k+s)):=by show Bg hH1 ad
 have hdA:H1 d=vv:=by rw [<-hH1,WI,WI];exact hd
 have QY:∀c o,W1=IO->Γ->wx->xCk=IO:=λ c o e n1 _=>by rw [<-hH1,ai n1,ai n1];exact e
 refine AG (xne C H p d N T' n s dx) (aN (k+s) B _ hpA hdA br1 (Z3 [_,_] 1 On (QJ (.n 24)) P3 40 hs hk8) QY)
 rintro m σ H2 ⟨rfl,B2,r2,NB,hd2,br2,hm,oth2⟩;show Wp ⟨_,rfl,p,C,dx,_,_,rfl,NB,T.cl,T.nS,di,_,_,rfl,rfl,_,rfl,?_⟩ Za
 ·have h8:8≤m:=by show AY OQ (UG QI QI (xRf this))
  show x5 m' m' (m=m'+8) ⟨m-8,BC (BX LE xFC LE xFC Ω) (BX xFC LE xFC LE (mF QI QI h8))⟩;have Yr:kM B2.length:=by have:=br2.tot;lia
  refine⟨_,λ σ' H' h=>h,_,rfl,p,dx,_,rfl,NB,RJ,p,d,dx,B2,r2,m',rfl,NB,hd2,Yr,(gY AV (D7 8) 40 LE 100 hm),λ H3 N1 hd3 oth3=>?_⟩;exact⟨m',(RE On (D7 8)),rfl,_,_,N1,hd3,br2.move,(gY AV (D7 8) 40 LE 40 hm),λ c o e n1 n2=>oth3 c o (oth2 c o e n1 n2) n1 n2⟩
 ·have h8:m<8:=by
   have PJ:qF kT uf≠true:=h1;by_cases h:kT≤uf
   ·show Wv h PJ
   ·lia
  exact q H2 ⟨dx,B2,r2,m,NB,hd2,br2,h8⟩ oth2
inductive xk2 (C:MV) (vs:NE) (H:Hp) (Q:VK) (Nf:XK):Prop
 |mk (p d:MV) (N T:Nat) (h0:vs=Bf) (h1:xJ3) (h2:uq T):xk2 C vs H Q Nf
def Da:bS xt9:=Sc
def xg4 (F:Aj "many" "BitRow.many" xt9)(T:xJQ)(X:Bz):ya (xk2 C):=by
 show AQ Da (λ M7 A outer st H vs Q E hr h=>?_);obtain⟨p,d,N,T',rfl,⟨dx,B,r,k,hp,hd,br,hk8⟩,q⟩:=h;show E9 (XC (E8 (xBr (vJ Α)) Α)) ⟨_,rfl,p,C,dx,_,_,rfl,hp,T.cl,T.nW,xpO _ _ _,d,_,rfl,AN hd,_,_,rfl,rfl,xM2,?_⟩ ⟨_,rfl,p,C,dx,_,_,rfl,hp,T.cl,T.nS,di,_,_,rfl,rfl,?_⟩;have e:kT*yi vM+lR=Ε T':=by rw [Fy,br.tot];exact(Tz [_,_] xUq xUq [_,_] xUq xUq)
 try dsimp only
 show vU q
inductive xll (C:MV) (vs:NE) (H:Hp) (Q:VK) (Nf:XK):Prop
 |mk (p d:MV) (N T:Nat) (h0:vs=Bf) (h1:xJ3) (h2:T≤4000) (h3:tU l MV R Id Hp (Ξ->AL=qz->BP.xvF N T R->Ι->AS)):xll C vs H Q Nf
def xi1:xuH (pF "told") xuh:=Sc
def xgu (F:Aj "row" "BitRow.row" xuh)(T:xJQ)(X:Bz):ya (xll C):=by
 show AQ xi1 (λ M7 A outer st H vs Q E hr h=>?_);obtain⟨p,d,N,T',rfl,⟨dx,B,r,k,hp,hd,br,hk8⟩,hT,q⟩:=h;show yy (Fc 1 xi1.nd (xS8 HA xMt) (zF (oU Α aj) (U9 PP (ap dQ Α (xo aj Α)))) PP) ⟨_,rfl,p,C,dx,_,_,rfl,hp,T.cl,T.nW,xpO _ _ _,d,_,rfl,AN hd,SC l hl⟩;have npl:p≠l:=sF hl;have NX:(kU vM) p=xPg:=by show XV npl hp
 show Wp ⟨_,rfl,p,C,dx,_,_,rfl,NX,T.cl,T.nS,di,_,_,rfl,rfl,_,rfl,?_⟩ Za
 ·have h0:0<k:=by show AY OQ (UG DW DW PO)
  have hr128:r<128:=FN br.low ((xA4 (HI hk8):2^k≤2^7));have Yr:x0l:=by have:=br.tot;lia
  have e1:kT-lR=Ps (8-k):=jH (Gi hk8);refine⟨_,rfl,oI ad,_,rfl,p,C,dx,_,_,rfl,NX,T.cl,T.nR,xrT _ _ _,_,rfl,p,C,dx,_,_,rfl,NX,T.cl,T.nS,di,_,_,rfl,rfl,?_⟩
  try dsimp only
  show Η e1 ⟨_,_,rfl,rfl,⟨vY,xVz 8 Qn,Z4⟩,l,_,_,rfl,rfl,ad,xlT (by show Ai Yr),_,rfl,?_⟩
  try dsimp only
  show Η xui (q l (B++[r*2^(8-k)]) _ hl (by rw [ad,FV];rfl) (br.row1 h0 hk8) xXA)
  rw [yH hl,yH hl];exact e
 ·have h0:k=0:=by
   have PJ:vB Gl lR≠true:=h1;by_cases h:Gl<lR
   ·show Wv h PJ
   ·lia
  subst h0;show yy rfl (q l B _ hl ad br.row0 xXA)
  show pQ hl e
def xrg:¬(x0o="taken"):=Z8
def fR (d:MV) (t:Nat):qw:=[("held",VO),("taken",vN t)]
def xxn (d)(t):tH "taken" t (pj "held" d [])=dJ:=by
 show(gs "held" "taken" (Y9 x0o d) [("taken",vN t)])=_;show Af (FY xrg)
def xbr (d)(t t'):tH "taken" t' dJ=fR d t':=by
 show(gs "held" "taken" (Y9 x0o d) (Tp "taken" "taken" [(eE "taken",vN t')] _))=_;rw [FY xrg,AD];rfl
def xp7 (d)(t):ZA dJ "held"=uZ:=by
 rw [<-xxn,ar,FY xrg,ar,AD]
def xwn (d)(t):ZA dJ "taken"=Χ t:=by
 rw [<-xxn,ar,AD]
def xd8 (d)(t){m:Str}(h1:Zs "taken")(h2:Zs "held"):yS dJ m:=by
 rw [<-xxn,ar,gi,ar,rI];rfl
def xbU (d)(t):xEu dJ:=by show AP 2
universe K25
namespace K25
open PySem L2 QQ W17 W16 BP
seal PE PA PS PSs PT PW PG PI
def xxY (H:Hp)(x:V)(W:Id):Prop:=(qj x/\W=[])\/∃a,x=ω/\XL=mD
def xxY.same {H H':Hp}{x:V}(h:RI)(s:Ι):xxY H' x W:=by
 rcases h with h|⟨a,e,h⟩
 ·show BB h
 ·show CU ⟨a,e,E6 h⟩
inductive Q2 (H:Hp):NK υ Bo
 |nil:Q2 H [] []
 |cons {t:MV} {q:oK} {ts:υ} {ps:Bo}:Ob [vN C4,vN EU]->xJz->Q2 H (t::ts) (q::ps)
def Q2.keep (h:xJz)(s:∀c xs,x8 W1->x8 AE):Q2 H' ts ps:=by
 induction h with
 |nil=>show yQ
 |cons a _ ih=>exact Qd (E6 a)
def Q2.mono (h:xJz)(s:Ι):Q2 H' ts ps:=h.keep λ c xs e=>E6 e
def Q2.app (h:xJz)(g:Q2 H us qs):Q2 H (ts++us) (ps++qs):=by
 induction h with
 |nil=>exact g
 |cons a _ ih=>exact Qd a
def Q2.len (h:xJz):xyE ts.length:=by
 induction h with
 |nil=>rfl
 |cons a _ ih=>rw [F2,F2,ih]
theorem Q2.at (h:xJz):∀{i:Nat} {t},A7 ts t->∃q,A7 ps q/\Ob [vN C4,vN EU]:=by
 induction h with
 |nil=>intro i t h;show DK
 |cons a _ ih=>
  intro i t h;cases i with
  |zero=>show DK;show DI h (Υ a)
  |succ i=>show vW h (ih h)
def xrR {ts:υ}{i:Nat}(h:A7 (Fl) y):∃t,A7 ts t/\y=wG:=by
 rw [Gs] at h;cases e:ts[i]? with
 |none=>show vR h h
 |some z=>show ρ e h (lM z (P8 h))
def xwY {α:Type}{B:DU}{b:α}(h:A7 B b):B.take (i+1)=xEc++BH:=by rw [HC,h];rfl
def Np.keep (h:xJ3)(s:∀c o,W1=IO->(c=p\/c=d)->AE=IO):Np C H' p d N T:=by
 show dS dx B r k h1 h2 h3;exact⟨dx,B,r,k,E6 h1 Dm,E6 h2 xj,h3⟩
def Np.sm (h:xJ3):(∃o,CI=IO)/\∃o,H d=IO:=by
 show dS dx B r k h1 h2 h3;show A5 (Bt h1) (Bt h2)
def Np.ob (h:xJ3):∃dx r k,CI=xPg:=by
 show dS dx B r k h1 h2 h3;exact⟨dx,r,k,h1⟩
def xqL {H:Hp}(h:∃o,XL=IO)(n:Ee):a≠b:=Re (by
 show xQh o h;show B0 n h h)
structure Bts (K:Frag)(mg:Β)(C:MV):Prop where
 R:RQ
 T:xJQ
 m:mg "BitRow"=xM
 needsize:x1F xv6 Jai
 ones:Δ "ones" xvb Jai
 init:∃f fd,x61 xtG/\xF3/\yD
 put:∃f fd,qW C "put" "BitRow.put" Do xSQ
 move:BL "move_byte" "BitRow.move_byte" xxl
 many:BL "many" "BitRow.many" xt9
 row:BL "row" "BitRow.row" xuh
structure FnD (K:Frag)(mg:Β)(x:Str)(st:M5)(ps:An)(f:MV)(fd:M0):Prop where
 F:∃dV,xCv x f fd
 m:si=ik
 b:de
 d:xEP xMY
theorem FnD.kp (F:xN4 x st ps f fd):RO:=F.F.elim λ _ z=>z.kp
def itm:Pc->NE
 | .sg s=>[x1A,Zx]
 | .cp b z=>[gE,fb,vN z]
def xxF (H:Hp)(ts:υ)(P:sE):Prop:=ts.length=P.length/\∀(i:Nat) a x,A7 ts a->vw P->Fm XL (itm x)
def xdm (H:Hp)(l:MV)(P:sE):Prop:=∃ts,sV=ay/\xBR H P
def xxF.keep (h:xBR H P)(k:∀a xs,x8 XL->x8 (H' a)):xBR H' P:=⟨DJ,λ i a x h1 h2=>zf (fG i a x h1 h2)⟩
def xxF.snoc {P:sE}(h:xBR H P){t:MV}{x:Pc}(e:Ob (itm x)):xxF H (ts++[t]) (P++DM):=by
 refine⟨by simp [DJ],λ i a y h1 h2=>?_⟩;rw [List.getElem?_append] at h1 h2;rw [<-DJ] at h2
 split at h1
 ·rename_i c
  show ρ xH7 h2 (fG i a y h1 h2)
 ·rename_i c
  rw [uQ] at h2;have e0:i-ts.length=0:=by
   have:=xW0;simp at this
   assumption
  rw [e0] at h1 h2;show vS h1 h2;exact e
def xt6:x5D "copy"≠x5D "sign":=rh (V.str.inj h) Z8
def cpy (B:Id) (b:Nat):Ct Id
 |0=>B
 |n+1=>xGn++[(xGn).getD (xLH B n-b) 0]
theorem xvs (B)(b):∀n,B4 xGn (a9 n)
 |0=>rfl
 |n+1=>by
  rw [cpy,FD,xvs B b n];simp;exact EN [_,_] qH EA [_,_] EA qH
theorem xl6 {S:Id}(N8:bO)(hb:xS p)(hz:yK (p+z))(h:∀i<z,S[p+i]?=S[p+i-b]?):∀n,n≤z->cpy xzj b n=S.take (p+n)
 |0,_=>rfl
 |n+1,hn=>by
  have hl:B4 (S.take (p+n)) (p+n):=by rw [FW];lia
  rw [cpy,xl6 N8 hb hz h n (Jj hn),hl];have h1:RF (p+n):=xN7 hn _ hz;rw [show p+(n+1)=p+n+1 by exact EN [_,_] EA qH [_,_] qH EA,HC,FL h1];congr 1;show Ay h2 (h n sP) (FL h1) h2;rw [Gu,Mn,xGD,<-h2];rfl
inductive xj6 (vs:NE) (H:Hp) (Q:VK) (Nf:XK):Prop
 |mk (x:V) (m:Nat) (W:Id) (h0:vs=[x,D1]) (h1:RI) (h2:xCn) (h3:xQt m) (h4:∀l H',Ι->Ξ->AL=mD->AS):xj6 vs H Q Nf
def xiV:Uf ["before","most","window"] xyO xvp:=Sc
def xmP {P:MY}(F:Ζ "need_window" xvp xyO)(N:xPU)(Y:RQ):AH 5 xyO xj6:=by
 have T:=Y.X;show Al xiV (λ M7 A outer s H vs Q E hr h=>?_);show jx x m W rfl hx hb hl k;refine xBy (CZ xuy SZ cz) d5 (Fc 2 xiV.nd (g9 (xK7 Y) N SZ) (QF cL xTZ PP) Ty)
 rcases hx with⟨rfl,rfl⟩|⟨b,rfl,hB⟩
 ·exact Wq _ _ (λ _=>jA (λ l nl=>sN P6 nl ad)) (rh QN h)
 ·show E9 (Wq _ _ (rh DQ (by show Τ)) EH) (ZW b W hB hb (SC l hn)) ⟨_,rfl,l,_,rfl,AN ad,_,rfl,_,_,rfl,rfl,_,rfl,xAM EH⟩
  ·show wB DQ Fy (U5 [_,_] EA DD (Fx hl PO))
  ·exact Υ (sN (ak hn) hn ad)
inductive xjr (vs:NE) (H:Hp) (Q:VK) (Nf:XK):Prop
 |mk (x:V) (W:Id) (h0:vs=DM) (h1:RI) (h2:xCn) (h3:Rx) (h4:∀l H',Ι->Ξ->AL=mD->AS):xjr vs H Q Nf
def xeA:Uf mw mw xx4:=Sc
def xmk {P:MY}{f fW fN:MV}{fd QS Ul:M0}(F:Ζ "need_ahead" xx4 mw)(Wi:x6p xvp xyO fW QS)(N:xPU)(Y:RQ):AH 6 mw xjr:=by
 show xV tg hg Y.X.ahead xeA (λ M7 A outer s H vs Q E hr h=>?_) _;show dS x W rfl hx hb hl k;refine XC (UC (xmP Wi N Y) Wi SZ (DT 192 hg tg));exact⟨_,rfl,x,192,W,rfl,hx,hb,hl,k⟩
inductive xjt (vs:NE) (H:Hp) (Q:VK) (Nf:XK):Prop
 |mk (a:MV) (x:V) (T W:Id) (h0:vs=[ω,x]) (h1:XL=EX) (h2:xIL) (h3:mn 1) (h4:OT) (h5:RI) (h6:xCn) (h7:Rx) (h8:∀l H',Ι->Ξ->AL=EX->AS):xjt vs H Q Nf
def xjq:Uf ["text","before","signs"] Jaf ii:=Sc
def xsF {P:MY}{f fA fW fN:MV}{fd fdA QS Ul:M0}(F:Ζ "need_signs" ii Jaf)(Ah:Dv "need_ahead" xx4 mw fA fdA)(Wi:x6p xvp xyO fW QS)(N:xPU)(Y:RQ):AH 7 Jaf xjt:=by
 have T:=Y.X;show xV tg hg T.signs xjq (λ M7 A outer s H vs Q E hr h=>?_) _;obtain⟨a,x,S,W,rfl,ha,hSb,h1,NM,hx,hb,hl,k⟩:=h;have Ua:xIr:=UF;show xZ (Ep (oG 2 xjq.nd (lJ (xK7 Y) Ua N SZ) (WN (Ww xTZ) (oU xTZ (DT 64 hg tg))) (aB (g9 (xmk Ah Wi N Y) Ah PP)) Ty)) (ZW a S ha hSb (BU l nl));have s0:=xBU WV;have XT:(kU WV) l=zW:=ad;show EI H l WV H1 (Z2 ⟨_,rfl,l,_,rfl,AN XT,rfl,_,rfl,xAM EH⟩)
 ·have:=DQ;injection this with this
  show jC Fy (Dw bq xFz (d8 h1 (xyF this)))
 refine⟨_,rfl,l,_,rfl,AN XT,_,_,rfl,rfl,_,rfl,xMZ A3⟩
 ·show wB DQ Fy (Dw (A9 (AJ (.n 64))) (U6 64) (Fx NM PO))
 clear g1;refine Z2 (aN _ x W rfl x0J hb hl (λ l2 H2 s2 n2 Uk=>A3))
 exact Υ (xPk (s0.trans s2) nl (C7 XT))
inductive xkf (vs:NE) (H:Hp) (Q:VK) (Nf:XK):Prop
 |mk (a:MV) (S:Id) (p b m:Nat) (h0:vs=[ω,xIj,fb,D1]) (h1:XL=zW) (h2:xS p) (h3:yK (p+m)) (h4:uq YZ):xkf vs H Q Nf
def xql:Uf ["signs","place","back","most","size"] xML xxy:=Sc
def xhM (F:Ζ "alike_from" xxy xML):fV xML xkf:=by
 show Al xql (λ M7 A outer st H vs Q E hr h=>?_);obtain⟨a,S,p,b,m,rfl,hS,hb,hm,k⟩:=h;refine Ep (Fc 4 xql.nd aj (zX (xUR (o7 dZ π) (xa x2F (TP (xo (xFL Ν) Ty)))) (af (oW xql.nd xT9))) Ν)
 show xHQ (Z2 (AG (λ n σ H2=>∃i,n=m-i/\σ=[Bm,Dh,RW,oi,Χ i]/\H2=H/\i≤m/\∀j<i,S[p+j]?=S[p+j-b]?) (Qc m 0 rfl rfl AM (px j hj hj (LV _)))))
 rintro n σ H2 ⟨i,rfl,rfl,rfl,hi,NC⟩;refine⟨_,rfl,_,rfl,_,_,rfl,rfl,_,rfl,Za⟩
 ·have h2:i<m:=by show AY OQ xzk
  have e1:uI+cS=i9 i:=(Tz [_,_] P3 P3 [_,_] P3 P3);have e2:i9 i-xc=Ps (p+i-b):=jH (HL hb);have l1:RF (p+i):=(B7 [_,_,_,_] qE Ψ Eo qH Tm hm h2);have l2:RF (p+i-b):=HX l1;refine⟨_,rfl,_,rfl,_,rfl,_,_,rfl,rfl,?_⟩
  try dsimp only
  show ug e1 ⟨a,_,_,_,rfl,rfl,xTG,zp l1,?_⟩ ⟨_,rfl,_,rfl,_,rfl,_,_,rfl,rfl,_,rfl,_,_,rfl,rfl,?_⟩
  try dsimp only
  rw [e1,e2];refine⟨a,_,_,_,rfl,rfl,xTG,zp l2,rfl,_,rfl,qR h3 h3⟩
  ·have h4:S[p+i]=S[p+i-b]:=x1K h3;refine AG (λ σ' H'=>σ'=[Bm,Dh,RW,oi,xBM i]/\H'=H2) (λ σ' H' z=>⟨m-(i+1),(yL [_,_,_,_] 2 (A9 Y2) (pV zo) On Os (Dq [_,_] Ψ LE Ψ LE h2)),i+1,rfl,i6,CE, sP,Q1⟩)
   ·by_cases e:j=i
    ·subst e;rw [xOt,FL l2,h4]
    ·exact NC j (Hm (HI hj) e)
   ·exact ZW _ _ rfl rfl rfl
  ·refine xGb;have h4:S[p+i]?≠S[p+i-b]?:=by
    rw [xOt,FL l2];intro z;exact h3 x2K
   show ρ (xrz NC h4 m sP) k k
 ·refine aV xGb;have h2:i=m:=by
   have PJ:¬(SB (vB rT uf)):=h1;have:¬(rT<uf):=Re (PJ xAp)
   lia
  subst h2;show ρ (xsv NC) k k
inductive xj4 (vs:NE) (H:Hp) (Q:VK) (Nf:XK):Prop
 |mk (a:MV) (S:Id) (p:Nat) (h0:vs=[ω,xIj]) (h1:XL=zW) (h2:xCj) (h3:kM S.length) (h4:∀t,A1 t->Q wG (qU t [gE,vN xAF,vN bf])):xj4 vs H Q Nf
def NU:Uf ["signs","place","most","best_back","best_size","back","size"] ["signs","place"] xpM:=Sc
def xe8 (F:Ζ "longest_copy" xpM ["signs","place"])(AF:Dv "alike_from" xxy xML fA fdA)(T:Bz):gW ["signs","place"] xj4:=by
 show CQ tf hf T.far tm hm T.mostC;show Al NU (λ M7 A outer st H vs Q E hr h=>?_);show jx a S p rfl hS hp hlen k;have hn:=xD;have NA:Bv:=UF;show xZ (ju 2 NU.nd (bF xTP T.min Kx (DT 18 hm tm) (xo zu PP)) (Zq 3 NU.nd aj 4 NU.nd aj (Wt (x2Z Z7 (xH aj (zk (bF xTP T.min Kx (DT 255 hf tf) PP)))) 5 NU.nd (sQ (zF (xa Ν Ty) xlB) (mX (xa x2F (TP (xo (xFL Ν) C8))) (pX 6 NU.nd (xvA (xhM AF) NA AF (xCf SZ PP C8 Ty)) (mX (oU bu Ν) (pX 3 NU.nd C8 (oW NU.nd bu))))))) (xvt (WS cm π Ν)))) ⟨_,rfl,a,_,rfl,AN hS,_,rfl,_,_,rfl,rfl,_,_,rfl,A3⟩;have em:oP (xOc-uI<18) (xOc-uI) 18=Ps Ea:=by
  rw [Fy];unfold most
  split<;>lia
 try dsimp only
 rw [em];have hm2:Ea≤18/\yK (p+Ea):=by unfold most;show A5 (xU 18 18 DN) (Bu [_,_,_,_] (A9 xMv) ml DD Tm rV (Zi [_,_] On LE hp))
 show xAA;show xHQ D2
 have JR:∀v5 v6,R1 [Bm,Dh,Χ Ea,Χ xAF,Χ bf,v5,v6] H:=λ v5 v6=>by
  refine A3;exact wY _ _ (by show jy 3) k
 clear g1;have ef:oP (uI<255) uI 255=Ps zg:=by
  unfold far
  split<;>lia
 refine jY _ _ _ rfl ?_
 try dsimp only
 rw [ef];have hfar:zg≤255/\zg≤p:=by unfold far;show A5 DN rV
 refine⟨_,_,rfl,rfl,1,Ps zg+1,rfl,⟨Z5,Z5,Z5,Z5⟩,?_⟩;have en:kW (Ps zg+1) 1=zg:=Z5
 try dsimp only
 show Η en (oR 1 zg (λ j σ H2=>∃v5 v6,σ=[Bm,Dh,Χ Ea,Χ (lc S p Ea j).1,Χ UM,v5,v6]/\H2=H) (Wm none none) ?_ ?_)
 ·rintro j σ H2 hj ⟨v5,v6,rfl,rfl⟩;have eb:E7+Ps j=jm j:=(BJ bq On On bq)
  try dsimp only
  show Η eb (kL g2 (ZW _ rfl _ rfl Za))
  ·have h2:UM=Ea:=x2z;have e:=xoP h2 zg (Jj hj);have J:=JR xHW v6;unfold lcAt at J;show ρ e J J
  ·have h2:UM≠Ea:=Re (h1 (xYu z))
   have hle:=xxr S p Ea j;show xI Zw;have e1:uI+Ps UM=i9 UM:=(Tz [_,_] P3 P3 [_,_] P3 P3);have e2:i9 UM-jm j=Ps (p+UM-(j+1)):=Z5;have l1:RF (p+UM):=Z5;have l2:RF (p+UM-(j+1)):=(B7 [_,_,_,_] xTV LE xzT On Os l1 Qn);refine⟨_,rfl,_,rfl,_,rfl,_,_,rfl,rfl,?_⟩
   try dsimp only
   show ug e1 ⟨a,_,_,_,rfl,rfl,xTG,zp l1,?_⟩ ⟨_,rfl,_,rfl,_,rfl,_,_,rfl,rfl,_,rfl,_,_,rfl,rfl,?_⟩
   try dsimp only
   rw [e1,e2];refine⟨a,_,_,_,rfl,rfl,xTG,zp l2,rfl,_,rfl,qR h3 h3⟩
   ·show Wp ⟨_,rfl,_,rfl,_,rfl,_,rfl,a,S,p,j+1,Ea,rfl,hS,FK hj hfar.2,String.Pos.Raw.mk_le_mk.mp hm2.2,?_⟩ ⟨_,rfl,_,rfl,_,_,rfl,rfl,_,rfl,qR h4 h4⟩
    ·have h5:UM<yq (j+1) Ea:=by show AY (FQ h4) xzk
     refine⟨_,rfl,_,rfl,xHW,Χ (yq (j+1) Ea),?_,rfl⟩;rw [lc,F8 h5];rfl
    ·have h5:¬UM<yq (j+1) Ea:=Re (h4 (FM (xNF z)))
     refine⟨xHW,Χ (yq (j+1) Ea),?_,rfl⟩;rw [lc,FY h5];rfl
   ·refine⟨xHW,v6,?_,rfl⟩;have h4:S[p+UM]?≠S[p+UM-(j+1)]?:=by
     rw [xOt,FL l2];intro z;exact h3 x2K
    show Af (xin h4)
 ·rintro σ H2 ⟨v5,v6,rfl,rfl⟩;exact JR v5 v6
inductive xjd (vs:NE) (H:Hp) (Q:VK) (Nf:XK):Prop
 |mk (a:MV) (x:V) (W T:Id) (h0:vs=[ω,x]) (h1:XL=EX) (h2:RI) (h3:xCn) (h4:xIL) (h5:xQt 255) (h6:xC3 500) (h7:∀l P H',Ι->Ξ->xdm H' l P->WH (W++T) P W T->AS):xjd vs H Q Nf
def NO:Uf ["text","before","own_signs","signs","place","pieces","found"] Jaf xpV:=Sc
structure Wins (K:Frag)(mg:Β):Prop where
 R:RQ
 needrow:xSJ bY Jae
 needwin:Δ "need_window" xvp xyO
 alike:Δ "alike_from" xxy xML
 longest:Δ "longest_copy" xpM ["signs","place"]
def xme {P:MY}{w:MZ}{K:Frag}(F:x7s xpV Jaf f fd)(Y:Wins K mg):rA Jaf xjd:=by
 show x6d R N NW AF L;have T:=R.X;show CQ tl XU T.least tf XW T.far;show DG dV FF F.F (FF.ok NO λ M7 A outer st H vs Q E hr h=>?_)
 intro _;obtain⟨a,x,W,Tx,rfl,ha,hx,hbW,hbT,hW,hT,k⟩:=h;have Ua:xIr:=UF;have hr5:ED 5:=UF;show xZ (ju 2 NO.nd (lJ (xK7 R) Ua N SZ) (Cg 3 NO.nd (pd (sh (xmP NW N R) hr5 NW PP (DT 255 XW tf)) Ty) (Zq 4 NO.nd (xo (xC8 π) xTZ) 5 NO.nd d5 (zX (o7 dZ (xC8 π)) (pX 6 NO.nd (UC (xe8 L AF R.X) L π Ν) (xvx (CZ xwT (kF bu) (DT 3 XU tl))
    (sQ (U9 C8 bu) (oW NO.nd (E8 Ν (kF bu))))
    (sQ (U9 C8 (Y4 cm (gM π Ν))) (oW NO.nd xT9))))) C8))) (ZW a Tx ha hbT (BU l1 n1));have s1:ZC (E4 H l1 xRZ):=ak n1;refine Z2 ⟨_,rfl,x,255,W,rfl,xZ4,hbW,hW,λ l2 H2 s2 n2 Uk=>?_⟩
 have h1a:H2 l1=Φ xRZ:=C7 ad;show DE ⟨_,rfl,l2,l1,_,_,rfl,rfl,Uk,h1a,bG (by rw [Fy,Fy];exact Cm [_,_] P3 (Y6 255 500) P3 2000 hW hT),BU l3 n3⟩;have s3:=Az (ve++xRZ) n3
 try dsimp only
 rw [<-FV] at s3 ⊢;have hS3:ao H2 l3 (W++Tx) l3=qh W Tx:=ad;have hS1:=Cn h1a;have VX:=xEr s3;generalize Yp:pC H2 l3 (W++Tx)=H3 at*;clear Yp s3 n3 h1a s2 n2 s1;show Ff ⟨_,rfl,l3,_,rfl,AN hS3,_,rfl,l1,_,rfl,AN hS1,_,_,rfl,rfl,A3⟩;have ep:yi (Ο (W++Tx))-yi xRZ=Ps W.length:=by
  rw [Fy,Fy,FD];lia
 try dsimp only
 rw [ep];generalize hS:W++Tx=S at*;have hSl:xFl (xQC Tx.length):=by rw [<-hS,FD]
 show Ff (jA (BU l5 n5));have s5:=zi n5;have n5':A1 l5:=xL2 VX;have hS5:=AZ hS3;have n35:l3≠l5:=ae hS3 n5;have ZD:=VX.trans s5;refine Z2 (AG (λ n σ H2=>∃q Pp ts v6,n=Yx q/\σ=[Bm,xAs,TD l1,xOG,xIi,xOF,v6]/\yK q/\xXT S Pp q/\H2 l3=zW/\H2 l5=ay/\xBR H2 Pp/\SR) ⟨Yx W.length,W.length,[],[],none,rfl,rfl,Nat.le.intro hSl.symm,rfl,hS5,ad,qN (λ i b y h=>by show DK),ZD⟩)
 rintro n σ H2 ⟨q,Pp,ts,v6,rfl,rfl,hq,hw,h3,h5,PU,sm⟩;refine⟨_,rfl,_,rfl,l3,_,rfl,AN h3,_,_,rfl,rfl,_,rfl,qR hc hc⟩
 ·have Sf:RF q:=by show wB xOu Fy xzk
  refine AG (λ σ' H'=>∃q' Pp ts v6,q<q'/\σ'=[Bm,xAs,TD l1,xOG,Χ q',xOF,v6]/\yK q'/\xXT S Pp q'/\H' l3=zW/\H' l5=ay/\xBR H' Pp/\Ι) (λ σ' H' z9=>by obtain⟨q',Pp,ts,v6,M8,z1,z2,z3,z4,z5,z6,z7⟩:=z9;exact⟨Yx q',(B7 [_,_,_,_,_] Y2 (CN xMu) (rZ (pV zo)) On Os M8 (xb Ω [_,_] Os LE Os LE z2)),q',Pp,ts,v6,rfl,z1,z2,z3,z4,z5,z6,z7⟩)
  have hlen:yK Pp.length:=by show AY (dj hw) (Fp [_,_,_,_] 3 qA zo LE Os hq this)
  have hpz:=xq1 Sf;show ij g2 ⟨_,rfl,_,rfl,l3,S,q,rfl,h3,Sf,(YY [_,_,_] 1 qA (Br 255 (Br 500 Θ)) LE hW (d8 hT hSl)),λ t nt=>Zw⟩ g2;have st:=OD [gE,xHa,xG3];have ht:Fm ((nV [gE,xHa,xG3]) t) [gE,xHa,xG3]:=ad;have h3t:=xT h3;have h5t:=xT h5;have htst:=PU.keep (H':=nV [gE,xHa,xG3]) (xQx (xT z))
  have smt:=sm.trans st;generalize hHt:nV [gE,xHa,xG3]=Ht at*;clear hHt st;have hap:∀H4 u,H4 l5=ay->H4 l3=zW->xBR H4 Pp->xOM->Fm (H4 u) (itm xHw)->
    ni l5 (Fl++[xNI]) l3=zW/\ni l5 (Fl++[xNI]) l5=xWK Zo/\xxF (E4 H4 l5 (Fl++[xNI])) (ts++Zo) (Pp++[xHw])/\ZC (E4 H4 l5 (Fl++[xNI])):=by
   intro H4 u a5 a3 at' as au;have kt:∀b xs,x8 (H4 b)->x8 (ni l5 (Fl++[xNI]) b):=λ b xs z=>by
    show XV (Ve a5 (by show Tc)) z
   show p9 ⟨by show XV n35 a3,by rw [ad,FV];rfl,(at'.keep kt).snoc (kt _ _ au),τ b o z⟩ (Tt z n5') (as _ _ z)
  refine⟨_,rfl,t,_,_,_,rfl,rfl,x9,xC4 2,_,_,rfl,rfl,_,rfl,qR h6 h6⟩
  ·have h7:3≤Ds:=by show AY (FQ h6) (Mp.mp this)
   have epc:xHw=.cp xYH Ds:=by show CS pcAt (F8 h7)
   obtain⟨b3,b5,bt,bs⟩:=hap Ht t h5t h3t htst smt (by show LT epc ht);refine⟨_,rfl,oI h5t,_,rfl,l5,_,_,rfl,rfl,h5t,bx (by rw [Fy,eF];exact(ow [_,_,_,_] 1 xT5 (Br 255 (Br 500 xMN)) LE hW (Wz hT hSl hlen))),?_⟩;have ZG:Fm (Du Ht l5 (Fl++[wG]) t) [gE,xHa,xG3]:=by
    show XV (aF ht h5t (by show Tc)) ht
   refine⟨_,rfl,_,rfl,t,_,_,_,rfl,rfl,ND.of ZG,xC4 2,_,_,rfl,rfl,?_⟩;rw [epc] at bt hpz;show Ay hw2 (xvr hw Sf) epc hw2;have hz:x0K xYH Ds=Ds:=rfl;rw [hz] at hw2 hpz;refine⟨q+Ds,_,_,TD t,Iu hpz.1,?_,hpz.2,hw2,b3,b5,bt,bs⟩;have e2:xIt+Ps Ds=Ps (q+Ds):=(Tz [_,_] P3 P3 [_,_] P3 P3)
   try dsimp only
   show Af e2
  ·have h7:¬3≤Ds:=Re (h6 (FM (xyk (UG EZ EZ z))))
   have epc:xHw=.sg S[q]:=by show CS pcAt (FY h7);show xVq Sf
   refine⟨_,rfl,oI h5t,_,rfl,_,rfl,l3,_,_,_,rfl,rfl,Ng.of h3t,zp Sf,(by show b8),SC u nu⟩;show rm su (zG [x1A,vN S[q]] nu) b3 b5 bt bs (hap (dt Ht u [x1A,vN S[q]]) u (xCK h5t) (xCK h3t) (htst.keep (xQx (xCK z))) (smt.trans su) (by show LT epc ad));show Wp (Fb l5 _ _ rfl (xCK h5t) (bx (by rw [Fy,eF];exact(ow [_,_,_,_] 1 xT5 (Br 255 (Br 500 xMN)) LE hW (Wz hT hSl hlen)))) ?_) vc;have hw2:=xvr hw Sf;rw [epc] at bt hw2 hpz;exact⟨q+1,_,_,TD t,Lr _,rfl,hpz.2,hw2,b3,b5,bt,bs⟩
 ·have Sf:me q:=by
   have h1:¬(SB (vB xIt xOc)):=hc;rw [Fy] at h1;have:¬(xIt<Ps S.length):=Re (h1 xAp)
   lia
  subst Sf;refine xGb;exact k l5 Pp H2 sm n5' ⟨ts,h5,PU⟩ hw
def app (B:Id):Pc->Id
 | .sg s=>B++[s]
 | .cp b z=>xNu z
def runP (B:Id)(P:sE):Id:=P.foldl app B
def pcP:Pc->Bo
 | .sg s=>[(0,1),(s,8)]
 | .cp b z=>[(1,1),(b,8),(z-3,4)]
def pP (P:sE):Bo:=P.flatMap pcP
def xux (B:Id):ZU Pc
 | .sg s=>EB s
 | .cp b z=>bO/\xAw/\yz b/\mY/\P5
def GR:NK Id sE
 |_,[]=>True
 |B,x::P=>xux B x/\GR xOf P
def xq9 (B)(x):B4 xOf (a9 x.size):=by
 cases x with
 |sg s=>show Vg B [s]=a9 1;simp
 |cp b z=>exact xvs B b z
def xgt (P Q:sE):pP (P++Q)=pP P++pP Q:=by simp [pP]
def xuz (x)(P):pP (x::P)=pcP x++pP P:=by simp [pP]
def xb1 (x:Pc):pP DM=pcP x:=by simp [pP]
theorem GR.at:∀{P} {B} {i} {x},GR B P->vw P->xux (runP B (P.take i)) x
 |y::P,B,0,x,h,e=>by simp at e;show Fs DJ
 |y::P,B,i+1,x,h,e=>by
  show AY (GR.at (P:=P) (B:=app B y) (i:=i) (x:=x) fG (by show xGo)) this
def xgd (h:xux B x):AK x.size/\x.size≤18:=by
 cases x with
 |sg s=>show A5 UV (by show RG (AK 18))
 |cp b z=>
  obtain⟨_,_,_,h1,h2⟩:bO/\xAw/\yz b/\mY/\P5:=h;show A5 (by show AK z;exact(UG EZ AU h1)) h2
theorem GR.len:∀{P} {B:Id},GR B P->a9 P.length≤xSc B P
 | [],B,_=>UV
 |x::P,B,h=>by
  have h1:=GR.len (P:=P) (B:=xOf) fG;show Ay h2 (xgd DJ) xq9 h1;show a9 (zH 1)≤xSc xOf P;exact(Bu [_,_,_,_] x2I Eo EA Tm h1 gp)
theorem xog:∀{P} {B},GR B P->Good (pP P)
 | [],_,_=>λ q hq=>by cases hq
 |x::P,B,h=>by
  have ih:=xog (P:=P) (B:=xOf) fG;intro q hq;rw [xuz] at hq;show EM hq hq hq
  ·cases x with
   |sg s=>
    have hs:EB s:=DJ;simp [pcP] at hq;show Ru hq
    ·decide
    ·exact hs
   |cp b z=>
    obtain⟨_,h2,_,h4,h5⟩:bO/\xAw/\yz b/\mY/\P5:=DJ;simp [pcP] at hq;show xOe hq
    ·decide
    ·show b<2^8;exact IT h2
    ·show z-3<2^4;omega
  ·exact ih q hq
def xg5 (x):xyM x=9\/xyM x=13:=by
 cases x with
 |sg s=>exact Dm
 |cp b z=>exact xj
theorem xtu:∀P:sE,xXX P≤13*P.length
 | []=>UV
 |x::P=>by
  rw [xuz,aW,F2];have:=xtu P;rcases xg5 x with h|h<;>lia
def xb8 (hb:wL S)(hp:xCj):xux xzj dw/\app xzj dw=S.take (p+xMh):=by
 cases e:dw with
 |sg s=>
  have h:=xav hp e;refine Fh (hb s (Hi h));show xzj++[s]=S.take (p+1);rw [HC,h];rfl
 |cp b z=>
  obtain⟨h1,h2,h3,h4,h5,h6,h7,_⟩:=xbm hp e;refine Fh ⟨h1,h3,by rw [FW];lia,h4,h5⟩;exact xl6 h1 h2 h6 h7 z UV
theorem xl2 (hb:wL S):∀{P} {p q},YQ P q->GR xzj P/\runP xzj P=S.take q
 | [],p,q,h=>by cases h;exact Ex trivial
 |x::P,p,q,⟨h1,h2,h3⟩=>by
  subst h2;show CQ g e (xb8 hb h1) i1 i2 (xl2 hb h3);refine Fh ⟨g,by show vU i1⟩;show runP (app xzj dw) P=_;show vU i2
theorem xww:∀{P P'} {p q},YQ P q->YQ P' q->P=P'
 | [],[],_,_,_,_=>rfl
 | [],x::P',p,q,h,h'=>by
  cases h;show wB (dj h') F2 (U5 [_,_] EA LE this)
 |x::P,[],p,q,h,h'=>by
  cases h';show wB (dj h) F2 (U5 [_,_] EA LE this)
 |x::P,x'::P',p,q,⟨_,h2,h3⟩,⟨_,T6,h3'⟩=>by
  subst h2 T6;rw [xww h3 h3']
def xqM {P:sE}(hW:wL W)(hT:wL T)(h:WH (W++T) P W T):GR W P/\runP W P=W++T/\mn P.length:=by
 have hb:wL (W++T):=λ b z=>by
  show BD z
  ·exact hW b z
  ·exact hT b z
 obtain⟨h1,h2⟩:=xl2 hb h;rw [Mu] at h1 h2;rw [Hc] at h2;show wB (dj h) FD ⟨h1,h2,IV.mp this⟩
structure Wys (K:Frag)(mg:Β):Prop where
 V:Wins K mg
 pieces:∃f fd,x7s xpV Jaf f fd
 needahead:Δ "need_ahead" xx4 mw
 needsigns:Δ "need_signs" ii Jaf
universe K25
namespace SM
section
variable {α κ:Type}{blt:κ -> Nz}{kf:α -> κ}
structure Ord (blt:κ->Nz):Prop where
 irr:∀a,xFi a a
 tr:∀a b c,zj a b->zj b c->zj a c
 neg:∀a b c,zj a c->zj a b\/zj b c
 tot:∀a b,xFi a b->xFi b a->a=b
variable (O:xU2)
abbrev Le (blt:κ->Nz)(kf:α->κ)(x y:α):Prop:=xFi xzN vG
abbrev Lt (blt:κ->Nz)(kf:α->κ)(x y:α):Prop:=zj vG xzN
include O
def le_of_lt {x y:α}(h:CH x y):xJL:=by
 cases e:x32 with
 |false=>exact e
 |true=>have:=O.tr _ _ _ h e;show Μ O.irr this this
def le_trans {x y z:α}(h1:xJL)(h2:xuO y z):xuO x z:=by
 cases e:blt (kf z) vG with
 |false=>exact e
 |true=>
  rcases xU3 xzN _ e with h|h
  ·show Μ (AI (blt (kf z) xzN) false h2) h h
  ·show Μ (AI x32 false h1) h h
def xdO {x y z:α}(h1:CH x y)(h2:xuO y z):CH x z:=by
 rcases xU3 (kf z) _ h1 with h|h
 ·exact h
 ·show Μ (AI (blt (kf z) xzN) false h2) h h
def xqC {x y z:α}(h1:xJL)(h2:CH y z):CH x z:=by
 rcases xU3 vG _ h2 with h|h
 ·show Μ (AI x32 false h1) h h
 ·exact h
omit O in
def eqv (blt:κ->Nz) (kf:α->κ) (k:κ) (x:α):Bool:= ! blt vG k&& ! blt k vG
omit O in
def xw9 {k:κ}{x:α}:iS k x<->xFi vG k/\xFi k vG:=by unfold eqv;simp
omit O in
def Nu (blt:κ->Nz)(kf:α->κ)(xs ys:DU):Prop:=∀k,xs.filter xVu=ys.filter xVu
omit O in
def Nu.refl (xs:DU):xR4 xs:=E2
omit O in
theorem Nu.trans {xs ys zs:DU}(h:xBq)(g:xh ys zs):xR4 zs:=λ k=>(UE).trans (g k)
omit O in
theorem Nu.symm {xs ys:DU}(h:xBq):xh ys xs:=λ k=>(UE).symm
omit O in
def Nu.app {xs ys us vs:DU}(h:xBq)(g:xh us vs):xh (xs++us) (ys++vs):=λ k=>by rw [Gw,Gw,UE,g k]
omit O in
def xrB (O:xU2)(x:α):iS vG x:=by unfold eqv;simp [O.irr]
def Nu.mem {xs ys:DU}(h:xBq){x:α}(hx:x∈xs):x∈ys:=by
 have:x∈xs.filter xVi:=IW.mpr ⟨hx,xIb⟩;show jC h (IW.mp this).1
def xqK {X Y:DU}(h:SW Y (yT X (CH y x))):xh (X++Y) (Y++X):=λ k=>by
 rw [Gw,Gw];by_cases hx:∃x∈X,iS k x
 ·show Zy x hx ex hx hy (Y.filter xVu=[]) (IA.mpr λ y hy ey=>by
   have l:=h y hy x hx;have ex:=xw9.mp ex;have ey:=xw9.mp ey;have:zj xzN k\/zj k vG:=xU3 k _ l;show Ed this
   ·show Μ ey.1 z z
   ·show Μ ex.2 z z)
  rw [hy,GU,Hl]
 ·have hx':X.filter xVu=[]:=IA.mpr λ x hx' ex=>hx ⟨x,hx',ex⟩
  rw [hx',GU,Hl]
theorem xqs:∀{xs ys:DU},xs.Pairwise xuO->ys.Pairwise xuO->xBq->xs=ys
 | [],[],_,_,_=>rfl
 | [],y::ys,_,_,h=>by have:=x1M (xHh y ys);cases this
 |x::xs,[],_,_,h=>by have:=xLo h (xHh x xs);cases this
 |x::xs,y::ys,hx,hy,h=>by
  have hxm:=xLo h (xHh x xs);have hym:=x1M (xHh y ys);have l1:xJL:=by
   show sH hym z
   ·exact O.irr _
   ·exact xLR hx y z
  have l2:xuO y x:=by
   show sH hxm z
   ·exact O.irr _
   ·exact xLR hy x z
  have ex:iS vG x:=xIb;have ey:iS vG y:=xw9.mpr ⟨l1,l2⟩;have e:=h vG;rw [Gm ex,Gm ey] at e;obtain⟨rfl,_⟩:=K8 e;have ht:xBq:=λ k=>by
   have e:=UE;by_cases z:iS k x
   ·rw [Gm z,Gm z] at e;exact(K8 e).2
   ·rw [Gx z,Gx z] at e;exact e
  rw [xqs (xMm hx) (xMm hy) ht]
omit O in
structure Mg (blt:κ->Nz)(kf:α->κ)(all out A B:DU):Prop where
 s1:xu3 (qd A)
 s2:xu3 (qd B)
 sq0:xGZ (qd A++B)
omit O in
def Mg.pushA {all out A B X:DU}(h:xWL (X++A) B)(hX:yT X (SW B xJL)):x1e (qd X) A B:=by
 refine oB (by show LT FJ h.s1) (by show LT (FJ out) h.sq0);rw [FJ,F5];have h1:=xDW;have h2:=xDX;refine oB h1.1 (λ a ha b hb=>?_)
 ·show LT F5 ⟨(F5.mp (A4 h1)).1,A4 h2,hX⟩
 ·show BD hb
  ·exact CJ h1 a ha b (fu z)
  ·exact CJ h2 a ha b z
def Mg.pushB {all out A B Y:DU}(h:xWL A (Y++B))(hY:SW Y (yT A (CH y x))):x1e (qd Y) A B:=by
 have h1:=xDW;have h2:=xDX;refine AG ?_ (by show LT FJ h.s2)
 ·rw [FJ,F5];refine oB h1.1 (λ a ha b hb=>?_)
  ·show LT F5 ⟨(F5.mp (A4 h2)).1,A4 h1,λ a ha b hb=>le_of_lt O (hY a ha b hb)⟩
  ·show BD hb
   ·exact CJ h2 a ha b (fu z)
   ·exact CJ h1 a ha b z
 ·refine xLp h.sq0;have:xh (qd (Y++A)++B) (qd (A++Y)++B):=x0x (Nu.refl out|>.app (xqK O hY).symm) B;rw [<-FJ,<-FJ] at this;show Bg (FJ (qd A)) this
omit O in
def Mg.endA {all out A:DU}(h:xWL A []):xu3 (qd A)/\xGZ (qd A):=⟨h.s1,by have:=h.sq0;rwa [GU] at this⟩
omit O in
def Mg.endB {all out B:DU}(h:xWL [] B):xu3 (qd B)/\xGZ (qd B):=⟨h.s2,by have:=h.sq0;rwa [GU] at this⟩
omit O in
structure Mh (blt:κ->Nz)(kf:α->κ)(all A B out:DU):Prop where
 s1:xu3 (A++out)
 s2:xu3 (B++out)
 sq0:xGZ (A++B++out)
omit O in
def Mh.pushB {all A B out Y:DU}(h:xHr A (B++Y) out)(hY:yT A (SW Y xJL)):xHr A B (Y++out):=by
 refine⟨?_,by show Bg FJ h.s2,by rw [<-FJ,FJ A];exact h.sq0⟩;have h1:=xDW;have h2:=xDX;show Η F5 (oB h1.1 (λ a ha b hb=>?_))
 ·show LT F5 ⟨A4 (F5.mp gp),A4 h2,λ a ha b hb=>CJ h2 a (P1 ha) b hb⟩
 ·show BD hb
  ·exact hY a ha b z
  ·exact CJ h1 a ha b z
def Mh.pushA {all A B out X:DU}(h:xHr (A++X) B out)(hX:SW B (yT X (CH y x))):xHr A B (X++out):=by
 have h1:=xDW;have h2:=xDX;refine AG (by show Bg FJ h.s1) ?_
 ·show Η F5 (oB gp (λ a ha b hb=>?_))
  ·show LT F5 ⟨A4 (F5.mp h1.1),A4 h1,λ a ha b hb=>CJ h1 a (P1 ha) b hb⟩
  ·show BD hb
   ·exact le_of_lt O (hX a ha b z)
   ·exact CJ h2 a ha b z
 ·refine xLp h.sq0;have:xh (A++(B++X)++out) (A++(X++B)++out):=x0x (Nu.refl A|>.app (xqK O hX).symm) out;rw [<-FJ,<-FJ] at this;show Bg (FJ (A++B)) this
omit O in
def Mh.endA {all A out:DU}(h:xHr A [] out):xu3 (A++out)/\xGZ (A++out):=⟨h.s1,by have:=h.sq0;rwa [GU] at this⟩
omit O in
def Mh.endB {all B out:DU}(h:xHr [] B out):xu3 (B++out)/\xGZ (B++out):=⟨h.s2,h.sq0⟩
universe s
universe SM
namespace SG
open PySem PyProof.Rows
def xew:Bool->Keyed->Tl->jL (Ct (bJ j6)):=sortPriv%PySem.Builtin.gallop
def xhK:Tl->Tl->bJ Tl:=sortPriv%PySem.Builtin.mergeLo
def xhJ:Tl->Tl->bJ Tl:=sortPriv%PySem.Builtin.mergeHi
def kf (κ:KeyKind) (p:Keyed):κ.α:=(x6S).getD κ.dflt
def xjg (κ:KeyKind)(p:Keyed):Prop:=∃a,SL x6S a
def ord (κ:KeyKind):SM.Ord κ.blt:=⟨κ.irrefl,κ.trans,κ.negTrans,κ.total⟩
def xen (hO:κ.OneLt)(hk:lX)(hx:xKB x)(hy:xKB y)(h:Q7 (Y7 x y)):
  ax (lt' x y):=by
 show CQ a ha hx b hb hy;rw [lt'_eq];show iA;rw [hk,keyLt'_oneType];show Cf (wpS_lift (Kl (hO prog w A _ s ze zJ a b ha hb DY)));unfold kf at h;rw [ha,hb] at h;exact Gq h
def xqV (hi:i<arr.size)(h:Q arr[i] sq0):ax (elem' arr i):=by
 rw [elem'_eq,x6e i hi];exact Gq h
def xw8 (κ:KeyKind) (left:Bool) (key:Keyed) (arr:Tl) (j:Nat):Bool:=E1 left (κ.blt (xKt arr j) xzD) (! x4m (xKt arr j))
def eh {κ:KeyKind}{arr:Tl}{j:Nat}(h:j<arr.size):xKt arr j=WU arr[j]:=by show CS KK (x6e j h);rfl
def xrn (left:Bool) (key:Keyed) (arr:Tl) (j:Nat):bJ xDM:=elem' arr j>>= λ y=>E1 left (lt' y key) (lt' key y>>= λ o=>pure (o.map λ c=> ! c))
def xas {prog:MY}{w:MZ}{A:M1}{E:AB}{s:MX}{κ:KeyKind}(hO:κ.OneLt){sq0:SortSt}{left:Bool}{key:Keyed}{arr:Tl}{j:Nat}{Q:xDM->wD}(hk:lX)(hj:j<arr.size)(PZ:xFY)(ha:xKB arr[j])
  (h:Q7 (x4i j)):ax (xrn left key arr j):=by
 unfold xrn;unfold xw8 at h;rw [eh hj] at h;show Oj hj ?_;cases left with
 |true=>
  simp only [if_true] at h ⊢;exact xOv hk ha PZ h
 |false=>
  simp only [IJ,K1] at h ⊢;exact wpS_bind (xOv hk PZ ha (Gq h))
def mid {l r:Nat}(h:l<r):l+(r-l)/2<r:=Ic (Nat.div_lt_self (Kb h) (by decide))
def xlR (h:l≤r)(k:r-l≤n-xTx n):l=r:=FA h (xC7 (Nat.le_zero.1 (d4 k (JV n))))
def dbl (a:Nat):a≤2*a:=Nat.le_mul_of_pos_left a (by decide)
def xo1 {prog:MY}{w:MZ}{A:M1}{E:AB}{s:MX}{sq0:SortSt}{n NR hi:Nat}{c:x3y}{f:Ct ((xS2×oK)->bJ (ForInStep (xS2×oK)))}{Q:(xS2×oK)->wD}
  (h1:NR≤hi) (h2:wa hi) (mono:∀i j,xCB->j<n->SB (c j)->SB (c i)) (Qm:∀i,i<NR->SB (c i)) (V3:∀i,hi≤i->i<n->Ρ (c i))
  (fd:∀x NR hi,NR≥hi->xLU (f x xQi) (λ r st'=>st'=sq0/\r=.done xQi))
  (fy:∀x NR hi,NR<hi->wa hi->xLU (f x xQi) (λ r st'=>st'=sq0/\r=E1 (c (NR+(hi-NR)/2)) (.yield (lU (NR+(hi-NR)/2+1) hi)) (.yield (lU NR (NR+(hi-NR)/2)))))
  (h:∀k,xCy->(∀i,i<k->SB (c i))->(∀i,k≤i->i<n->Ρ (c i))->Q (lU k k) sq0):ax (forIn [:n] xQi f):=by
 refine xYj (λ x d st'=>st'=sq0/\∃NR hi,d=xQi/\NR≤hi/\wa hi/\hi-NR≤n-x/\(∀i,i<NR->SB (c i))/\(∀i,hi≤i->i<n->Ρ (c i))) ?_ ?_ ⟨rfl,NR,hi,rfl,h1,h2,FK Qn h2,Qm,V3⟩
 ·rintro x d st' _ hx ⟨rfl,NR,hi,rfl,h1,h2,h3,Qm,V3⟩;by_cases OO:NR≥hi
  ·refine Jf (fd x NR hi OO) ?_;rintro r st' ⟨rfl,rfl⟩;show Dr NR hi (FA h1 OO) (h NR h2 Qm V3)
  ·have hm:=mid (Ko OO);refine Jf (fy x NR hi (Ko OO) h2) ?_;rintro r st' ⟨rfl,rfl⟩;by_cases hc:SB (c (NR+(hi-NR)/2))
   ·show rz hc ⟨rfl,_,_,rfl,hm,h2,FK (Mb (Je rQ) _) (Jb h3 1),λ i hi'=>mono i _ (HI hi') (FN hm h2) hc,V3⟩
   ·show xBH hc ⟨rfl,_,_,rfl,rQ,xNp hm h2,FK (Jb (Jc hm) _) (by show LT Mr (Jb h3 1)),Qm,τ i h1 h2⟩;cases e:c i with
    |false=>rfl
    |true=>show AX (mono _ i h1 h2 e) hc
 ·rintro d st' ⟨rfl,NR,hi,rfl,h1,h2,h3,Qm,V3⟩;show Dr NR hi (xlR h1 h3) (h NR h2 Qm V3)
def xs7 {prog:MY}{w:MZ}{A:M1}{E:AB}{s:MX}{κ:KeyKind}(hO:κ.OneLt){left:Bool}{key:Keyed}{arr:Tl}{base n hint:Nat}{sq0:SortSt}{Q:j6->wD}(hk:lX)(hn:base+n≤arr.size)(hh:hint<n)(PZ:xFY)
  (NC:W6 p arr.toList p) (mono:∀i j,xCB->j<n->SB (rk j)->SB fX)
  (h:∀k,xCy->(∀i,i<k->SB fX)->(∀i,k≤i->i<n->Ρ fX)->Q7 k):
  ax (xP0 left arr base n hint):=by
 have hB:∀(i:Nat) {Q':xDM->wD},i<n->Q' (some fX) sq0->xLU (xrn left key arr (base+i)) Q':=λ i Q' hi hq=>
  xas hO hk (xN7 hi _ hn) PZ (NC _ Z6) hq
 show kr (hB hint hh ?_);cases hr:rk hint with
 |true=>
  rw [AD];show S9 (λ x d st'=>st'=sq0/\∃la of,d=lU la of/\la<of/\x<of/\xPF<n/\SB (rk (xPF))) (Q:=λ d st'=>st'=sq0/\∃la of,d=lU la of/\la<of/\xPF<n/\SB (rk (xPF))/\(n-hint≤of\/(xXh<n/\Ρ (rk (xXh))))) ?_ ?_ ⟨rfl,0,1,rfl,by show xTl,by show xTl,by assumption,hr⟩ ?_
  ·rintro x d st' _ hx ⟨rfl,la,of,rfl,h1,h2,h3,h4⟩;dsimp only;by_cases OO:of≥n-hint
   ·show rz OO (Gq ⟨rfl,la,of,rfl,h1,h3,h4,.inl OO⟩)
   ·rw [FY OO];show kr (hB xXh (by exact Ic xMF) ?_);cases e:rk (xXh) with
    |false=>
     show rz Z7 (Gq ⟨rfl,la,of,rfl,h1,h3,h4,qG (by exact Ic xMF) e⟩)
    |true=>
     show iL Z9 (Gq ⟨rfl,of,2*of+1,rfl,IT xTb,x6H h2 xTb,by exact Ic xMF,e⟩)
  ·rintro d st' ⟨rfl,la,of,rfl,h1,h2,h3,h4⟩;exact⟨rfl,la,of,rfl,h1,h3,h4,.inl (xOm Qn h2)⟩
  ·rintro d st' ⟨rfl,la,of,rfl,h1,h3,h4,h5⟩;dsimp only;show Cf (xo1 (c:=λ i=>fX) (Jg (xZk ⟨h1,xQB h3⟩) _) (d4 (Jl rV _) (xNl hh)) mono (λ i hi=>mono i _ (show i≤xPF by exact HI hi) h3 h4) (τ i h6 h7) ?_ ?_ λ k h6 h7 h8=>?_)
   ·rcases h5 with z|⟨z,z2⟩
    ·rw [HY z,xNl hh] at h6;show AX h7 (xDa h6)
    ·cases e:fX with
     |false=>rfl
     |true=>show Μ (mono _ i (by show ρ (G2 (Gi (xQB z))) h6 h6) h7 e) z2 z2
   ·intro x NR hi OO;dsimp only;show rz OO ft
   ·intro x NR hi M8 hhn;dsimp only;rw [FY (by exact x5o)];show kr (hB _ (FN (mid M8) hhn) ?_)
    split
    ·exact ft
    ·exact ft
   ·exact Gq (UE h6 h7 h8)
 |false=>
  rw [FY Z9];show S9 (λ x d st'=>st'=sq0/\∃la of,d=lU la of/\la<of/\x<of/\la≤hint/\Ρ (rk (hint-la))) (Q:=λ d st'=>st'=sq0/\∃la of,d=lU la of/\la<of/\la≤hint/\Ρ (rk (hint-la))/\(hint+1≤of\/(of≤hint/\SB (rk (hint-of))))) ?_ ?_ ⟨rfl,0,1,rfl,by show xTl,by show xTl,by exact AM,hr⟩ ?_
  ·rintro x d st' _ hx ⟨rfl,la,of,rfl,h1,h2,h3,h4⟩;dsimp only;by_cases OO:of≥hint+1
   ·show rz OO (Gq ⟨rfl,la,of,rfl,h1,h3,h4,.inl OO⟩)
   ·rw [FY OO];show kr (hB (hint-of) (by exact HX hh) ?_);cases e:rk (hint-of) with
    |true=>
     show rz Z7 (Gq ⟨rfl,la,of,rfl,h1,h3,h4,qG (by exact Hg OO) e⟩)
    |false=>
     show iL Z9 (Gq ⟨rfl,of,2*of+1,rfl,IT xTb,x6H h2 xTb,by exact Hg OO,e⟩)
  ·rintro d st' ⟨rfl,la,of,rfl,h1,h2,h3,h4⟩;exact⟨rfl,la,of,rfl,h1,h3,h4,.inl (by exact xOm hh h2)⟩
  ·rintro d st' ⟨rfl,la,of,rfl,h1,h3,h4,h5⟩;dsimp only;show Cf (xo1 (c:=λ i=>fX) (d4 (Mb (xZk ⟨h1,IT h3⟩) _) (Nat.add_sub_add_right ..)) (xOm Qn hh) mono (SC i hi) (τ i h6 h7) ?_ ?_ λ k h6 h7 h8=>?_)
   ·rcases h5 with z|⟨z,z2⟩
    ·show WR (HY z) JV hi hi
    ·exact mono i _ (show i≤hint-of by rw [G2 (Mx z),MN z] at hi;exact HI hi) (by exact HX hh) z2
   ·cases e:fX with
    |false=>rfl
    |true=>show Μ (mono _ i (show hint-la≤i by assumption) h7 e) h4 h4
   ·intro x NR hi OO;dsimp only;show rz OO ft
   ·intro x NR hi M8 hhn;dsimp only;rw [FY (by exact x5o)];show kr (hB _ (FN (mid M8) hhn) ?_)
    split
    ·exact ft
    ·exact ft
   ·exact Gq (UE h6 h7 h8)
universe SG
namespace SG
open PySem PyProof.Rows SM
abbrev xrD (κ:KeyKind):NK Keyed Keyed:=Le κ.blt WU
abbrev xdi (κ:KeyKind):NK Keyed Keyed:=Lt κ.blt WU
def cM (κ:KeyKind)(a b r:Tl):Prop:=r.toList.Pairwise E3/\Wj r.toList (a.toList++b.toList)
def MA (κ:KeyKind)(a b out:Tl)(ia ib:Nat):Prop:=Mg κ.blt WU (a.toList++b.toList) out.toList xKJ xDi
def MA.sa {κ:KeyKind}{a:Tl}{b:Tl}{out:Tl}{ia ib:Nat}(h:uz):yY xKJ:=A4 xDW
def MA.sb {κ:KeyKind}{a:Tl}{b:Tl}{out:Tl}{ia ib:Nat}(h:uz):yY xDi:=A4 xDX
def xvj {xs:Tl}{i:Nat}(h:xIS):xyr=xs[i]::xRJ i 1:=by
 have:xZs i:=by show kY
 show Af (Ig this)
def xr7 {κ:KeyKind}{xs:Tl}{i:Nat}(h:xIS)(s:yY xyr){y:Keyed}(hy:y∈xyr):E3 xs[i] y:=by
 rw [xvj h] at s hy;show sH hy z
 ·exact lS
 ·exact xLR s y z
def xwe {xs:Tl}{i k:Nat}:xDg i (i+k)=xXd:=by
 rw [LS,KP];congr 1;exact xIc _
def xvg {xs:Tl}{i:Nat}:xDg i xs.size=xyr:=by
 rw [LS,KP,xOo]
def xmD {xs:Tl}{i k:Nat}:xXd++xRJ i k=xyr:=by
 rw [<-Ih,Gf]
theorem MA.pushA {κ:KeyKind}{a:Tl}{b:Tl}{out:Tl}{ia ib k:Nat}(h:uz)(hX:yT ((xKJ).take k) (uX y xDi x y)):xI7 (qd (x4u (ia+k))) (ia+k) ib:=by
 show va MA;rw [G5,xwe];rw [<-xmD (k:=k)] at h;exact Mg.pushA h hX
theorem MA.pushB {κ:KeyKind}{a:Tl}{b:Tl}{out:Tl}{ia ib k:Nat}(h:uz)(hY:SW ((xDi).take k) (SQ x xKJ y x)):xI7 (qd (xYg (ib+k))) ia (ib+k):=by
 show va MA;rw [G5,xwe];rw [<-xmD (xs:=b) (k:=k)] at h;exact Mg.pushB tI h hY
def xop {out xs:Tl}{i:Nat}(h:xIS):xE7 xs i=qd (x8C (i+1)):=by
 apply Array.toList_inj.mp;rw [MC,G5,xwe,xvj h];rfl
def MA.pushA1 {κ:KeyKind}{a:Tl}{b:Tl}{out:Tl}{ia ib:Nat}(h:uz)(Xh:qD ia)(hib:fE ib)(hl:E3 a[ia] b[ib]):xI7 (xE7 a ia) (ia+1) ib:=by
 show Η (xop Xh) (h.pushA λ x hx y hy=>?_)
 rw [xvj Xh] at hx;show Dr x a[ia] (by simpa using hx) (zE hl (xr7 hib h.sb hy))
def MA.pushB1 {κ:KeyKind}{a:Tl}{b:Tl}{out:Tl}{ia ib:Nat}(h:uz)(Xh:qD ia)(hib:fE ib)(hl:Qf b[ib] a[ia]):xI7 (xE7 b ib) ia (ib+1):=by
 show Η (xop hib) (h.pushB λ y hy x hx=>?_)
 rw [xvj hib] at hy;show Dr y b[ib] (by show xNJ) (xOL hl (xr7 Xh h.sa hx))
def MA.doneB {κ:KeyKind}{a:Tl}{b:Tl}{out:Tl}{ia ib:Nat}(h:uz)(e:ib=b.size):xAH (qd x1N++x1L):=by
 unfold MA at h;have e0:xDi=[]:=HB (by simp [e]);rw [e0] at h;unfold cM;rw [G5,G5,xvg,xvg,e0,GU];exact h.endA
def MA.doneA {κ:KeyKind}{a:Tl}{b:Tl}{out:Tl}{ia ib:Nat}(h:uz)(e:ia=a.size):xAH (qd x1N++x1L):=by
 unfold MA at h;have e0:xKJ=[]:=HB (by simp [e]);rw [e0] at h;unfold cM;rw [G5,G5,xvg,xvg,e0,GU];exact h.endB
def MA.last {κ:KeyKind}{a:Tl}{b:Tl}{out:Tl}{ia ib:Nat}(h:uz)(e:ia+1=a.size)(hl:SW b.toList (SQ x x5k y x)):xAH (qd x1L++x1N):=by
 have h2:=h.pushB (k:=xAS ib) λ y hy x hx=>hl y (G8 (G9 hy)) x (by show LT (AI xGi ia (xVI e)) hx)
 unfold MA at h2;have e0:b.toList.drop (ib+(xAS ib))=[]:=HB (by simp;exact(bM LE DC LE Θ Ω));rw [e0] at h2;have h3:=h2.endA;unfold cM;rw [G5] at h3;rw [G5,G5,xvg,xvg];have e1:qp (xYg (ib+(xAS ib))) xDi:=by rw [xwe,xOo]
 show ρ e1 h3 h3
structure xxS (sq0 st':SortSt):Prop where
 k:kindOf st'=kindOf sq0
 a:xDI=jD
 p:x7F=xDk
 f:failedOf st'=failedOf sq0
def xxS.refl (sq0:SortSt):xxS sq0 sq0:=Wm rfl rfl
def xiw:Ct (bJ Unit):=sortPriv%PySem.Builtin.setMinGallop
def xs9 {prog:MY}{w:MZ}{A:M1}{E:AB}{s:MX}{st0 sq0:SortSt}{g:Nat}{Q:Unit->wD}(h0:xWk sq0)(h:∀st',xWk st'->xWF):ax (xiw g):=by
 refine wpS_modify (vZ ⟨h0.k,h0.a,h0.p,h0.f⟩)
def xiO {κ:KeyKind}{xs:Tl}(h:xYk){i j:Nat}(ZO:xCB)(hj:nD j):Ρ (YB j (xza i)):=by
 rw [eh hj,eh (GQ ZO hj)];show CM i j z z
 ·exact X5 h i j (by simp;exact JU z hj) (by simpa using hj) z
 ·show Dr i j (FA ZO z) lS
def xoG {prog:MY}{w:MZ}{A:M1}{E:AB}{s:MX}{κ:KeyKind}(hO:κ.OneLt){sq0:SortSt}{key:Keyed}{xs:Tl}{i n hint:Nat}{Q:j6->wD}(hk:lX)(hs:xYk)(NC:xTg p p)(PZ:xFY)(hn:xAk (i+n))(hh:hint<n)
  (h:∀k,xCy->(∀j,j<k->Ρ (VR (i+j)))->(∀j,O2 k->j<n->SB (VR (i+j)))->Q7 k):ax (xP0 false xs i n hint):=by
 have eb:∀j,xw8 κ false key xs j= ! VR j:=xP1 j
 refine xs7 hO hk hn hh PZ NC (λ p q XQ hq hb=>?_) λ k h1 h2 h3=>UE h1 Q1 (τ j hj Sg)
 ·rw [eb] at hb ⊢;have Ow:Ρ (VR (i+q)):=by show lz
  have:=xiO hs (show i+p≤i+q from IV.mpr XQ) (xN7 hq _ hn);cases e:VR (i+p) with
  |false=>rfl
  |true=>
   show Ed (xRp _ (i+q) _ e)
   ·show Μ Ow z z
   ·show Μ this z z
 ·show SK (h2 j hj) eb;show jk
 ·show SK (h3 j hj Sg) eb;show jk
def xoc {prog:MY}{w:MZ}{A:M1}{E:AB}{s:MX}{κ:KeyKind}(hO:κ.OneLt){sq0:SortSt}{key:Keyed}{xs:Tl}{i n hint:Nat}{Q:j6->wD}(hk:lX)(hs:xYk)(NC:xTg p p)(PZ:xFY)(hn:xAk (i+n))(hh:hint<n)
  (h:∀k,xCy->(∀j,j<k->SB (YB (i+j) xzD))->(∀j,O2 k->j<n->Ρ (YB (i+j) xzD))->Q7 k):ax (xP0 true xs i n hint):=by
 have eb:∀j,xw8 κ true key xs j=YB j xzD:=xP1 j
 refine xs7 hO hk hn hh PZ NC (λ p q XQ hq hb=>?_) λ k h1 h2 h3=>UE h1 Q1 (τ j hj Sg)
 ·rw [eb] at hb ⊢;have:=xiO hs (show i+p≤i+q from IV.mpr XQ) (xN7 hq _ hn);show Ed (xRp _ (i+p) _ hb)
  ·show Μ this z z
  ·exact z
 ·exact h2 j hj
 ·exact h3 j hj Sg
def xvw [xLn] {Q:α->wD}(hc:c)(h:df m1 Q):df (xWT m1 m2) Q:=by show rz hc h
def aM [xLn] {Q:α->wD}(hc:¬c)(h:df m2 Q):df (xWT m1 m2) Q:=by show iL hc h
def xx1 {M:Model}{A:M1}{E:AB}{s:MX}{α:Type}{c:Prop} [xLn] {m1 m2:bJ α}{Q:α->wD}{sq0:SortSt}(h1:df m1 Q)(h2:df m2 Q):df (xWT m1 m2) Q:=by
 by_cases hc:c
 ·exact xvw hc h1
 ·exact aM hc h2
def xug {xs:Tl}{i k:Nat}{x:Keyed}(h:x∈xXd):∃j,j<k/\∃hj:nD (i+j),x=xs[i+j]:=by
 obtain⟨j,hj⟩:=List.mem_iff_getElem?.mp h;rw [Mn] at hj
 split at hj
 ·rename_i hjk
  rw [Js] at hj;have M8:=Fg hj;refine⟨j,hjk,by simpa using M8,?_⟩;have:=(FR.mp hj).2;rw [<-this];rfl
 ·cases hj
def LoQ (κ:KeyKind)(a b:Tl)(st0:SortSt){β:Type}(low:Nat)(pr:Tl->jL (ZU β))(c:xS0×β)(sq0:SortSt):Prop:=
 xWk sq0/\((∃r,SL SV r/\xJo)\/∃out ia ib,Nd/\pr out ia ib Rd/\uz/\qD (ia+1)/\fE ib/\low≤ia+ib)
def LoP (κ:KeyKind)(a b:Tl)(sq0:SortSt)(y:Nat){γ δ ε:Type}(r:ForInStep (xS0×Tl×Nat×Nat×γ×δ×ε))(st':SortSt):Prop:=match r with
 | .done c'=>xBP a b (y+1+1) (λ out ia ib d=>∃g p q,d=(out,ia,ib,g,p,q)) c' st'
 | .yield c'=>xBP a b (y+1+1) (λ out ia ib d=>∃g p q,d=(out,ia,ib,g,p,q)) c' st'/\WF c'.1
def xeF {prog:MY}{w:MZ}{A:M1}{E:AB}{s:MX}{κ:KeyKind}{a:Tl}{b:Tl}(hO:κ.OneLt){sq0:SortSt}{Q:Tl->wD}(hk:lX)(ha:W6 p a.toList p)(hb:W6 p b.toList p)(sa:x5i)(sb:x5h)
  (na:qD 0) (nb:fE 0) (h0:Qf b[0] a[0]) (hl:SW b.toList (SQ x x5k y x)) (h:∀r st',xWH->xJo->Q r st'):
  ax (xhK a b):=by
 show Cf xEW
 extract_lets total done lastOfA ia0 ib0
 show Oj nb ?_
 extract_lets out0
 have hM0:xI7 out0 0 1:=MA.pushB1 (out:=#[]) (ia:=0) (ib:=0) ⟨sa,sb,WO⟩ na nb h0;by_cases e1:1=b.size
 ·refine cg (by simpa [ib0] using e1) (jv xD2 (hM0.doneB e1))
 refine Mk (by simpa [ib0] using e1);by_cases e2:0+1=a.size
 ·refine cg (by simpa [ia0] using e2) (jv xD2 (hM0.last e2 hl))
 refine Mk (by simpa [ia0] using e2);show iA
 extract_lets mg0
 show S9 (λ y c st'=>xBP a b (y+1) (λ out ia ib d=>∃mg,d=(out,ia,ib,mg)) c st'/\Nd) (Q:=λ c st'=>xWH/\∃r,SL SV r/\xJo) ?_ ?_ (xy2 xD2 ⟨out0,0,1,rfl,CY,hM0,Hm na e2,Z5,(vQ [] DW DW)⟩) ?_
 rotate_left
 ·rintro c st' ⟨⟨_,⟨r,e,_⟩|⟨out,ia,ib,_,_,_,q1,q2,q3⟩⟩,en⟩
  ·show hV
  ·exfalso;have:xTN=xAT:=by simp [total]
   exact(WT [_,_,_,_,_] (tV xzR 3 (kn 4 P3)) (A9 (Aw (rn Eo))) (Bb q1 q2 (Fx q3 wO)))
 ·rintro⟨c1,c2⟩ st' ⟨OR,r,e,hW⟩;show xEw e e;exact Gq (h r st' OR hW)
 rintro y c VV _ hy ⟨⟨hst1,⟨r,e,_⟩|⟨out1,ia1,ib1,_,⟨mg1,e2⟩,hM1,q1,q2,q3⟩⟩,en⟩
 ·show hV
 show xDG c1 c2 c en e2;subst en e2;show S9 (λ x c st'=>xBP a b (y+1+x) (λ out ia ib d=>∃p q,d=(out,ia,ib,p,q)) c st'/\Nd) (Q:=λ c st'=>xBP a b (y+1+1) (λ out ia ib d=>∃p q,d=(out,ia,ib,p,q)) c st') ?_ ?_ (xy2 hst1 ⟨out1,ia1,ib1,rfl,DS,hM1,q1,q2,q3⟩) ?_
 ·rintro x c Qw _ hx ⟨⟨OC,⟨r,e,_⟩|⟨YD,ZF,ib2,_,⟨p2,r2,e2⟩,Yo,t1,t2,t3⟩⟩,en⟩
  ·show hV
  show xDG c1 c2 c en e2;subst en e2;show Oj t2 (xLf (xAQ ZF xAq) (wpS_bind (xOv x5R xUw (ha _ Z6) ?_)));cases e:Y7 b[ib2] a[ZF] with
  |true=>
   have VC:=Yo.pushB1 (yI cW On t1) t2 e;refine xvw rfl (xLf t2 ?_);by_cases hz:ib2+1=b.size
   ·refine et hz OC (VC.doneB hz)
   ·refine xHS OC ⟨_,ZF,ib2+1,rfl,DS,VC, sP,QT t2,(By [_,_,_,_] (lF Be) Θ cW W7 t3)⟩ (kG OC ⟨_,ZF,ib2+1,rfl,DS,VC,HK t1,QT t2,Je t3⟩)
  |false=>
   have VC:=Yo.pushA1 (yI cW On t1) t2 e;refine xMS (xLf (xAQ ZF (yI cW On t1)) ?_);by_cases hz:ZF+1+1=a.size
   ·refine et hz OC (VC.last hz hl)
   ·refine xHS OC ⟨_,ZF+1,ib2,rfl,DS,VC,QT t1, sP,(By [_,_,_,_] (lF Be) Θ cW (pV Ψ) t3)⟩ (kG OC ⟨_,ZF+1,ib2,rfl,DS,VC,QT t1,HK t2,(By [_,_,_,_] xzW Eo xzZ (pO Be) t3)⟩)
 ·rintro c st' ⟨⟨_,⟨r,e,_⟩|⟨out,ia,ib,_,_,_,t1,t2,t3⟩⟩,en⟩
  ·show hV
  ·exfalso;have:xTN=xAT:=by simp [total]
   exact(WT [_,_,_,_,_,_] (tV (AJ Y2) 4 (.a (pO vI) P3)) (A9 (Aw (.a yE vI))) (Bb t1 t2 (Fx t3 wO)))
 rintro⟨c1,c2⟩ Qw ⟨OC,⟨r,e,hW⟩|⟨YD,ZF,ib2,e,⟨p2,r2,e2⟩,Yo,t1,t2,t3⟩⟩
 ·show xEw e e;exact Gq (VT OC r hW)
 dsimp only at e e2;subst e e2;show Cf xEW;show S9 (λ x c st'=>xBP a b (y+1+1) (λ out ia ib d=>∃g p q,d=(out,ia,ib,g,p,q)) c st'/\Nd) (Q:=λ c st'=>xBP a b (y+1+1) (λ out ia ib d=>∃g p q,d=(out,ia,ib,g,p,q)) c st') ?_ ?_ (xy2 OC ⟨YD,ZF,ib2,rfl,pE _ _,Yo,t1,t2,t3⟩) ?_
 ·clear Yo t1 t2 t3 hM1 q1 q2 q3;rintro x c Ot _ hx ⟨⟨TN,⟨r,e,_⟩|⟨VG,XM,XJ,_,⟨g3,p3,r3,e2⟩,Yn,t1,t2,t3⟩⟩,en⟩
  ·show hV
  show xDG c1 c2 c en e2;subst en e2
  extract_lets v1 v2 v3 v4 v5 v6 v7 v8 v9 v10 v11 Xb jp
  have Yj:∀g,mW (xWV g) (LoP κ a b sq0 y) Ot:=by
   intro g;show Cf (xs9 TN λ Pd Om=>xLf t2 (wpS_bind (xoG hO xQ5 sa ha xUw (Fz (xNl xAq)) (show 0<a.size-XM from Nat.zero_lt_sub_of_lt (Gi t1)) λ k f1 f2 f3=>?_)));have f1':k≤a.size-XM:=f1;show xFt hM4 (xI7 (VG++a.extract XM (XM+k)) (XM+k) XJ) (Yn.pushA λ x hx y hy=>by
    show pU j hj Sg (xug hx);show wB (f2 j hj) (eh Sg) (zE this (xr7 t2 Yn.sb hy)))
   extract_lets u1 jp2
   have Us:∀out ia,MA κ a b out ia XJ->∀Xh:qD (ia+1),Qf b[XJ] a[ia]->y+1+1≤ia+XJ->mW (xUE out ia) (LoP κ a b sq0 y) Pd:=by
    intro out ia hM Xh M8 TU;show Oj t2 ?_;have hM5:=hM.pushB1 xNK t2 M8;by_cases hz:XJ+1=b.size
    ·refine xJw (hM5.doneB hz)
    refine xPf;have t2':=QT t2;show Oj (xAQ ia xNK) (wpS_bind (xoc hO xQ5 sb hb (ha _ Z6) (Fz (Hh t2)) (Kb t2') λ k2 d1 d2 d3=>?_));show xFt d1' (k2≤xAS (XJ+1)) d1
    extract_lets w1 w2 jp3
    have Ur:∀out ib,uz->∀hib:fE ib,E3 a[ia] b[ib]->y+1+1≤ia+ib->mW (jp3 () out ib) (LoP κ a b sq0 y) Pd:=by
     intro out ib hM hib hle TU;show Oj (xAQ ia xNK) ?_;have hM6:=hM.pushA1 xNK hib hle;have hw:=FK TU (HN (Jk ia) ib);by_cases hz:ia+1+1=a.size
     ·refine xJw (hM6.last hz hl)
     refine xHS Om ⟨_,ia+1,ib,rfl,pE _ _,hM6,QT Xh,hib,hw⟩ (kG Om ⟨_,ia+1,ib,rfl,pE _ _,hM6,QT Xh,hib,hw⟩)
    clear_value jp3
    by_cases Qx:k2>0
    ·refine xId Qx;have hM7:=hM5.pushB (k:=k2) λ y hy x hx=>by
      show pU j hj Sg (xug hy);show wB (d2 j hj) (eh Sg) (xOL this (xr7 (xAQ ia xNK) hM5.sa hx))
     by_cases Sm:XJ+1+k2=b.size
     ·refine et Sm Om (hM7.doneB Sm)
     ·have Si:=Hm (LC t2 d1') Sm;refine aM (Re (Sm ig)) (Ur _ (XJ+1+k2) hM7 Si ?_ (FK TU (Jl (FK yu rQ) _)));show zh (d3 k2 UV (xQB Si)) (eh Si)
    ·refine aM Qx (Ur _ (XJ+1) hM5 t2' ?_ (FK TU (Jl yu _)));show zh (d3 0 (Hg Qx) (Kb t2')) (eh (show fE (XJ+1+0) from t2'))
   clear_value jp2
   by_cases Qx:k>0
   ·refine xId Qx;by_cases hz:XM+k+1=a.size
    ·refine xJw (hM4.last hz hl)
    refine xPf;by_cases Sm:XM+k=a.size
    ·refine et Sm Om (hM4.doneA Sm)
    ·have Su:=Hm (LC (Gi xAq) f1') Sm;refine aM (Re (Sm ig)) (Us _ (XM+k) hM4 (QT Su) ?_ (FK t3 (HN rQ _)));show zh (f3 k UV (xQB Su)) (eh Su)
   ·refine aM Qx (Us _ XM Yn t1 ?_ t3);show zh (f3 0 (Hg Qx) (Kb xAq)) (eh (xAQ (XM+0) xAq))
  clear_value jp
  exact xx1 (Jf (Yj _) λ r st' q=>by cases r<;>exact q) (Jf (Yj _) λ r st' q=>by cases r<;>exact q)
 ·rintro c st' ⟨q,_⟩;exact q
 rintro⟨c1,c2⟩ Ot ⟨TN,⟨r,e,hW⟩|⟨VG,XM,XJ,e,⟨g3,p3,r3,e2⟩,Yn,u1,u2,u3⟩⟩
 ·show xEw e e;exact Gq (VT TN r hW)
 dsimp only at e e2;subst e e2;exact wpS_bind (xs9 TN λ Pd Om=>kG Om ⟨VG,XM,XJ,rfl,CY,Yn,u1,u2,u3⟩)
def MH (κ:KeyKind)(a b out:Tl)(na nb:Nat):Prop:=Mh κ.blt WU (a.toList++b.toList) xYw xYx out.toList.reverse
def MH.sa {κ:KeyKind}{a:Tl}{b:Tl}{out:Tl}{na nb:Nat}(h:xBu):yY xYw:=xDW.1
def MH.sb {κ:KeyKind}{a:Tl}{b:Tl}{out:Tl}{na nb:Nat}(h:xBu):yY xYx:=xDX.1
def xoi {xs:Tl}{i:Nat}(h:xIS):xKT i 1=x6f++[xs[i]]:=by
 have h':xZs i:=by show kY
 rw [HC,FL h'];rfl
def xr1 {κ:KeyKind}{xs:Tl}{i:Nat}(h:xIS)(s:yY (xKT i 1)){y:Keyed}(hy:y∈xKT i 1):E3 y xs[i]:=by
 rw [xoi h] at s hy;show BD hy
 ·exact CJ (F5.mp s) y z _ Z6
 ·show Dr y xs[i] (by show xGt) lS
def xwy {xs:Tl}{i n:Nat}(h:xJp):xDg i n=oM xyr n i:=by
 rw [LS,KP]
def xlE {xs:Tl}{i n:Nat}(h:xJp):x6f++xDg i n=xs.toList.take n:=by
 rw [xwy h];have:n=i+(n-i):=JG (Hh h);rw(config:={occs:=.pos [2]}) [this];rw [MF]
def xrQ {xs:Tl}{i n:Nat}{x:Keyed}(hin:xJp)(hn:xAk n)(h:x∈xDg i n):∃j,xCB/\∃hj:j<n,x=xs[j]:=by
 rw [xwy hin] at h;show Bj j hj Sg rfl (xug h) ⟨i+j,rQ,Ic hj,rfl⟩
theorem MH.pushA {κ:KeyKind}{a:Tl}{b:Tl}{out:Tl}{na nb at':Nat}(h:xBu)(hat:at'≤na)(hX:SW xYx (SQ x (xLx at').toList y x)):xCs (x2b (xLx at')) at' nb:=by
 show va MH;rw [<-xlE hat] at h;rw [G5,JM,Jd,II];exact Mh.pushA tI h hX
theorem MH.pushB {κ:KeyKind}{a:Tl}{b:Tl}{out:Tl}{na nb at':Nat}(h:xBu)(hat:at'≤nb)(hY:yT xYw (uX y (xLy at').toList x y)):xCs (x2b (xLy at')) na at':=by
 show va MH;rw [<-xlE (xs:=b) hat] at h;rw [G5,JM,Jd,II];exact Mh.pushB h hY
def xpi {out xs:Tl}{i:Nat}(h:xIS):xE7 xs i=x2b (x8C (i+1)):=by
 apply Array.toList_inj.mp;rw [MC,G5,Jd,xwe,xvj h];rfl
def MH.pushA1 {κ:KeyKind}{a:Tl}{b:Tl}{out:Tl}{i j:Nat}(h:xFG (i+1) (j+1))(hi:qD i)(hj:fE j)(hl:Qf b[j] a[i]):xCs (xE7 a i) i (j+1):=by
 show Η (xpi hi) (h.pushA xV4 λ y hy x hx=>?_)
 show pU q q1 q2 (xrQ xF0 sP hx);show Dr q i (Nat.eq_of_le_of_lt_succ q1 q2) (xqC tI (xr1 hj h.sb hy) hl)
def MH.pushB1 {κ:KeyKind}{a:Tl}{b:Tl}{out:Tl}{i j:Nat}(h:xFG (i+1) (j+1))(hi:qD i)(hj:fE j)(hl:E3 a[i] b[j]):xCs (xE7 b j) (i+1) j:=by
 show Η (xpi hj) (h.pushB xF0 λ x hx y hy=>?_)
 show pU q q1 q2 (xrQ xF0 sP hy);show Dr q j (xCR On Os q2 q1) (zE (xr1 hi h.sa hx) hl)
def MH.doneA {κ:KeyKind}{a:Tl}{b:Tl}{out:Tl}{na nb:Nat}(h:xBu)(e:na=0):xAH (xLx 0++xLy 0++out.reverse):=by
 subst e;unfold MH at h;rw [JA] at h;unfold cM;rw [G5,G5,Jd,xOP,xOP,Iy,Iy,Ki,Ki,JA,Hl];exact h.endB
def MH.doneB {κ:KeyKind}{a:Tl}{b:Tl}{out:Tl}{na nb:Nat}(h:xBu)(e:nb=0):xAH (xLx 0++xLy 0++out.reverse):=by
 subst e;unfold MH at h;rw [JA] at h;unfold cM;rw [G5,G5,Jd,xOP,xOP,Iy,Iy,Ki,Ki,JA,GU];exact h.endA
def MH.first {κ:KeyKind}{a:Tl}{b:Tl}{out:Tl}{na nb:Nat}(h:xBu)(e:nb=1)(hf:SW x6I (SQ x a.toList y x)):xAH (xLy 0++xLx 0++out.reverse):=by
 subst e;have h2:=h.pushA (at':=0) AM λ y hy x hx=>hf y hy x (by rw [xOP,Iy] at hx;exact xE8)
 unfold MH at h2;rw [JA,G5,JM,Jd,II] at h2;have h3:=h2.endB;unfold cM;rw [G5,G5,Jd,FJ];rw [xwy (xs:=b) AM,Iy,Ki];exact h3
def HiQ (κ:KeyKind)(a b:Tl)(st0:SortSt){β:Type}(low:Nat)(pr:Tl->jL (ZU β))(c:xS0×β)(sq0:SortSt):Prop:=
 xWk sq0/\((∃r,SL SV r/\xJo)\/∃out i j,Nd/\pr out (i+1) (j+1) Rd/\xFG (i+1) (j+1)/\qD i/\fE j/\0<j/\i+1+(j+1)+low≤xAT)
def HiP (κ:KeyKind)(a b:Tl)(sq0:SortSt)(y:Nat){γ δ ε:Type}(r:ForInStep (xS0×Nat×Nat×Tl×γ×δ×ε))(st':SortSt):Prop:=match r with
 | .done c'=>xBQ a b (y+1+1) (λ out ia ib d=>∃g p q,d=(ia,ib,out,g,p,q)) c' st'
 | .yield c'=>xBQ a b (y+1+1) (λ out ia ib d=>∃g p q,d=(ia,ib,out,g,p,q)) c' st'/\WF c'.1
def xeQ {prog:MY}{w:MZ}{A:M1}{E:AB}{s:MX}{κ:KeyKind}{a:Tl}{b:Tl}(hO:κ.OneLt){sq0:SortSt}{Q:Tl->wD}(hk:lX)(ha:W6 p a.toList p)(hb:W6 p b.toList p)(sa:x5i)(sb:x5h)
  (na:qD 0) (nb:fE 0) (hf:SW x6I (SQ x a.toList y x)) (hl:Qf b[xAS 1] a[xGi]) (h:∀r st',xWH->xJo->Q r st'):
  ax (xhJ a b):=by
 show xyH ma Yg ma (a.size=ma+1) ⟨xGi,xUF na rfl⟩;show xyH mb hmb mb (b.size=mb+1) ⟨xAS 1,BC (BX LE Ψ LE Ψ Ω) (BX Ψ LE Ψ LE (mF DW AU nb))⟩;have M8:Qf (b[mb]'(xZP)) (a[ma]'(xSh)):=by
  have e1:xAS 1=mb:=xVI hmb.symm;have e2:xGi=ma:=xVI Yg.symm;simp only [e1,e2] at hl;exact hl
 have hM00:xCs #[] (ma+1) (mb+1):=by
  unfold MH;have e1:a.toList.take (ma+1)=a.toList:=Gh (by simp;exact Fz Yg);have e2:b.toList.take (mb+1)=b.toList:=Gh (by simp;exact Fz hmb);rw [e1,e2];exact⟨by simpa using sa,by simpa using sb,by simpa using WO⟩
 have hM0:xCs #[a[ma]'(xSh)] ma (mb+1):=hM00.pushA1 xSh xZP M8;show Cf xEW
 extract_lets total done firstOfB na0 nb0
 have ena:na0=ma:=by show xGi=ma;exact xVI Yg.symm
 have enb:nb0=mb+1:=hmb
 clear_value na0 nb0
 subst ena enb;show Oj (xAQ na0 xSh) ?_
 extract_lets out0
 by_cases e1:na0=0
 ·refine xKx e1 (jv xD2 (hM0.doneA e1))
 refine xFF (e1 ig);by_cases e2:mb+1=1
 ·refine xKx e2 (jv xD2 (hM0.first e2 hf))
 refine xFF (e2 ig);show x5 i0 i0 (na0=i0+1) ⟨na0-1,xNm e1⟩;show iA
 extract_lets mg0
 show S9 (λ y c st'=>xBQ a b (y+1) (λ out ia ib d=>∃mg,d=(ia,ib,out,mg)) c st'/\Nd) (Q:=λ c st'=>xWH/\∃r,SL SV r/\xJo) ?_ ?_ (xy2 xD2 ⟨out0,i0,mb,rfl,CY,hM0,(yI cW On (Fz Yg.symm)),xZP,Z5,(B7 [_,_,_,_] Ψ cW ml (.a xzZ DW) Eo (Fz hmb.symm) (Fz Yg.symm))⟩) ?_
 rotate_left
 ·rintro c st' ⟨⟨_,⟨r,e,_⟩|⟨out,i,j,_,_,_,q1,q2,q3,q4⟩⟩,en⟩
  ·show hV
  ·exfalso;have:xTN=xAT:=by simp [total]
   exact(WT [_,_,_,_,_] (.a (.a (pO Y2) (Vh 4 1)) P3) (rn P3) (Fx q4 wO))
 ·rintro⟨c1,c2⟩ st' ⟨OR,r,e,hW⟩;show xEw e e;exact Gq (h r st' OR hW)
 clear hM0 hM00;rintro y c VV _ hy ⟨⟨hst1,⟨r,e,_⟩|⟨out1,i1,j1,_,⟨mg1,e2⟩,hM1,q1,q2,q3,q4⟩⟩,en⟩
 ·show hV
 show xDG c1 c2 c en e2;subst en e2;show S9 (λ x c st'=>xBQ a b (y+1+x) (λ out ia ib d=>∃p q,d=(ia,ib,out,p,q)) c st'/\Nd) (Q:=λ c st'=>xBQ a b (y+1+1) (λ out ia ib d=>∃p q,d=(ia,ib,out,p,q)) c st') ?_ ?_ (xy2 hst1 ⟨out1,i1,j1,rfl,DS,hM1,q1,q2,q3,q4⟩) ?_
 ·rintro x c Qw _ hx ⟨⟨OC,⟨r,e,_⟩|⟨YD,i2,j2,_,⟨p2,r2,e2⟩,Yo,t1,t2,t3,t4⟩⟩,en⟩
  ·show hV
  show xDG c1 c2 c en e2;subst en e2;show Cf (xS6 j2 t2 (xS6 i2 t1 (xOv x5R xUw (ha _ Z6) ?_)));cases e:Y7 b[j2] a[i2] with
  |true=>
   have VC:=Yo.pushA1 t1 t2 e;refine xSi rfl (xzJ i2 t1 ?_);by_cases hz:i2=0
   ·refine et hz OC (VC.doneA hz)
   ·show x5 i3 i3 (i2=i3+1) ⟨i2-1,xNm hz⟩;refine xHS OC ⟨_,i3,j2,rfl,DS,VC,xAq, sP, sP,(By [_,_,_,_,_,_] (xAz (.a cW Ψ) vI) yE (.a xzZ xzR) yE t4)⟩ (kG OC ⟨_,i3,j2,rfl,DS,VC,xAq,(xFH t2),Nat.zero_lt_of_lt t3,(By [_,_,_,_,_,_] (xAz (.a cW Ψ) Be) xEU (xAz xzZ Y2) xEU t4)⟩)
  |false=>
   have VC:=Yo.pushB1 t1 t2 e;refine xMS (wpS_bind (xzJ j2 t2 ?_));by_cases hz:j2=1
   ·refine et hz OC (VC.first hz hf)
   ·show x5 j3 j3 (j2=j3+1) ⟨j2-1,xUF t3 rfl⟩;refine xHS OC ⟨_,i2,j3,rfl,DS,VC, sP,Hx t2,Z5,(By [_,_,_,_,_,_] (xAz (lF (AJ Ψ)) vI) yE (.a xzZ xzR) yE t4)⟩ (kG OC ⟨_,i2,j3,rfl,DS,VC,(xFH t1),Hx t2,Z4,(By [_,_,_,_,_,_] (xAz (lF (AJ Ψ)) Be) xEU (xAz xzZ Y2) xEU t4)⟩)
 ·rintro c st' ⟨⟨_,⟨r,e,_⟩|⟨out,i,j,_,_,_,t1,t2,t3,t4⟩⟩,en⟩
  ·show hV
  ·exfalso;have:xTN=xAT:=by simp [total]
   exact(WT [_,_,_,_,_,_] (.a (xAz (xI1 (Vh 4 1)) vI) P3) (xR8 vI) (Fx t4 wO))
 rintro⟨c1,c2⟩ Qw ⟨OC,⟨r,e,hW⟩|⟨YD,i2,j2,e,⟨p2,r2,e2⟩,Yo,t1,t2,t3,t4⟩⟩
 ·show xEw e e;exact Gq (VT OC r hW)
 dsimp only at e e2;subst e e2;show Cf xEW;show S9 (λ x c st'=>xBQ a b (y+1+1) (λ out ia ib d=>∃g p q,d=(ia,ib,out,g,p,q)) c st'/\Nd) (Q:=λ c st'=>xBQ a b (y+1+1) (λ out ia ib d=>∃g p q,d=(ia,ib,out,g,p,q)) c st') ?_ ?_ (xy2 OC ⟨YD,i2,j2,rfl,pE _ _,Yo,t1,t2,t3,t4⟩) ?_
 ·clear Yo t1 t2 t3 t4 hM1 q1 q2 q3 q4;rintro x c Ot _ hx ⟨⟨TN,⟨r,e,_⟩|⟨VG,i3,j3,_,⟨g3,p3,r3,e2⟩,Yn,t1,t2,t3,t4⟩⟩,en⟩
  ·show hV
  show xDG c1 c2 c en e2;subst en e2
  extract_lets v1 v2 v3 v4 v5 v6 v7 v8 v9 v10 v11 Xb jp
  have Yj:∀g,mW (xWV g) (HiP κ a b sq0 y) Ot:=by
   intro g;show Cf (xs9 TN λ Pd Om=>wpS_bind (xS6 j3 t2 (xoG (i:=0) (n:=i3+1) (hint:=i3) hO xQ5 sa ha xUw (W4 (HG _) t1) (Lr _) λ k f1 f2 f3=>?_)));show xFt hM4 (xCs (VG++(a.extract k (i3+1)).reverse) k (j3+1)) (Yn.pushA f1 λ y hy x hx=>by
    show pU q q1 q2 (xrQ f1 sP hx);show zc (f3 q q1 sP) HG (eh (FN q2 t1));exact xqC tI (xr1 t2 Yn.sb hy) this)
   extract_lets u1 u2 jp2
   have Us:∀out i,xFG (i+1) (j3+1)->∀hi:qD i,E3 a[i] b[j3]->i+1+(j3+1)+(y+1+1)≤xAT->mW (xUE (i+1) out) (HiP κ a b sq0 y) Pd:=by
    intro out i hM hi hle TU;show Cf (xzJ j3 t2 ?_);have hM5:=hM.pushB1 hi t2 hle;by_cases hz:j3=1
    ·refine xJw (hM5.first hz hf)
    refine xPf;show x5 j4 j4 (j3=j4+1) ⟨j3-1,xUF t3 rfl⟩;show Cf (xS6 i hi (xoc (i:=0) (n:=j4+1) (hint:=j4) hO xQ5 sb hb (ha _ Z6) (W4 (HG _) (Gi t2)) (Lr _) λ k2 d1 d2 d3=>?_));dsimp-zeta only
    extract_lets w1 w2 w3 jp3
    have Ur:∀out j,xFG (i+1) (j+1)->∀hj:fE j,0<j->Qf b[j] a[i]->i+1+(j+1)+(y+1+1)≤xAT->mW (jp3 () (j+1) out) (HiP κ a b sq0 y) Pd:=by
     intro out j hM hj hj0 M8 TU;show Cf (xzJ i hi ?_);have hM6:=hM.pushA1 hi hj M8;by_cases hz:i=0
     ·refine xJw (hM6.doneA hz)
     show x5 i5 i5 (i=i5+1) ⟨i-1,xNm hz⟩;have hw:=FK (HN (HN yu _) _) TU;refine xHS Om ⟨_,i5,j,rfl,pE _ _,hM6,Hx hi,hj,hj0,hw⟩ (kG Om ⟨_,i5,j,rfl,pE _ _,hM6,Hx hi,hj,hj0,hw⟩)
    clear_value jp3
    have QA:∀q,q+1=k2->∀hq:fE q,Qf b[q] a[i]:=λ q hq Sf=>by
     show xP9 (d2 q (xzc hq)) HG (eh Sf)
    by_cases Qx:j4+1-k2>0
    ·refine xId Qx;have hM7:=hM5.pushB (at':=k2) d1 λ x hx y hy=>by
      show pU q q1 q2 (xrQ d1 (Gi t2) hy);show zc (d3 q q1 q2) HG (eh (JU q2 t2));exact zE (xr1 hi hM5.sa hx) this
     by_cases Sm:k2=1
     ·refine et Sm Om (hM7.first Sm hf)
     refine xFF (Sm ig);by_cases hz3:k2=0
     ·refine et hz3 Om (hM7.doneB hz3)
     refine xFF (hz3 ig);show x5 k3 k3 (k2=k3+1) ⟨k2-1,xNm hz3⟩;exact Ur _ k3 hM7 (JU d1 t2) (K4 (Re (Sm (xKK z)))) (QA k3 rfl _) (FK (HN (Jl (Mx d1) _) _) TU)
    ·refine Mk Qx;exact Ur _ j4 hM5 (Hx t2) (K4 (Re (hz (xKK z)))) (QA j4 (FA (xC7 (JN Qx)) d1) _) (FK (HN (Jl yu _) _) TU)
   clear_value jp2
   have QA:∀q,q+1=k->∀hq:qD q,E3 a[q] b[j3]:=λ q hq Sf=>by
    show xP9 (f2 q (xzc hq)) HG (eh Sf)
   by_cases Qx:i3+1-k>0
   ·refine xId Qx;by_cases hz:k=0
    ·refine xJw (hM4.doneA hz)
    refine xPf;show x5 k3 k3 (k=k3+1) ⟨k-1,xNm hz⟩;exact Us _ k3 hM4 (FN f1 t1) (QA k3 rfl _) (FK (HN (HN f1 _) _) t4)
   ·refine Mk Qx;exact Us _ i3 Yn t1 (QA i3 (FA (xC7 (JN Qx)) f1) _) t4
  clear_value jp
  exact xx1 (Jf (Yj _) λ r st' q=>by cases r<;>exact q) (Jf (Yj _) λ r st' q=>by cases r<;>exact q)
 ·rintro c st' ⟨q,_⟩;exact q
 rintro⟨c1,c2⟩ Ot ⟨TN,⟨r,e,hW⟩|⟨VG,i3,j3,e,⟨g3,p3,r3,e2⟩,Yn,u1,u2,u3,u4⟩⟩
 ·show xEw e e;exact Gq (VT TN r hW)
 dsimp only at e e2;subst e e2;exact wpS_bind (xs9 TN λ Pd Om=>kG Om ⟨VG,i3,j3,rfl,CY,Yn,u1,u2,u3,u4⟩)
def xg8 {prog:MY}{w:MZ}{A:M1}{E:AB}{s:MX}{κ:KeyKind}(hO:κ.OneLt){sq0:SortSt}{key:Keyed}{xs:Tl}{i n hint:Nat}{Q:j6->wD}(hk:lX)(hs:∀p q,p≤q->q<n->Ρ (YB (i+q) (xza (i+p))))(NC:xTg p p)(PZ:xFY)(hn:xAk (i+n))(hh:hint<n)
  (h:∀k,xCy->(∀j,j<k->Ρ (VR (i+j)))->(∀j,O2 k->j<n->SB (VR (i+j)))->Q7 k):ax (xP0 false xs i n hint):=by
 have eb:∀j,xw8 κ false key xs j= ! VR j:=xP1 j
 refine xs7 hO hk hn hh PZ NC (λ p q XQ hq hb=>?_) λ k h1 h2 h3=>UE h1 Q1 (τ j hj Sg)
 ·rw [eb] at hb ⊢;have Ow:Ρ (VR (i+q)):=by show lz
  have:=hs p q XQ hq;cases e:VR (i+p) with
  |false=>rfl
  |true=>
   show Ed (xRp _ (i+q) _ e)
   ·show Μ Ow z z
   ·show Μ this z z
 ·show SK (h2 j hj) eb;show jk
 ·show SK (h3 j hj Sg) eb;show jk
def xhx {prog:MY}{w:MZ}{A:M1}{E:AB}{s:MX}{κ:KeyKind}(hO:κ.OneLt){sq0:SortSt}{key:Keyed}{xs:Tl}{i n hint:Nat}{Q:j6->wD}(hk:lX)(hs:∀p q,p≤q->q<n->Ρ (YB (i+q) (xza (i+p))))(NC:xTg p p)(PZ:xFY)(hn:xAk (i+n))(hh:hint<n)
  (h:∀k,xCy->(∀j,j<k->SB (YB (i+j) xzD))->(∀j,O2 k->j<n->Ρ (YB (i+j) xzD))->Q7 k):ax (xP0 true xs i n hint):=by
 have eb:∀j,xw8 κ true key xs j=YB j xzD:=xP1 j
 refine xs7 hO hk hn hh PZ NC (λ p q XQ hq hb=>?_) λ k h1 h2 h3=>UE h1 Q1 (τ j hj Sg)
 ·rw [eb] at hb ⊢;have:=hs p q XQ hq;show Ed (xRp _ (i+p) _ hb)
  ·show Μ this z z
  ·exact z
 ·exact h2 j hj
 ·exact h3 j hj Sg
theorem xpg (o:Nat):∀(r:U4) (n:Nat) (xs:Tl),xAk (o+n+r.length)->
  qp ((r.zipIdx n).foldl (λ a x=>x7Y (o+zy)) xs) (xKT o n++r++xRJ (o+n) r.length)
 | [],n,xs,h=>by simp
 |x::r,n,xs,h=>by
  rw [F2] at h;have M8:xZs (o+n):=by simp;exact Nat.lt_of_add_right_lt h
  rw [List.zipIdx_cons,List.foldl_cons,xpg o r (n+1) _ (by show LT KZ (By [_,_,_,_] xUt Be (pV EA) Be h)),Ml];have e1:(xs.toList.set (o+n) x).take (o+(n+1))=xKT o n++DM:=by
   rw [show o+(n+1)=o+n+1 by exact EN [_,_] EA qH [_,_] qH EA,HC,IB M8,List.take_set_of_le UV];rfl
  have e2:(xs.toList.set (o+n) x).drop (o+(n+1)+r.length)=xRJ (o+n) (r.length+1):=by
   rw [List.drop_set_of_lt Z5];congr 1;exact EN [_,_,_] (pV EA) xUt [_,_,_] xUt (pV EA)
  rw [e1,e2,F2];simp [FJ]
def xvZ {κ:KeyKind}{xs:Tl}{P X S:U4}(e:xAl (P++X++S)){j:Nat}(hj:Em j):xza YW=WU X[j]:=by
 have M8:nD YW:=by
  have:xs.toList.length=xs.size:=Z6;rw [<-this,e];simp;exact MO _ hj
 rw [eh M8];congr 1;have:xs[YW]=xs.toList[YW]'(by simpa using M8):=Z6;rw [this];simp only [e];rw [Kf (by show xL5),Jm Z5];congr 1;exact xIc _
def xrO {xs:Tl}(e:xAl (P++X++S))(hj:Em j):∃M8:nD YW,xs[YW]=X[j]:=by
 have M8:nD YW:=by
  have:xs.toList.length=xs.size:=Z6;rw [<-this,e];simp;exact MO _ hj
 refine Fh M8;have:xs[YW]=xs.toList[YW]'(by simpa using M8):=Z6;rw [this];simp only [e];rw [Kf (by show xL5),Jm Z5];congr 1;exact xIc _
def xou {xs:Tl}{P X S:U4}(e:xAl (P++X++S)){i n:Nat}(hi:xJp)(hn:n≤X.length):xDg (zH i) (zH n)=oM (X.drop i) n i:=by
 rw [xwy (IV.mpr hi),e,AI (zH n-(zH i)) (n-i) (Nat.add_sub_add_left _ _ _)];rw [FJ,<-Ih,Ks,Iv (FK hi hn),Hy (by simp;exact(qe [_,_,_,_] qE (DX Θ) Θ hn Ω))]
def xmE {κ:KeyKind}{xs:Tl}{P X S:U4}(e:xAl (P++X++S))(h:x7R)(p q:Nat)(XQ:p≤q)(hq:Em q):Ρ (YB (zH q) (xza (zH p))):=by
 rw [xvZ e hq,xvZ e (show Em p from GQ XQ hq)];show CM p q z z
 ·exact X5 h p q (JU z hq) hq z
 ·show Dr p q (FA XQ z) lS
universe SG
namespace SM
theorem xsm {α:Type}{p:lD α}:∀{ys:DU},(∃y∈ys,SB (p y))->∃l1 y l2,ys=l1++y::l2/\SB (p y)/\∀z∈l1,¬SB (p z)
 | [],h=>by obtain⟨y,hy,_⟩:=h;cases hy
 |z::ys,h=>by
  by_cases hz:SB (p z)
  ·exact Tf [] z ys hz (jJ h h)
  ·obtain⟨y,hy,hp⟩:=h;show sH hy hy
   ·show AX hp hz
   ·obtain⟨l1,y,l2,e,h1,h2⟩:=xsm ⟨y,hy,hp⟩;refine⟨z::l1,y,l2,by show Dn,h1,SC u hu⟩;show sH hu hu
    ·exact hz
    ·exact h2 u hu
theorem xwL {kf:α->κ}(O:xU2):∀{xs ys:DU},xBq->xs.Perm ys
 | [],ys,h=>by
  cases ys with
  |nil=>show yQ
  |cons y ys=>have:=x1M (Gb);cases this
 |x::xs,ys,h=>by
  have hx:=xLo h (Gb);obtain⟨l1,y,l2,rfl,hy,h1⟩:=xsm ⟨x,hx,xIb⟩;have e:=h vG;have n1:l1.filter xVi=[]:=IA.mpr h1;rw [Gm xIb,Gw,n1,Hl,Gm hy] at e;show S8 rfl e2 (K8 e) ht (xR4 (l1++l2)) (λ k=>by
   by_cases hk:iS k x
   ·have z:=x2n;show wX (vG=k) (xU4 _ i6 CE);rw [Gw,n1,Hl];exact e2
   ·have e3:=UE;rw [gZ,Gw,gZ] at e3;show LT Gw e3)
  exact(List.Perm.cons x (xwL O ht)).trans Kp.symm
universe SM
namespace SG
open PySem PyProof.Rows SM
def xgf {xs:Tl}(h:nD 0):xs[0]∈xs.toList.take 1:=by
 show SK (xoi (xs:=xs) (i:=0) h) HG;show CR this
def xgS {xs:Tl}(h:nD 0):xs[xs.size-1]∈xs.toList.drop (xs.size-1):=by
 show CR (xvj (show nD (xs.size-1) from(xFH (mF DW AU h))))
def xah {A:M1}{E:AB}{s:MX}{M:Model}{σ:Type}{x:σ}{Q:NK PUnit σ}{sq0:σ}(h:Q ⟨⟩ x):df (set x:StateT σ Sem PUnit) Q:=by
 show Rq wpS StateT.run_set (xWs h)
def xeG {prog:MY}{w:MZ}{A:M1}{E:AB}{s:MX}{κ:KeyKind}(hO:κ.OneLt){sq0:SortSt}{i:Nat}{P X Y S:U4}{pw pw2:Nat}{Q:Bool->wD}(hk:lX)(hf:xyQ sq0)(NC:W6 p jM p)
  (e:jM=P++X++Y++S) (hX:x7R) (hY:xRz) (nX:Em 0) (nY:xWW 0)
  (p1:A7 (xDk) (P.length,X.length,pw)) (p2:Aq (xDk) (i+1) (oA,Y.length,pw2))
  (h:∀st' Z,kindOf st'=oneType'->xyQ st'->x7F=xQW (x54 i (P.length,gD,pw)) i 1->qp xDI (P++Z++S)->Z.Pairwise E3->Wj Z (X++Y)->xAo st'):
  ax (mergeAt' i):=by
 have eX:jM=P++X++(Y++S):=by show CR e
 have eY:jM=(P++X)++Y++S:=e;have lPX:oA=x0k:=FD;have lA:xMe=xQL x0k+S.length:=by
  have:(jD).toList.length=xMe:=Z6;rw [<-this,e];simp [Hj]
 have hmX:W6 x X x:=λ x hx=>NC x (by rw [e];simp [hx])
 have hmY:W6 y Y y:=λ y hy=>NC y (by rw [e];simp [hy])
 show iA;dsimp-zeta only;rw [p1,p2];dsimp-zeta only;show Cf (xah ?_);obtain⟨hy0,ey0⟩:=xrO eY (j:=0) nY;show Cf (xzJ oA sP ?_);have ey:(jD)[oA]'(HK hy0)=Y[0]:=ey0;rw [ey];show Cf (xg8 hO hk (xmE eX hX) NC (hmY _ (HU _)) (show x0k≤xMe from W4 lPX.symm (Gi hy0)) nX λ k f1 f2 f3=>?_);have g2:∀j (hj:j<k),E3 (X[j]'(bA f1)) Y[0]:=λ j hj=>by
  show zh (f2 j hj) (xvZ eX (show Em j from bA f1))
 have g3:∀j,O2 k->∀hj:Em j,Qf Y[0] X[j]:=λ j hj Sg=>by
  show zh (f3 j hj Sg) (xvZ eX Sg)
 show xFt y0le (uX y Y Y[0] y) (λ y hy=>by
  show xuI j hj hy;show mx (JW j) z
  ·exact lS
  ·exact X5 hY 0 j nY hj z);by_cases hz:xDb k=0
 ·show rE (xKx hz (vZ (X++Y) hk hf rfl (by show jM=_;show CR e) ?_ WO)) F5 ⟨hX,hY,λ x hx y hy=>?_⟩;show B8 j hj rfl (He.mp hx) (zE (g2 j (bA (xC7 hz))) (y0le y hy))
 refine xPf;have n1:=Ja nX;have ZM:k≤ka:=Jc (Ko (Re (hz (LD z))));obtain⟨hx0,ex0⟩:=xrO eX (j:=ka) n1;rw [Hj,Hh f1,Lq nX];show Cf (xzJ (zH (ka)) hx0 ?_);rw [ex0];show Cf (xhx hO hk (xmE eY hY) NC (hmX _ (HU _)) (show xQL oA≤xMe from(Bu [_,_,_,_,_,_] (A9 (.a (vA xT6) vI)) (pV xT6) P3 Tm (Fz lPX) (Fz lA.symm))) (show xWW (Y.length-1) from Ja nY) λ k2 d1 d2 d3=>?_);have c2:∀j (hj:j<k2),Qf (Y[j]'(bA d1)) (X[ka]' n1):=λ j hj=>by
  show zh (d2 j hj) (xvZ eY (show xWW j from bA d1))
 have c3:∀j,O2 k2->∀hj:xWW j,E3 (X[ka]' n1) Y[j]:=λ j hj Sg=>by
  show zh (d3 j hj Sg) (xvZ eY Sg)
 have Uc:0<k2:=by
  show mx (JW k2) z
  ·have a1:=c3 0 UV nY;have a2:=g3 ka ZM n1;have a3:Ρ (Y7 Y[0] (X[ka]' n1)):=a1;have a4:SB (Y7 Y[0] (X[ka]' n1)):=a2;show Μ a3 a4 a4
  ·exact z
 show xFt xlast (uX x X x (X[ka]' n1)) (λ x hx=>by
  show xuI j hj hx;show CM j ka z z
  ·exact X5 hX j _ hj n1 z
  ·show Dr j ka (FA (Jc hj) z) lS);refine xFF (JB Uc ig)
 extract_lets x y jp
 have ex:x.toList=X.drop k:=by
  show qp ((jD).extract xGw (oA)) _;rw [lPX,xou eX f1 UV,xOo]
 have ey':y.toList=Y.take k2:=by
  show qp ((jD).extract (oA) (oA+k2)) _;show SK (xou eY (i:=0) (n:=k2) AM d1) Jn;rw [this,Iy,Ki]
 have lx:x.size=xDb k:=by rw [<-HD,ex,FU]
 have ly:y.size=k2:=by rw [<-HD,ey',FW,G2 d1]
 have hxa:W6 p x.toList p:=λ p hp=>hmX p (by show ρ ex hp (G8 hp))
 have hya:W6 p y.toList p:=λ p hp=>hmY p (by show ρ ey' hp (G9 hp))
 have sx:x.toList.Pairwise E3:=by show LT ex (hX.sublist (MD _ _))
 have sy:y.toList.Pairwise E3:=by show LT ey' (hY.sublist xH4)
 have xge:SQ u x.toList Y[0] u:=λ u hu=>by
  rw [ex] at hu;show xuI j hj hu;show LT JE (g3 _ rQ _)
 have Zt:∀v∈y.toList.take 1,SQ u x.toList v u:=λ v hv u hu=>by
  rw [ey',Ms,G2 Uc] at hv;show Dr v Y[0] (by
   show fz j hj hv FW hj;show wX (j=0) (xQT (bA DN));rw [IG]) (xge u hu)
 have QA:∀v∈y.toList,SQ u (x.toList.drop (x.size-1)) v u:=λ v hv u hu=>by
  rw [ey'] at hv;show fz j hj hv FW hj;rw [IG];rw [ex,lx,Ih,Mr,Hh ZM] at hu;show Dr u (X[ka]' n1) (by
   show fz q hq hu FU hq;rw [JE];congr 1;omega) (c2 j (bA DN))
 have hj:∀(r:Tl) (Qw:SortSt),kindOf Qw=oneType'->arrOf Qw=jD->xyQ Qw->pendingOf Qw=xQW (x54 i (P.length,gD,pw)) i 1->cM κ x y r->mW (jp r) Q Qw:=by
  intro r Qw b1 b2 b3 b4 hW;have lr:r.toList.length=(xDb k)+k2:=by
   rw [xRR tI hW.2,FD,HD,HD,lx,ly]
  show x0U ?_;show iA;have hfn:SB (x6U).isNone:=by show Af b3
  refine Gq ?_;show Q ((x6U).isNone) _;show Η hfn (vZ (xTc++r.toList++xSG) b1 b3 b4 ?_ ?_ ?_)
  ·show qp ((r.toList.zipIdx 0).foldl (λ a x=>x7Y (xGw+zy)) (arrOf Qw)) _;rw [b2,xpg xGw r.toList 0 jD (by rw [lr,lA];exact(Fp [_,_,_,_,_,_,_] 3 DC (mi 5 qS) (.a (lL 0) Eo) (.a (.a xMu vI) xFv) d1 (Zi [_,_] LE LE f1))),Jn,lr,e];have t1:(P++X++Y++S).take xGw=P++xTc:=by
    rw [FJ,FJ,List.take_append,Gh rQ,HZ,Hy f1]
   have t2:ku (P++X++Y) S (xGw+(xDb k+k2))=xSG++S:=by
    rw [FJ (P++X),show xGw+(xDb k+k2)=oA+k2 by rw [lPX,Hj,<-Hj k,Hh f1,Hj],<-Ih,Ks,Iv d1]
   rw [t1,t2];simp [FJ]
  ·have memr:∀u∈r.toList,u∈x.toList\/u∈y.toList:=λ u hu=>F6.mp (Nu.mem tI hW.2 hu)
   rw [FJ,F5,F5];refine⟨hX.sublist xH4,⟨hW.1,hY.sublist (MD _ _),λ u hu v hv=>?_⟩,λ u hu v hv=>?_⟩
   ·show fz q hq hv FU hq;rw [JE];show Ed (memr u hu)
    ·show ρ ex z (zE (xlast u (G8 z)) (c3 _ rQ _))
    ·rw [ey'] at z;show fz j hj z FW hj;rw [IG];have hj:=bA DN;exact X5 hY j _ (bA d1) (Ic hq) (bA rQ)
   ·show fz q hq hu FW hq;rw [IG];have a1:=g2 q (FN hq DN);show BD hv
    ·show Ed (memr v z)
     ·exact zE a1 (x0j (xge v z))
     ·show ρ ey' z (zE a1 (y0le v (G9 z)))
    ·exact zE a1 (y0le v (G8 z))
  ·have q1:=x0x ((Nu.refl (blt:=κ.blt) (kf:=WU) xTc).app hW.2) xSG;rw [ex,ey'] at q1;have:xTc++(X.drop k++Y.take k2)++xSG=X++Y:=by
    rw [<-FJ,Gf,FJ,Gf]
   show ρ this q1 q1
 clear_value jp
 have nx:0<x.size:=lx▸K4 hz;have ny:0<y.size:=ly▸Uc;refine xx1 (wpS_bind (xeF hO hk hxa hya sx sy nx ny (Zt _ (xgf ny) _ Z6) QA λ r st' OR hW=>hj r st' x5S OR.a x5T OR.p hW))
  (wpS_bind (xeQ hO hk hxa hya sx sy nx ny Zt (QA _ Z6 _ (xgS nx)) λ r st' OR hW=>hj r st' x5S OR.a x5T OR.p hW))
def toL {xs:Tl}(k:Nat):xs[k]?=xs.toList[k]?:=Z6
def xfv {A' M B:U4}(e:xAl (pJ++B)):qp (mirror xs A'.length U1 ((U1-A'.length)/2)) (x8N++B):=by
 have hs:xAk U1:=by
  rw [<-HD,e];simp
 apply Ix;intro k;rw [<-toL,getElem?_mirror_all hs k,toL,toL,e];by_cases h:A'.length≤k/\k<U1
 ·show o4 j (Jz DJ);have hj:=Nat.lt_of_add_lt_add_left fG;have e0:xQs (U1)-1-(xQs j)=xQs (M.length-1-j):=by clear h e hs;exact BC (yL [_,_,_,_,_,_,_] 6 (rZ (kn 5 (A9 zo))) (tV Eo 6 (.a (Aw (Aw qS)) vI)) LE Θ (Bb Ω (Dq [_,_,_] Ψ Tm AU (A9 Dz) hj) (gu [_,_,_,_] Ψ (A9 Dz) (CN Y2) P3 Be hj Ω))) (yL [_,_,_,_,_,_,_] 5 (tV (Aw (Aw qS)) 6 Eo) (tV (A9 zo) 5 (rZ xFv)) Θ LE (Bb Ω (Zi [_,_] On AU hj) (gu [_,_,_] On Os W7 LE Tm hj Ω)))
  rw [Qp,e0,FJ,FJ,Gv rQ,Gv rQ,HZ,HZ,G7 (GQ Qn (Ja hj)),G7 (by simp;exact hj),List.getElem?_reverse hj]
 ·rw [Qo,FJ,FJ];show CM k A'.length z z
  ·rw [G7 z,G7 z]
  ·rw [Gv z,Gv z,Gv Z5,Gv (by simp;omega),Km]
def xe3 {x:Keyed}(e:xAl (pJ++DM++B)):qp (bubble xs U1 (U1-A'.length)) (xV8++M++B):=by
 have hs:nD U1:=by
  rw [<-HD,e];simp
 apply Ix;intro k;rw [<-toL,getElem?_bubble hs _ Qn k,toL,toL,toL,e,show xVr (U1-(U1-A'.length)) by exact BC (B7 [_,_,_,_] Θ qE (.a xMv Θ) LE Os Ω (Dq [_,_,_] Tm P3 Tm P3 Qn)) (B7 [_,_,_,_] Θ xMv (.a qE Θ) Os LE Ω (NL.J' (vQ [_,_] LE P3)))];have e1:Aq (pJ++DM++B) U1 x:=by
  rw [FJ pJ,Gv Z6];simp
 rw [e1];by_cases h1:xVr k
 ·subst h1;rw [AD,FJ,FJ,Gv UV];simp
 ·rw [gi];by_cases h2:A'.length<k/\k≤U1
  ·rw [F8 h2,FJ pJ,FJ,Gv (Jc gp),G7 Z4,FJ xV8,Gv (by simp;exact Nat.succ_le_of_lt gp),G7 (by simp;omega)];congr 1;simp;exact BC (yL [_,_,_,_,_] 3 (kn 4 Dz) (.a W7 yE) LE Os (Fx (Zi [_,_] On AU gp) (gu [_,_,_] On Os W7 LE Tm gp Ω))) (yL [_,_,_,_,_] 4 (DX W7) (tV Dz 4 Be) Os LE (xb Ω [_,_] On Os On Os gp))
  ·rw [rI];show CM k A'.length z z
   ·rw [FJ pJ,FJ,G7 z,FJ xV8,FJ,G7 z]
   ·rw [Gv (by simp;lia),Gv (by simp;omega)];congr 1;simp
structure At (κ:KeyKind)(sq0:SortSt)(pe:Array (Nat×oK))(l:U4):Prop where
 k:lX
 f:xyQ sq0
 p:xDk=pe
 a:jM=l
 has:W6 p l p
def At.setA (h:aA l)(e:xAl l')(hm:oE l' (p∈l)):xX (setArr sq0 xs) l':=⟨h.k,h.f,h.p,e,λ p hp=>h.has p (hm p hp)⟩
def xr3 (hO:κ.OneLt)(h:aA (P++X++S))(hi:Em i)(hj:Em j)
  (hq:Q7 (Y7 X[i] X[j])):ax (ltAt' (zH i) YW):=by
 rw [ltAt'_eq];show iA;show CQ h1 e1 (xrO h.a hi) h2 e2 (xrO h.a hj);show Oj h1 (xLf h2 ?_);rw [e1,e2];exact xOv h.k (h.has _ Z6) (h.has _ Z6) hq
def xr8 (h:aA (pJ++B))(ei:xVr i)(ej:j=U1)(hq:∀st',aZ (x8N++B)->xWF):
  ax (reverseSlice' i j):=by
 subst ei ej;exact wpS_reverse (hq _ (h.setA (xfv h.a) λ p hp=>by show xXl))
def xih (h:aA (pJ++DM++B))(ei:i=U1)(ej:xVr j)(hq:∀st',aZ (xV8++M++B)->xWF):
  ax (moveDown' i j):=by
 subst ei ej;show LT moveDown'_eq (wpS_modify (hq _ (h.setA (xe3 h.a) λ p hp=>by
  simp only [F6,Ge] at hp ⊢;rcases hp with((z|z)|z)|z
  ·show BB (.inl (.inl z))
  ·show BB (.inr z)
  ·show BB (.inl (.inr z))
  ·show CU z)))
def xfO:jL (bJ j6):=sortPriv%PySem.Builtin.countRun
def xix (h:x7Q)(hx:uX y l y x):yY (l++DM):=by
 show LT F5 ⟨h,Z6,λ a ha b hb=>by
  show Dr b x (by show lz) (hx a ha)⟩
def xnu {l:U4}(h:x7Q)(hn:n+1=l.length)(hy:y∈l):E3 y (l[n]'(xzc hn)):=by
 show xuI j hj hy;show CM j n z z
 ·exact X5 h j n hj (xzc hn) z
 ·show Dr j n (xVA (FZ hj hn.symm) z) lS
structure xsp (κ:KeyKind)(X D0 Eb:U4)(n Qk:Nat):Prop where
 le:Eb.length=Qk+1
 ln:D0.length+Eb.length=n
 eq:∀u∈Eb,uX v Eb u v
 sd:D0.reverse.Pairwise E3
 lt:∀u∈Eb,SQ d D0 u d
 sq0:Wj kS U2
def xsp.sorted (h:xPI n Qk):yY kS:=by
 show LT F5 ⟨List.pairwise_of_forall_mem_list λ u hu v hv=>h.eq u hu v hv,h.sd,λ u hu d hd=>x0j (h.lt u hu d (Kq.mp hd))⟩
def xx3 {X:U4}(hn:Em n):X.take (n+1)=U2++[X[n]]:=by
 rw [HC,FL hn];rfl
def xsp.next (h:xPI n Qk)(hn:Em n)(M8:SQ u Eb X[n] u):xVw xVZ [X[n]] (n+1) 0:=by
 have NC:SQ u kS X[n] u:=λ u hu=>by
  show BD hu
  ·exact M8 u z
  ·have OZ:0<Eb.length:=by show AY h.le (Ly this)
   have e0:Eb[0]∈Eb:=HU OZ;exact(tI).tr _ _ _ (M8 _ e0) (h.lt _ e0 u (Kq.mp z))
 refine⟨rfl,by rw [FD,Km,h.ln];rfl,λ u hu v hv=>?_,?_,λ u hu d hd=>?_,?_⟩
 ·have e1:u=X[n]:=by show xFs
  have e2:v=X[n]:=by simpa using hv
  subst e1;show DI e2 lS
 ·rw [JM,II];exact h.sorted
 ·have e1:u=X[n]:=by show xFs
  subst e1;refine NC d ?_;show BD hd
  ·exact P1 (Kq.mpr z)
  ·exact fu (Kq.mp z)
 ·rw [JM,II,xx3 hn];show Wp (xLp (x5U [X[n]])) (xWM tI (λ y hy x hx=>?_));have e1:y=X[n]:=by show xNJ
  show DI e1 (NC x hx)
def xsp.more (h:xPI n Qk)(hn:Em n)(h1:uX u Eb X[n] u)(h2:uX u Eb u X[n]):xVw D0 (Eb++[X[n]]) (n+1) (Qk+1):=by
 have OZ:0<Eb.length:=by show AY h.le (Ly this)
 have e0:Eb[0]∈Eb:=HU OZ;have hD:SQ d D0 X[n] d:=λ d hd=>xqC tI (h1 _ e0) (h.lt _ e0 d hd)
 refine⟨by rw [FD,h.le];rfl,by rw [FD,<-Hj,h.ln];rfl,λ u hu v hv=>?_,h.sd,λ u hu d hd=>?_,?_⟩
 ·rcases F6.mp hu with z|z<;>rcases F6.mp hv with z2|z2
  ·exact h.eq u z v z2
  ·show Dr v X[n] (by simpa using z2) (h2 u z)
  ·show Dr u X[n] (by show xGt) (h1 v z2)
  ·have e1:u=X[n]:=by show xGt
   have e2:v=X[n]:=by simpa using z2
   subst e1;show DI e2 lS
 ·show BD hu
  ·exact h.lt u z d hd
  ·show Dr u X[n] (by show xGt) (hD d hd)
 ·show Η (xx3 hn) (xLp (x5U [X[n]]));rw [FJ,FJ];refine(Nu.refl Eb).app (xWM tI (λ y hy x hx=>?_));show Dr y X[n] (by show xNJ) (hD x (Kq.mp hx))
def xnU (hO:κ.OneLt){Q:(xS2×Nat)->wD}
  (h:aA (P++X++S)) (hn:Ol=X.length) (ha:AK a) (han:a≤Ol) (hs:yY (X.take a))
  (hf:∀(x n:Nat) (Vy:AK n) (Ss:n<Ol),xLU (f x (yo n)) (λ r st'=>st'=sq0/\r=E1 (Y7 (X[n]'(xVm)) (X[n-1]'(HX xVm))) (.done (yo n)) (.yield (yo (n+1)))))
  (hq:∀n,wa a->n≤Ol->yY U2->(n=Ol\/∃M8:Em n,Qf X[n] (X[n-1]'(xN8)))->Q (yo n) sq0):ax (forIn [a:Ol] (yo a) f):=by
 refine xYj (λ x c st'=>st'=sq0/\c=yo x/\yY (X.take x)) ?_ ?_ (Wr rfl hs)
 ·rintro x c st' hax SA ⟨rfl,rfl,V0⟩;refine Jf (hf x x (FK ha hax) SA) ?_;rintro r Uo ⟨rfl,rfl⟩;by_cases hc:SB (Y7 (X[x]'(xFO)) (X[x-1]'(HX xFO)))
  ·show rz hc (hq x hax (Jj SA) V0 (qG xFO hc))
  ·show xBH hc (AG rfl rfl);show Η (xx3 (show Em x from xFO)) (xix V0 (SC y hy))
   have l1:=xnu V0 (by rw [FW,G2 (Gi xFO),Kt (FK ha hax)]) hy;show ρ IG l1 (zE l1 (by simpa using hc))
 ·rintro c st' ⟨rfl,rfl,V0⟩;show UQ (AI (max a Ol) Ol (MP han)) V0 (hq Ol han UV V0 Dm)
def xeR (hO:κ.OneLt)(h:aA (P++X++S))(Qm:NR=P.length)(hn:Ol=X.length)(h1:AK Ol)
  (hq:∀m Y st',AK m->m≤Ol->Y.length=m->xRz->Wj Y (X.take m)->aZ (P++(Y++P0)++S)->Q (some m) st'):ax (xfO NR Ol):=by
 subst Qm;have up:∀{sq0} {X},aA (P++X++S)->∀(hXn:Ol=X.length) (n:Nat) (Vy:AK n) (Ss:n<Ol) {Q:xDM->wD},Q7 (Y7 (X[n]'(FZ Ss hXn)) (X[n-1]'(HX (FZ Ss hXn))))->ax (ltAt' (zH n) (zH n-1)):=by
  intro sq0 X h hn n Vy Ss Q hq;show LT (AI (zH n-1) (zH (n-1)) (Lq Vy _)) (xr3 hO h xVm (HX xVm) hq)
 show Cf (xnU hO h hn (FO 1) h1 ?_ ?_ λ n Vy Ss hs hor=>?_)
 ·cases X with
  |nil=>simp
  |cons x X=>simp
 ·intro x n Vy Ss;show kr (up h hn n Vy Ss ?_)
  split
  ·exact ft
  ·exact ft
 dsimp-zeta only;have same:P++X++S=P++(U2++x2o)++S:=by rw [Gf]
 have lt:B4 U2 n:=by rw [FW,G2 (d4 Ss hn)]
 by_cases e1:n=Ol
 ·refine xKx e1 (hq n U2 sq0 Vy Ss lt hs WO (same▸h))
 show Ey (xFF (e1 ig)) M8 SI (hor.resolve_left e1);have hn5:=FZ M8 hn.symm;have Vq:=GQ AM M8
 extract_lets v1 v2 jp
 have Yj:∀VV,xX VV (P++(xR3++x2o)++S)->(∀u∈U2,uX v U2 u v)->mW xWV Q VV:=by
  intro VV hA1 heq;show Cf xEW;have hprev:(X[n-1]'(xN8))∈U2:=by
   show LT List.mem_take_iff_getElem (kq (n-1) (xZk ⟨Ja Vy,xN8⟩))
  have hX0:SQ u U2 X[n] u:=λ u hu=>xOL SI (heq _ hprev u hu)
  have hD0:xVw xR3 [X[n]] (n+1) 0:=by
   refine⟨rfl,by rw [Km,lt];rfl,λ u hu v hv=>?_,by show LT II hs,λ u hu d hd=>?_,?_⟩
   ·have e1:u=X[n]:=by show xFs
    have e2:v=X[n]:=by simpa using hv
    subst e1;show DI e2 lS
   ·have e1:u=X[n]:=by show xFs
    show DI e1 (hX0 d (Kq.mp hd))
   ·rw [II,xx3 M8];refine xWM tI (λ y hy x hx=>?_);have e1:y=X[n]:=by show xNJ
    show DI e1 (hX0 x hx)
  have hA0:xX VV (P++(xR3++[X[n]]++X.drop (n+1))++S):=by
   rw [FJ xR3,KF,<-Ig M8];exact hA1
  show S9 (λ x c st'=>∃D0 Eb Qk,c=lU x Qk/\xPI x Qk/\aZ (P++(D0++Eb++xMb)++S)) (Q:=λ c st'=>∃m D0 Eb Qk,c=lU m Qk/\m≤Ol/\n+1≤m/\xPI m Qk/\aZ (P++(D0++Eb++P0)++S)) ?_ ?_ (Tf _ _ 0 hD0 hA0) ?_
  ·rintro x c Qw hax SA ⟨D0,Eb,Qk,rfl,hD,hA⟩;have hax':n+1≤x:=hax;have ON:=hD.le;have NH:=hD.ln;have hxX:Em x:=xFO;have lC:Ol=Vg (D0++Eb) xMb:=by rw [FD,FD,FU,NH,xNl hxX];exact hn
   have hc1:(D0++Eb++xMb)[x]'(xVj)=X[x]:=by
    rw [Jm (by show mQ (Fz NH)),JE];simp only [FD,NH,JV,Jn]
   have hE:=xzc ON.symm;have T7:=FN (IU n) hax';have hx2:x-1=D0.length+Qk:=by rw [<-NH,ON];rfl
   have hc2:(D0++Eb++xMb)[x-1]'(HX xVj)=Eb[Qk]' hE:=by
    rw [Kf (by rw [FD,NH];exact Ja T7),Jm (by show LT hx2 rQ)];simp only [hx2,HZ]
   have hEl:(Eb[Qk]' hE)∈Eb:=HU _;show Cf (up hA lC x T7 SA ?_);rw [hc1,hc2];dsimp only;cases e:Y7 X[x] (Eb[Qk]' hE) with
   |true=>
    refine xId rfl;have hN:=hD.next hxX λ u hu=>xOL e (hD.eq _ hEl u hu)
    have fin:∀Ot,xX Ot (xYq (P++D0)++(xMb++S))->xX Ot (P++(xVZ++[X[x]]++X.drop (x+1))++S):=λ Ot h3=>by
     rw [FJ xVZ,KF,<-Ig hxX];show Oz h3
    by_cases VH:Qk>0
    ·refine xSi VH (xr8 (by show Oz hA) (by rw [FD,<-NH,ON,<-Hj];exact x47) (by rw [FD,Hj,NH]) λ Ot Xk=>Gq (Tf _ _ 0 hN (fin Ot Xk)))
    ·have hrev:Eb.reverse=Eb:=by
      show xH0 y (x4V (ON.trans (xKK (JN VH))));show Dn
     refine aM VH (Gq (Tf _ _ 0 hN (fin Qw ?_)));rw [hrev];show Oz hA
   |false=>
    refine Mk Z9;rw [Lq T7];show Cf (xr3 hO hA (HX xVj) xVj ?_);rw [hc1,hc2];dsimp only;cases e2:Y7 (Eb[Qk]' hE) X[x] with
    |true=>exact cg rfl ⟨x,D0,Eb,Qk,rfl,Gi SA,hax',hD,hA⟩
    |false=>
     refine xV6 (Tf D0 _ (Qk+1) (hD.more hxX (λ u hu=>zE e2 (hD.eq _ hEl u hu)) (λ u hu=>zE (hD.eq u hu _ hEl) e)) ?_);rw [<-FJ D0,FJ (D0++Eb),KF,<-Ig hxX];exact hA
  ·rintro c Qw ⟨D0,Eb,Qk,rfl,hD,hA⟩;have:max (n+1) Ol=Ol:=MP hn5;have this':max v1 Ol=Ol:=this;rw [this'] at hD hA ⊢;exact⟨Ol,D0,Eb,Qk,rfl,UV,hn5,hD,hA⟩
  ·rintro c Qw ⟨m,D0,Eb,Qk,ec,ZH,hm2,hD,hA⟩;subst ec;have ON:=hD.le;have NH:=hD.ln;dsimp-zeta only
   extract_lets r1 r2 r3 r4 jp3
   have er3:m=r3:=rfl;have er4:Qk=r4:=rfl
   clear_value r3 r4
   subst er3 er4;have Ur:∀Ot,xX Ot (xYq (P++D0)++(P0++S))->mW (jp3 ()) Q Ot:=by
    intro Ot Xk;have hm0:=FN (IU n) hm2;show Cf (xr8 (M:=xVZ) (by show Oz Xk) rfl (by rw [FD,Km,NH]) (SC Pd Ui));rw [JM,II] at Ui;have lY:Vg Eb D0.reverse=m:=by rw [FD,Km,Kh,NH]
    have lYX:Ol=Vg kS P0:=by rw [FD,lY,FU,Hh (d4 ZH hn)];exact hn
    have hA5:xX Pd (P++(kS++P0)++S):=by show Oz Ui
    show Cf (xnU hO hA5 lYX hm0 ZH ?_ ?_ λ n2 hn3 hn4 PV _=>?_)
    ·rw [Hy (Fz lY.symm),Gh (Fz lY)];exact hD.sorted
    ·intro x n2 hn3 hn4;show kr (up hA5 lYX n2 hn3 hn4 ?_)
     split
     ·exact ft
     ·exact ft
    refine Gq (hq n2 _ Pd (FK hm0 hn3) hn4 (by rw [FW,<-lYX,G2 hn4]) PV ?_ ?_)
    ·have e1:(kS++P0).take n2=kS++oM P0 n2 m:=by
      rw [List.take_append,Gh (W4 lY hn3),lY]
     have e2:X.take n2=X.take m++oM P0 n2 m:=by
      rw [<-MF,Hh hn3]
     rw [e1,e2];exact hD.sq0.app WO
    ·have e1:ku kS P0 n2=X.drop n2:=by
      rw [List.drop_append,HB (W4 lY hn3),Hl,lY,Ih,Hh hn3]
     rw [<-e1,Gf];exact hA5
   clear_value jp3
   by_cases VH:Qk>0
   ·refine xSi VH (xr8 (by show Oz hA) (by rw [FD,<-NH,ON,<-Hj];exact x47) (by rw [FD,Hj,NH]) λ Ot Xk=>Ur Ot Xk)
   ·have hrev:Eb.reverse=Eb:=by
     show xH0 y (x4V (ON.trans (xKK (JN VH))));show Dn
    refine aM VH (Ur Qw ?_);rw [hrev];show Oz hA
 clear_value jp
 by_cases hgt:n>1
 ·refine xId hgt;rw [Lq Vy];show kr (xr3 hO h Vq xN8 ?_);cases er:Y7 (X[0]' Vq) (X[n-1]'(xN8)) with
  |true=>exact cg rfl (hq n U2 sq0 Vy Ss lt hs WO (same▸h))
  |false=>
   refine xMS (wpS_bind (xr8 ?_ rfl (by rw [lt]) λ Ot Xk=>Yj Ot (by show Oz Xk) λ u hu v hv=>?_))
   ·have e0:P++U2++(x2o++S)=P++X++S:=by rw [FJ P,<-FJ U2,Gf,<-FJ]
    show LT e0 h
   ·show Ay l1 (xnu hs (by rw [lt,Kt Vy]) hu) IG l1;show xuI j hj hv;rw [IG];have l2:E3 (X[0]' Vq) (X[j]'(bA (W4 lt (Gi M8)))):=by
     show mx (JW j) z
     ·exact lS
     ·show xP9 (X5 hs 0 j (JU z hj) hj z) IG IG
    exact zE l1 (zE er l2)
 ·refine aM hgt (Yj sq0 ?_ λ u hu v hv=>?_)
  ·show wX (n=1) (FA (xQq hgt) Vy);rw [same] at h;have e1:(X.take 1).reverse=X.take 1:=by
    cases X with
    |nil=>rfl
    |cons x X=>rfl
   show LT e1 h
  ·show wX (n=1) (FA (xQq hgt) Vy);show xuI j hj hu;show xuI q Sr hv;have e1:j=0:=xQT (lt▸hj);have e2:q=0:=xQT (lt▸Sr);subst e1;show DI e2 lS
def xeh (hO:κ.OneLt)(h:aA (P++(Y++R)++S))(Qm:NR=P.length)(hY:xRz)(lY:Y.length=ok)(h1:AK ok)(hok:wa ok)(hn:n≤xVS ok)
  (hq:∀Y' st',Y'.length=n->xY7->Wj Y' (Y++xN9 n ok)->aZ (P++(Y'++xz8 n)++S)->xAo st'):ax (binarySort' NR n ok):=by
 subst Qm;show S9 (λ k c st'=>c=xG5/\∃Y',Y'.length=k/\xY7/\Wj Y' (Y++xN9 k ok)/\aZ (P++(Y'++xHC)++S)) (Q:=λ c st'=>c=xG5/\∃Y',Y'.length=n/\xY7/\Wj Y' (Y++xN9 n ok)/\aZ (P++(Y'++xz8 n)++S)) ?step ?fin ?init ?post
 case post=>
  rintro c st' ⟨rfl,Y',e1,e2,e3,e4⟩;exact Gq (hq Y' st' e1 e2 e3 e4)
 case init=>
  have e:max ok 1=ok:=Nat.max_eq_left h1;show Η e ⟨rfl,Y,lY,hY,?_,?_⟩
  ·rw [JV,JA,GU];exact WO
  ·rw [JV,Iy];exact h
 case fin=>
  rintro c st' ⟨rfl,Y',e1,e2,e3,e4⟩;rw [MP (x7G ⟨hok,FK h1 hok⟩)] at e1 e3 e4;exact⟨rfl,Y',e1,e2,e3,e4⟩
 case step=>
  rintro k c st' hak hkn ⟨rfl,Y',e1,e2,e3,e4⟩;have hak':ok≤k:=FK (Nat.le_max_left _ _) hak;have hkr:xWX (k-ok):=(Fp [_,_,_,_,_] 3 (kn 4 Dz) (.a DC yE) On Os hn (xb hkn [_,_] LE Os LE Os hak'));have lC:Vg Y' xHC=k+(R.length-(k-ok)):=by rw [FD,FU,e1]
  have hkC:k<Vg Y' xHC:=lC▸Iu (Kb hkr);clear lC;have hx:(Y'++xHC)[k]' hkC=R[k-ok]:=by
   rw [Jm (Fz e1),JE];simp only [e1,JV,Jn]
  have hy:∀m (hm:m<k),(Y'++xHC)[m]'(JU hm hkC)=Y'[m]'(xn hm):=λ m hm=>Kf (xn hm)
  extract_lets v1 v2
  show S9 (λ x c Uo=>Uo=st'/\∃l r,c=lU l r/\l≤r/\r≤k/\r-l≤k-x/\
    (∀i (hi:i<l) (hik:i<k),E3 (Y'[i]'(xn hik)) R[k-ok])/\(∀i,r≤i->∀hi:i<k,Qf R[k-ok] (Y'[i]'(xn hi)))) (Q:=λ c Uo=>Uo=st'/\∃l r,c=lU l r/\l≤k/\(∀i (hi:i<l) (hik:i<k),E3 (Y'[i]'(xn hik)) R[k-ok])/\(∀i,l≤i->∀hi:i<k,Qf R[k-ok] (Y'[i]'(xn hi)))) ?istep ?ifin ?iinit ?ipost
  case iinit=>exact⟨rfl,0,k,rfl,AM,UV,HV _ 0,px i hi hi (LV _),λ i h1 h2=>absurd h2 (xDa h1)⟩
  case ifin=>
   rintro c Uo ⟨rfl,l,r,rfl,Yh,hrk,hm,Qm,V3⟩;show Dr l r (xlR Yh hm) (U8 rfl l l hrk Qm V3)
  case istep=>
   rintro x c Uo _ hxk ⟨rfl,l,r,rfl,Yh,hrk,hm,Qm,V3⟩;dsimp only;by_cases OO:l≥r
   ·show Dr l r (FA Yh OO) (cg UV (U8 rfl l l hrk Qm V3))
   ·have hmr:(l+r)/2<r:=Z5;have hml:l≤(l+r)/2:=(B7 [_,_,_] Ψ (AJ Dz) (CN x2S) LE Os hmr zK);have XS:=FN hmr hrk;refine aM OO (wpS_bind (xr3 hO e4 hkC (JU XS hkC) ?_));rw [hx,hy _ XS];dsimp only;cases SI:Y7 R[k-ok] (Y'[(l+r)/2]'(xn XS))
    case true=>
     refine cg rfl ⟨rfl,l,(l+r)/2,rfl,hml,Gi XS,FK (Jb (Jc hmr) _) (by show LT Mr (Jb hm 1)),Qm,τ i h1 h2⟩;show CM ((l+r)/2) i z z
     ·exact xOL SI (X5 e2 _ i (xn XS) (xn h2) z)
     ·show Dr i ((l+r)/2) (FA z h1) SI
    case false=>
     refine xV6 ⟨rfl,(l+r)/2+1,r,rfl,hmr,hrk,FK (Mb (Je hml) _) (Jb hm 1),τ i h1 h2,V3⟩;show CM i ((l+r)/2) z z
     ·exact zE (X5 e2 i _ (xn h2) (xn XS) z) SI
     ·show Dr i ((l+r)/2) (xVA h1 z) SI
  case ipost=>
   rintro c Uo ⟨rfl,l,r,rfl,TF,Qm,V3⟩;have hd:xHC=R[k-ok]::xz8 (k+1):=by
    rw [Ig hkr];rw [MN hak']
   have hA:xX Uo ((P++xzr)++xzs++[R[k-ok]]++(xz8 (k+1)++S)):=by
    rw [hd] at e4;have e0:(P++xzr)++xzs++[R[k-ok]]++(xz8 (k+1)++S)=P++(Y'++R[k-ok]::xz8 (k+1))++S:=by
     rw [FJ P,Gf];simp [FJ]
    show LT e0 e4
   have lt:B4 xzr l:=by rw [FW,e1,G2 TF]
   have ld:B4 xzs (k-l):=by rw [FU,e1]
   show Cf (xih hA (by rw [FD,lt,ld,Hj,Hh TF]) (by rw [FD,lt]) λ Ot Xk=>Gq ⟨rfl,xzr++[R[k-ok]]++xzs,?_,?_,?_,?_⟩)
   ·rw [FD,FD,lt,ld];show l+1+(k-l)=k+1;rw [Nat.add_right_comm,Hh TF]
   ·have m1:uX y xzr y R[k-ok]:=λ y hy=>by
     show fz j hj hy lt hj;show LT IG (Qm j hj (bA TF))
    have m2:uX y xzs R[k-ok] y:=λ y hy=>by
     show fz j hj hy ld hj;show LT JE (x0j (V3 _ rQ (Ic hj)))
    rw [FJ,F5];refine oB (e2.sublist xH4) (λ a ha b hb=>?_)
    ·rw [KF,Io];show A5 m2 (e2.sublist (MD _ _))
    ·show BD hb
     ·show Dr b R[k-ok] (by show xGt) (m1 a ha)
     ·exact zE (m1 a ha) (m2 b z)
   ·have e5:xN9 (k+1) ok=xN9 k ok++[R[k-ok]]:=by
     rw [MN hak',xx3 hkr]
    rw [e5,<-FJ];refine xLp (e3.app (Nu.refl [R[k-ok]]));have sw:Wj (xzr++([R[k-ok]]++xzs)) (xzr++(xzs++[R[k-ok]])):=x3x (xWM tI (λ y hy x hx=>by
     show wX (y=R[k-ok]) (by show xNJ);show fz j hj hx ld hj;show LT JE (V3 _ rQ (Ic hj))))
    rw [<-FJ,<-FJ,Gf] at sw;exact sw
   ·show Oz Xk
def cJ (o:Nat):xVc->Bo
 | []=>[]
 |r::Rs=>x20 o::cJ x3P Rs
theorem xxA (o):∀Rs,B4 (cJ o Rs) Rs.length
 | []=>rfl
 |r::Rs=>by show(cJ _ Rs).length+1=_;show Af (xxA _ Rs)
theorem xx9 (o):∀As Bs,cJ o (As++Bs)=cJ o As++cJ (xDl o) Bs
 | [],Bs=>by simp [cJ]
 |r::As,Bs=>by
  show x20 o::cJ x3P (As++Bs)=x20 o::(cJ x3P As++_);rw [xx9 _ As Bs,HJ,FD,Hj]
theorem xmL {α β:Type}(f:α->β):∀(l:DU) (i:Nat),(x6g).map f=x6J f i
 | [],_=>rfl
 |a::l,0=>rfl
 |a::l,i+1=>by show f a::(x6g).map f=f a::x6J f i;rw [xmL f l i]
abbrev two (e:Nat×oK):oK:=(e.1,A4 e)
def OF (Rs:xVc)(pe:Array (Nat×oK)):Prop:=x5V=cJ 0 Rs
theorem OF.size {pe:Array (Nat×oK)}(h:xOw pe):pe.size=Rs.length:=by
 have:=yt h;rw [Fy,xxA,HD] at this;exact this
theorem OF.push (h:xOw pe)(e1:NR=Rs.flatten.length)(e2:n=r.length):OF (Rs++[r]) (pe.push (NR,n,pw)):=by
 show va OF;subst e1 e2;rw [MC,FV,h,xx9,HG];rfl
theorem OF.modify (h:xOw pe)(i)(hf:∀e,two (f e)=two e):xOw (pe.modify i f):=by
 show va OF;rw [<-h];apply Ix;intro j;rw [Gs,Gs];have:(pe.modify i f).toList[j]?=EK i j ((x3f j).map f) (x3f j):=by
  rw [LF,LF,Array.getElem?_modify]
 rw [this]
 split
 ·cases e:x3f j with
  |none=>rfl
  |some v=>show SL (some (two (f v))) (two v);rw [hf]
 ·rfl
theorem OF.at (h:OF (As++X::Bs) pe)(hi:xUG i):∃pw,A7 pe (xK5 X.length pw):=by
 subst hi;unfold OF at h;have e:Aq (x5V) As.length x71:=by
  rw [h,xx9,Gv (by show LT xxA UV),xxA,JV,HG];rfl
 rw [Gs,LF] at e;cases e2:pe[As.length]? with
 |none=>show kD e2
 |some v=>
  rw [e2] at e;have e3:two v=x71:=Gg e;show Y3 v1 v2 v3 v e4 (congrArg Prod.fst e3);have e5:=congrArg Prod.snd e3;dsimp only at e4 e5;subst e4 e5;exact Ex v3
def OF.merge (h:OF (As++X::Y::Bs) pe)(hi:xUG i)(hZ:Z.length=gD):
  OF (As++Z::Bs) (xQW (pe.setIfInBounds i (xK5 gD pw)) i 1):=by
 subst hi;have hs:=h.size;show va OF;rw [FD,F2,F2] at hs;have e1:qp (xQW (pe.setIfInBounds As.length (xK5 gD pw)) As.length 1) ((pe.toList.set As.length (xK5 gD pw)).eraseIdx (As.length+1)):=by
  unfold Array.eraseIdxIfInBounds;rw [dif_pos (by show LT KZ (bM (A9 xzR) Os cW Os (Fz hs.symm))),Array.toList_eraseIdx,Ml]
 rw [e1,xmL,List.map_set,h,xx9,xx9];show((cJ 0 As++(xDl 0,X.length)::(xDl 0+X.length,Y.length)::cJ (xQL (xDl 0+X.length)) Bs).set As.length (x4W gD)).eraseIdx (As.length+1)=cJ 0 As++(xDl 0,Z.length)::cJ (xDl 0+Z.length) Bs;have lA:=xxA 0 As;rw [List.set_append,FY (Mw.mpr (Fz lA)),lA,JV,List.set_cons_zero,List.eraseIdx_append_of_length_le (Nat.le.intro (congrFun (congrArg HAdd.hAdd lA) 1)),lA,AI (As.length+1-As.length) 1 (xIc 1),hZ,HG];show _++(_::cJ _ Bs)=_;rw [Hj]
structure xdh (κ:KeyKind)(a0:U4)(sq0:SortSt)(L:Nat)(Rs:xVc)(tail:U4):Prop where
 at':∃pe,aA (xD7 tail)/\xOw pe
 so:∀r∈Rs,r.Pairwise E3/\0<r.length
 len:Rs.flatten.length=L
 st':Wj (xD7 tail) a0
def xmh (hO:κ.OneLt)(h:xEk sq0 L (As++X::Y::Bs) tail)(hi:xUG i)
  (hq:∀st' Z,xHB (As++Z::Bs) tail->xAo st'):ax (mergeAt' i):=by
 obtain⟨⟨pe,hA,hP⟩,so,hlen,OR⟩:=h;show CQ sX nX (so X Z6) sY nY (so Y Z6);have ef:xXz (As++X::Y::Bs)=As.flatten++X++Y++(x3R):=by simp [FJ]
 show CQ pw p1 (hP.at hi) pw2 p2 (OF.at (As:=As++[X]) (X:=Y) (Bs:=Bs) (pe:=pe) (i:=i+1) (by simpa using hP) (by simp [hi]));refine xeG hO (P:=As.flatten) (X:=X) (Y:=Y) (S:=x3R) (pw:=pw) (pw2:=pw2) hA.k hA.f (λ p hp=>hA.has p (by show ρ hA.a hp hp)) (by rw [hA.a,ef]) sX sY nX nY (by show LT hA.p p1) (by rw [hA.p,p2];simp) λ st' Z b1 b2 b3 b4 b5 b6=>?_
 have lZ:Z.length=gD:=by rw [xRR tI b6,FD]
 have ez:xXz (As++Z::Bs)=As.flatten++Z++(x3R):=by simp [FJ]
 have VV:Wj (xXz (As++Z::Bs)) (xXz (As++X::Y::Bs)):=by
  rw [ez,ef,FJ As.flatten X];exact(x3x b6).app WO
 refine hq st' Z ⟨Ep ⟨b1,b2,b3,by rw [b4,ez],λ p hp=>hA.has p (Nu.mem tI VV hp)⟩,SC r hr,?_,VV.trans OR⟩
 ·show LT hA.p (hP.merge hi lZ)
 ·show BD hr
  ·exact so r (by show Nn)
  ·show sH z z
   ·show A5 b5 (B7 [_,_,_] DW Θ qA DW LE nY (Fz lZ.symm))
   ·exact so r (by show Nn)
 ·rw [<-hlen];simp [lZ,Hj]
theorem xtZ {α:Type}:∀{Rs:DU} {j:Nat},bK (j+1)->∃As X Y Bs,Rs=As++X::Y::Bs/\xUG j
 | [],j,h=>by show DK
 | [x],j,h=>by show DK
 |x::y::Rs,0,_=>⟨[],x,y,Rs,rfl,rfl⟩
 |x::Rs,j+1,h=>by
  show gq As X Y Bs e hj (xtZ (Rs:=Rs) (j:=j) (by show DK;assumption)) ⟨x::As,X,Y,Bs,by show Dn,by simp [hj]⟩
theorem xoH:∀{Rs:xVc},(∀r∈Rs,0<r.length)->Rs.length≤Rs.flatten.length
 | [],_=>UV
 |r::Rs,h=>by
  have h1:=h r Z6;have h2:=xoH (Rs:=Rs) λ q hq=>h q (by simp [hq])
  rw [HJ,FD,F2];exact(B7 [_,_,_] DW LE Θ On Θ h1 h2)
def SrP (κ:KeyKind)(a0:U4)(x:Nat){γ:Type}(r:ForInStep (Option γ×Nat))(st':SortSt):Prop:=match r with
 | .done c'=>∃Rs L,c'=yo L/\xHB Rs []
 | .yield c'=>∃Rs tail L,c'=yo L/\x3Z/\x+1≤L
def xhY (h:1<n):n-2+1<n:=by exact(yI xFy cW (mF (AJ AU) xFw h))
def xda (hO:κ.OneLt)(hk:lX)(hf:xyQ sq0)(hp:xDk=#[])(NC:W6 p jM p)
  (h:∀st',xyQ st'->x5y E3->Wj (xDI).toList jM->xWF):ax sortRuns':=by
 show xyH a0 ha0 a0 (jM=a0) CY;have hsz:xMe=a0.length:=by rw [<-ha0,HD]
 show iA
 extract_lets size Pz NR
 have hsize:size=a0.length:=hsz
 clear_value size
 have tot:∀{st' L Rs tail},x3Z->L+tail.length=size:=λ {st' L Rs tail} hR=>by
  show zc (xRR tI hR.st') FD hR.len;exact this.trans hsize.symm
 show S9 (λ x c st'=>∃Rs tail L,c=yo L/\x3Z/\x≤L) (Q:=λ c st'=>∃Rs L,c=yo L/\xHB Rs []) ?_ ?_ ?_ ?_
 rotate_left
 ·rintro c st' ⟨Rs,tail,L,rfl,hR,hx⟩;have t:=tot hR;show Dr tail [] (Ib.mp ((JZ t).trans (LD hx))) (VT Rs L hR)
 ·exact Tf [] a0 0 (VT (kq #[] ⟨hk,hf,hp,ha0,λ p hp'=>NC p (by show LT ha0 hp')⟩) (jJ h h) WO) UV
 ·rintro c Qw ⟨Rs,L,rfl,hR⟩;have hlen:=tot hR;show Ay OO (xoH (Rs:=Rs) λ r hr=>(hR.so r hr).2) hR.len OO;show S9 (λ x c st'=>c=xG5/\∃PQ,xHB PQ []/\PQ.length≤xO4 (size-x)) (Q:=λ c st'=>c=xG5/\∃PQ,xHB PQ []/\PQ.length≤1) ?_ ?_ (ql Rs hR (FK OO (W4 hlen (x5E _)))) ?_
  ·rintro x c Ot _ hx ⟨rfl,PQ,Ox,Ou⟩;show iA;show Zy pe hA hP Ox.at' hs4 (xKh Ot=PQ.length) (by show LT hA.p hP.size)
   extract_lets p i before i2
   by_cases h1:p.size≤1
   ·refine cg h1 (ql PQ Ox ?_);have PJ:xKh Ot≤1:=h1;exact Iz hs4.symm PJ
   ·refine Mk h1;have PJ:¬xKh Ot≤1:=h1;have hi2:i2+1<PQ.length:=by
     have e1:i=xKh Ot-2:=rfl;have e2:i2=i-1\/i2=i:=by
      show oP _ _ _=i-1\/oP _ _ _=i
      split
      ·exact Dm
      ·exact xj
     exact hs4▸GQ (Je (e2.elim (λ e=>e▸Qn) Fz)) (xhY (Ko PJ))
    clear_value i2
    obtain⟨As,X,Y,Bs,rfl,hj⟩:=xtZ hi2;show Cf (xmh hO Ox hj (τ Pd Z OB));refine xV6 (ql _ OB ?_);simp only [FD,F2] at Ou ⊢;exact FK (Jc ((Std.le_max.1 Ou).resolve_left (Re (Nat.not_succ_le_zero _ (Ln (FK (MS _ _) z)))))) (x5E _)
  ·rintro c Ot ⟨rfl,PQ,Ox,Ou⟩;exact ql PQ Ox (FK Ou (x7G ⟨UV,W4 (JV size) AM⟩))
  ·rintro c Ot ⟨rfl,PQ,Ox,Ou⟩;show Bq pe hA hP Ox.at' (Gq (h Ot hA.f ?_ ?_))
   ·rw [hA.a,GU];rcases PQ with _|⟨r,_|⟨_,R⟩⟩
    ·simp
    ·simpa using(Ox.so r Z6).1
    ·cases Ln Ou
   ·rw [ha0,hA.a];exact Ox.st'
 rintro x c VV _ hx ⟨Rs,tail,L,ec,hR,hxL⟩;subst ec;have t:=tot hR
 extract_lets NR jp force nf
 have elo:NR=L:=rfl
 clear_value NR
 subst elo;by_cases OO:NR≥size
 ·show Dr tail [] (Ib.mp ((JZ t).trans (LD OO))) (cg OO (VT Rs NR hR))
 show wF (Mk OO) pe hA hP hR.at';show Cf (xeR hO (P:=Rs.flatten) (X:=tail) (S:=[]) (by simpa using hA) hR.len.symm (AI (size-NR) tail.length (JG (JZ t))) ((Nat.le_sub_iff_add_le' (Gi xMF)).mpr xMF) λ m Y Qw m1 m2 lY sY tY hA2=>?_);show xFt m2' (m≤tail.length) (d4 m2 (JZ t).symm)
 extract_lets n0
 have Yj:∀n Y tail' Ot,Y.length=n->0<n->xRz->Wj xAU tail->xX Ot (xD7 (xAU))->
   mW (xWV n) (SrP κ a0 x) Ot:=by
  intro n Y tail' Ot lY nY sY tY Xk;have Ox:xEk Ot NR Rs xAU:=⟨⟨pe,Xk,hP⟩,hR.so,hR.len,(x3x tY).trans hR.st'⟩;show iA
  extract_lets v1 jp2
  have Us:∀Pd PQ,xEk Pd NR PQ xAU->mW xUE (SrP κ a0 x) Pd:=by
   intro Pd PQ OB;show Zy pe4 Ui hP4 OB.at' ef ((PQ++[Y]).flatten++tail'=PQ.flatten++(xAU)) (by simp [FJ])
   show x0U (Gq (Tf (PQ++[Y]) tail' (NR+n) ⟨AG ((xRs).push (NR,n,0)) (EE Ui.k Ui.f (by show LT ef Ui.a) (λ p hp=>Ui.has p (by show ρ ef hp hp))),SC r hr,?_,by show LT ef OB.st'⟩ (Fx hxL nY)))
   ·show LT Ui.p (hP4.push OB.len.symm lY.symm)
   ·show BD hr
    ·exact OB.so r z
    ·show Dr r Y (by show xGt) ⟨sY,FZ nY lY.symm⟩
   ·have:=OB.len;simp only [IR,FD,HJ,List.flatten_nil,GU];rw [this,lY]
  clear_value jp2
  cases hb:(pendingOf Ot).back? with
  |none=>
   have:mW xUE (SrP κ a0 x) Ot:=Us Ot Rs Ox;simpa only [hb] using this
  |some e=>
   obtain⟨s1,n1,p1⟩:=e;simp only [hb];show S9 (λ _ c st'=>c=xG5/\∃PQ,xEk st' NR PQ xAU) (Q:=λ c st'=>c=xG5/\∃PQ,xEk st' NR PQ xAU) ?_ aQ (Wr Rs Ox) ?_
   ·rintro x2 c Pd _ _ ⟨rfl,PQ,OB⟩;show iA;show Zy pe4 Ui hP4 OB.at' hs4 (sC=PQ.length) (by show LT Ui.p hP4.size)
    by_cases h2:sC>1
    ·obtain⟨As,X,Y1,Bs,rfl,hj⟩:=xtZ (Rs:=PQ) (j:=sC-2) (hs4▸xhY h2);show S8 pw p1 (hP4.at (i:=sC-2) hj) e1 (SL (oP (sC>1) (xRs)[sC-2]? none) (xK5 X.length pw)) (by
      rw [F8 h2,<-p1,Ui.p])
     rw [e1];dsimp only;refine xx1 (Gq (Wr _ OB)) (wpS_bind (xmh hO OB hj (τ st5 Z hR5)));exact xV6 (Wr _ hR5)
    ·have e1:WF (oP (sC>1) (xRs)[sC-2]? none):=rI;show LT e1 (Gq (Wr PQ OB))
   ·rintro c Pd ⟨rfl,PQ,OB⟩;show x0U (Us _ PQ ?_);show Bq pe4 Ui hP4 OB.at' ⟨Ep (EE Ui.k Ui.f Ui.a Ui.has),OB.so,OB.len,OB.st'⟩;show OF PQ ((xRs).modify (sC-1) _);show LT Ui.p (hP4.modify _ (xP1 e))
 clear_value jp
 by_cases M8:m<Pz
 ·refine xSi M8 xEW;show Cf (xeh hO (P:=Rs.flatten) (Y:=Y) (R:=xDh) (S:=[]) hA2 hR.len.symm sY lY m1 (show m≤xGF (size-NR) from x4X (Gi M8)) (show xGF (size-NR)≤xBo m xDh by rw [FU,Hh m2'];exact d4 DN (JZ t).symm) λ Y' Ot lY' sY' tY' Xk=>?_);refine xMS (Jf (Yj _ Y' (x2w (xGF (size-NR)-m)) Ot lY' (FN m1 (x4X (Gi M8))) sY' ?_ (by simpa using Xk)) λ r st' q=>by cases r<;>exact q);have e1:Wj (Y'++x2w (xGF (size-NR)-m)) ((tail.take m++oM xDh (xGF (size-NR)) m)++x2w (xGF (size-NR)-m)):=(tY'.trans (tY.app WO)).app WO;rw [FJ,Gf,Gf] at e1;exact e1
 ·refine aM M8 (Jf (Yj m Y xDh Qw lY sP sY ?_ (by simpa using hA2)) λ r st' q=>by cases r<;>exact q);have e1:=tY.app (Nu.refl (blt:=κ.blt) (kf:=WU) xDh);show ρ Gf e1 e1
universe SG
namespace SG
open PySem PyProof.Rows
abbrev ltI:Int->lD Int:=λ a b=>vB a b
abbrev xpA {β:Type} (p:Int×β):Int:=Ab
def Up:SM.Ord ltI:=⟨λ a=>Ik x5p,λ a b c h1 h2=>FM (x6X (FQ h2)),λ a b c h=>by
  have:=DQ;by_cases c1:a<b
  ·show BB (FM c1)
  ·show CU (FM (Int.lt_of_le_of_lt (xZi c1) this)),λ a b h1 h2=>by
  have:=Ku h1;have:=Ku h2;lia⟩
def kInt:KeyKind where
 α:=Int
 blt:=λ a b=>vB a b
 irrefl:=λ a=>Ik x5p
 trans:=λ a b c h1 h2=>FM (x6X (FQ h2))
 negTrans:=λ a b c h=>by
  have:=DQ;by_cases c1:a<b
  ·show BB (FM c1)
  ·show CU iF
 total:=λ a b h1 h2=>by
  have:=Ku h1;have:=Ku h2;lia
 keyOf:=λ v=>match v with
  | .int n _=>some n
  |_=>none
 dflt:=0
def xdt:kInt.OneLt:=by
 intro prog w A E s x y a b Q hx hy hq;cases x with
 |int n t=>
  cases y with
  |int m u=>
   show vS hx hy;exact oneLt_int hq
  |_=>cases hy
 |_=>cases hx
theorem xdF {α:Type}{R:NK α α}:∀{l:DU},l.length<2->l.Pairwise R
 | [],_=>.nil
 | [x],_=>by simp
 |x::y::l,h=>by show vW h (Dw (AJ cW) xFw h)
universe SG
namespace L2
open PySem PyProof.Rows QQ
theorem xpa:∀{l1} {x} {l2} {m},PR (l1++x::l2) m->∃m1 y m2,m=m1++y::m2/\PR l1 m1/\(∃t,ze=VU zJ)/\RelV y.2 zy/\PR l2 m2
 | [],x,l2,m,h=>by
  cases h with
  |cons a b c=>exact⟨[],_,_,rfl,.nil,a,b,c⟩
 |z::l1,x,l2,m,h=>by
  cases h with
  |cons a b c=>
   obtain⟨m1,y,m2,rfl,h1,h2,h3,h4⟩:=xpa c;exact⟨_::m1,y,m2,rfl,x3z b h1,h2,h3,h4⟩
def xbp (g:PR l1 m1)(h:PR l2 m2):PR (l1++l2) (m1++m2):=by
 induction g with
 |nil=>exact h
 |cons a b _ ih=>exact x3z b ih
def xiz (h:xJP){k:Int}(hn:∀z∈l,¬SB (xYy wN k z)):∀z∈m,¬SB (xTM k z):=by
 induction h with
 |nil=>intro z hz;cases hz
 |cons a b c ih=>
  intro z hz;show sH hz hz
  ·show z8 t a (oj (Gb ..))
  ·exact ih (λ u hu=>hn u (qM hu)) z hz
theorem xn5:∀{l' l:yx MW MW} {m},xQv wN l' l->xJP->Fq (xQ9 SG.xpA m' m/\PR l' m')
 | [],l,m,hs,h=>by
  have e:=xYU xQ1 hs;cases h with
  |nil=>exact⟨[],xZF,.nil⟩
  |cons a b c=>cases e
 |x::l',l,m,hs,h=>by
  have O:=xQ1;have hx:=SM.Nu.mem O hs (xHh x l');obtain⟨l1,y,l2,rfl,hy,h1⟩:=SM.xsm ⟨x,hx,SM.xrB (blt:=SG.kInt.blt) (kf:=wN) O x⟩;have e:=hs (wN x);have n1:l1.filter (xYy wN (wN x))=[]:=IA.mpr h1;rw [Gm (SM.xrB O x),Gw,n1,Hl,Gm hy] at e;show S8 rfl e2 (K8 e) ht (xQv wN l' (l1++l2)) (λ k=>by
   by_cases hk:SB (xYy wN k x)
   ·have z:=SM.xw9.mp hk;show wX (wN x=k) (xU4 _ i6 CE);rw [Gw,n1,Hl];exact e2
   ·have e3:=hs k;rw [gZ,Gw,gZ] at e3;show LT Gw e3)
  obtain⟨m1,y,m2,rfl,p1,⟨t,hy1⟩,p2,p3⟩:=xpa h;show Zy m' q1 q2 (xn5 ht (xbp p1 p3)) hkx (wN x=zJ) (by
   show S8 x1 x2 x e9 (x1=VU zJ) hy1;subst e9;rfl)
  have km:∀z∈m1,¬SB (xTM zJ z):=by
   show ρ hkx h1 (xiz p1 h1)
  refine AG (y::m') (o6 k)
  ·by_cases hk:SB (xTM k y)
   ·have z:=SM.xw9.mp hk;show wX (zJ=k) (SG.Up.tot _ _ i6 CE);have n2:m1.filter (xTM zJ)=[]:=IA.mpr km;have q:=q1 zJ;rw [Gw,n2,Hl] at q;rw [Gm hk,Gw,n2,Hl,Gm hk,q]
   ·show Ay q (q1 k) Gw q;rw [gZ,Gw,gZ,q]
  ·show CQ x1 x2 x y1 y2 y;exact .cons ⟨t,hy1⟩ p2 q2
def xgi {σ:St}
  (I:ST) (ho:wR a (xKW n)) (fa:DA a) (hl:its.length=ks.length) (NM:x7U)
  (YU:∀(N4:χ) (s':MX) (E':AB) (i:Nat) (x:MW) (k:Int),vw its->A7 ks k->xCH H s'->uJ (xK8 DM) (λ r Qj=>(∃t,r=VU k)/\xCH H Qj) E' s')
  (h:∀(s':MX) (out:Tl) (kv:B5),xBb->(∃e,s'.heap.get? a=some (seqObj "list" (out.map (·.2)) e))->xSv ks->x04->x0y wN pf->P x8O s'):
  uJ (x5Q CV dP) P E s:=by
 rw [xek];have ha:xuC a:=Gk ho;show lG (listItems_at ho rfl ?_) (xGG ho ?_);show xyH e1 XR e1 (wH xUf a xM5) (Bt (Lb ho (λ _=>#[])));have I1:xNB xUf:=I.turn fa;show DR hs1 (xRj (xUf).objs.size) (Heap.size_update ..) xUf h1;show lG (xZt XR ?_) (wpAny_newTuple ?_);show AR xQQ;refine xWS;have ho3:wH (xEL (xDo 0) 0) a xM5:=Qz (Qz XR);have I3:xNB (xEL (xDo 0) 0):=xK9 s.toks (λ b o e=>Qz rR)
 have hc3:wH (xEL (xDo 0) 0) xNQ (jF ([]:B5).toArray 0):=vq;have VA:xyA xNQ:=by rw [size_push',hs1];exact(xV4)
 have fc:DA xNQ:=xQO VA VA;have nac:a≠xNQ:=gH ha VA;show uJ _ P E (vk (xEL (xDo 0) 0));show xuB xNQ c (xEL (xDo 0) 0) h3;dsimp only;show lG (J8 ?_) (wpAny_forIn_array' _ (λ rest _ s'=>∃(i:Nat) (kv:B5),rest=its.drop i/\i≤its.length/\xSv (ks.take i)/\xBb/\iu a xM5/\∃e2,iu c (x7P e2)) _ ?_ ?_ _ _ ⟨0,[],rfl,AM,.nil,I3,ho3,0,hc3⟩)
 ·rintro x rest _ s' ⟨i,kv,hr,hi,Xg,I',hoa,e2,Q0⟩;have hx:vw its:=by
   have:Aq (its.drop i) 0 x:=by rw [<-hr];rfl
   rw [Js] at this;show jk
  have OL:i<its.length:=Fg hx;have hk:A7 ks ks[i]:=FL (rS [_,_,_] 2 On Θ On Os hl OL);have YR:rest=its.drop (i+1):=by
   show ρ (Ig OL) hr (K8 hr).2
  have Ip:=I'.pinned (fp:=[a,c]) (BA (by
   show UN
   ·exact fa
   ·show Qe hb fc)) (BA (by
   show UN
   ·exact Ax hoa xs8
   ·show Qe hb (Ax Q0 xs8)))
  show AR (Kl (Z0 (YU _ s' _ i x ks[i] hx hk Ip) (τ r Qj z9) e e));obtain⟨⟨t,hrv⟩,I''⟩:=z9;subst hrv;have hoa':SL (Qj.heap.get? a) xM5:=(I''.pin _ (xYn Z6 hoa)).1;have hoc':SL (Qj.heap.get? c) (x7P e2):=(I''.pin _ (xYn Z6 Q0)).1;have I2:=I''.unpinned;have TF:kv.length=i:=by rw [Xg.length,FW];lia
  dsimp only;show AR (xGG hoc' vD (hsz:=by rw [F1,TF,J3];exact(Z3 [_,_] 1 LE xMx LE 16777216 NM hi)) (hsz2:=by rw [Array.size_push,F1,TF,J3];exact(Fp [_,_] 1 LE xMx On x2E NM hi)));refine⟨i+1,kv++[VU ks[i]],YR,OL,?_,I2.turn fc,?_,?_⟩
  ·rw [HC,hk];exact xgs Xg
  ·show xKy c _ a=_;show OK _ nac hoa'
  ·have e:=Lb hoc' (λ x=>x.push (xzg ks[i]));show ρ List.push_toArray e uS
 ·rintro _ s' ⟨i,kv,hr,hi,Xg,I',hoa,e2,Q0⟩;have hie:xyY i:=by
   show SK (yt hr) FU;show vW this (BC (xCX hi) (Fp [_,_,_] 2 Os (bV qA) Os LE wO Ω))
  rw [hie,hl,Hc] at Xg;have TF:xyY kv.length:=by rw [Xg.length,hl]
  have hz:xyY x2t:=by show CR Array.size_zip;exact HY (Fz TF.symm)
  have I4:xG (xTm xVV):=I'.turn fc;have YI:wH xVV a xM5:=by show OK _ nac hoa
  have fin:∀out:Tl,x04->x0y wN pf->P x8O (xTm ((xVV).update a (Obj.mapSeq λ _=>out.map (·.2)))):=by
   intro out hp hs;show hJ e5 (Lb YI (λ _=>out.map (·.2))) xVV h4;show DR I5 (xG (xTm (x4p a))) (Inv.turn (s:=xTm h4) I4 fa) (x4p a) h5;exact vZ out kv I5 (Bt e5) Xg hp hs
  show AR (listItems_at Q0 rfl ?_);by_cases h2:its.toArray.size<2
  ·rw [F8 h2,F8 h2];show AR vD;show xAv StateT.run_pure vD;dsimp only;show lG (xGG Q0 ?_ (hsz:=by rw [F1,TF,J3];exact(xU 1000 16777216 NM))) xTQ;show lG (xZt YI ?_) (xGG YI ?_ (hsz2:=by rw [Array.size_map];show x2t≤_;rw [hz,J3];exact(By AV LE (.n 1000) LE x2E NM)));simp only [bne_self_eq_false,IJ,K1];refine F3 (fin _ (SG.xdF ?_) ?_)
   ·rw [HD];show x2t<2;show ρ F1 h2 (lt_of_eq_of_lt hz h2)
   ·have:qp xC2 pf:=Z6;show SM.Nu _ _ (xC2).toList _;show LT this xZF
  ·rw [rI,rI];rw [F1] at h2;have hkk:keyKind' kv.toArray=pure oneType':=by
    match kv,Xg,TF with
    | [],_,TF=>show vW TF (Dw (U6 2) xFz (d8 (Hg h2) TF.symm))
    | [_],_,TF=>show vW TF (Dw (U6 2) On (d8 (Hg h2) TF.symm))
    |v₁::v₂::vs,Xg,_=>exact keyKind_ints Xg
   show xAv hkk vD;have hzl:qp xC2 pf:=Z6;have hik:oE (arrOf (x5q xC2 #[] 7 none)).toList (SG.xjg SG.kInt p):=by
    intro p hp;have hp':p∈pf:=by show Bg hzl hp
    show B8 n t e (Xg.all _ (K7 hp').1) ⟨n,by show Dn⟩
   show AR (Z0 (SG.xda SG.xdt (sq0:=x5q xC2 #[] 7 none)
    (Q:=λ _ st'=>x5y (SG.xrD SG.kInt)/\xyQ st'/\xQv wN (xDI).toList pf)
    rfl rfl rfl hik λ st' a1 a2 a3=>⟨a2,a1,by show Bg hzl a3⟩) ?_ e e)
   rintro⟨⟨⟩,st'⟩ Qj ⟨rfl,hp,hf,hs⟩;have hsz9:xyY (xDI).size:=by rw [<-HD,xYU xQ1 hs,Kz,TF,Nat.min_self]
   dsimp only;show lG (xGG Q0 ?_ (hsz:=by rw [F1,TF,J3];exact gQ NM)) xTQ;show lG (xZt YI ?_) (xGG YI ?_ (hsz2:=by rw [Array.size_map,hsz9,J3];exact(By AV LE (.n 1000) LE x2E NM)));rw [hf];simp only [bne_self_eq_false,IJ,K1];exact F3 (fin _ hp hs)
def xfw {σ:St}
  (I:ST) (hp:x7q) (hl:its.length=ks.length) (NM:x7U)
  (YU:∀(N4:χ) (s':MX) (E':AB) (i:Nat) (x:MW) (k:Int),vw its->A7 ks k->xCH H s'->xKd X.A.in1.in1 (xK8 DM) (λ r Qj=>(∃t,r=VU k)/\xCH H Qj) E' s')
  (h:∀(s':MX) (l:MV) (out:Tl) (kv:B5),xBb->DA l->(∃e,s'.heap.get? l=some (seqObj "list" (out.map (·.2)) e))->xSv ks->x04->x0y wN pf->Q A8 s'):
  pM (xuL "sorted" Bf dP) Q E s:=by
 refine call_function_entry_kw kind_sorted plain_sorted entry_sorted (xeo _ _) ?_;unfold Builtin.«sorted»;refine FG (m:=checkCount "sorted" 1 1 _) vD;show lG (collect_list hp ?_) xQQ;have hsz:((s.heap.push (seqObj "list" #[] 0)).update s.heap.objs.size (Obj.mapSeq (·++its.toArray))).objs.size=K':=by
  rw [Heap.size_update,size_push']
 have hoL:wH (((s.heap.push (seqObj "list" #[] 0)).update s.heap.objs.size (Obj.mapSeq (·++its.toArray))).push (seqObj "list" its.toArray 0)) K' (xKW 0):=by
  show Bg hsz vq
 have I2:xNB (x4a (xKW 0)):=xS7 (λ b o e=>
  Qz (by show OK _ xMz rR))
 show qL _ (vk (x4a (xKW 0)));rw [hsz];have fl:DA K':=xQO yu yu;show AR (HR (wpAny_call_entry_kw slot_list_sort (m7 hoL) entry_list_sort (xgi I2 hoL fl hl NM YU λ s' out kv a1 a2 a3 a4 a5=>Ep rfl) (xd2 _ _)));exact F3 (Υ (h s' _ out kv a1 fl a2 a3 a4 a5))
def xan (K:Frag)(sp:Sp)(t:TA):TE:=λ σ H Q=>SY zs (∃(p:MV) (xs:NE) (ks:wd),zs=Bf/\TX H1 p/\xEN ks.length/\kM xs.length/\
 (∀(i:Nat) v k,TO->A7 ks k->sp [v] H1 (λ r H2=>r=xWq/\H2=H1) E0)/\
 ∀l m,vz l->(m.map (·.1)).Pairwise (·≤·)->xQ9 SG.xpA m (ks.zip xs)->Q A8 (upd H1 l (.lst (m.map (·.2)))))
def xmH {fe:M3}{p:Pos}{kp:Pos}{pos:Pos}{y:Str}{t:TA}(F:xKP Ni k f fd SO sp)(hr:xyL (k+2))(hb:xyl X.K SO [])(hg:xze "sorted")(hm:kH "sorted")(hf:cw fe yv)(ha:iy [e] t)
  (he:Κ (xzn (e:: [])=wo::xzn [])) (Rp:x4g)
  (NC:Κ ((backToKw pos (keywordEach [⟨some "key",fe,kp⟩] X.env)).all (·.1.isSome)=true))
  (hkw:Κ ((backToKw pos (keywordEach [⟨some "key",fe,kp⟩] X.env)).any (·.1.isNone)=false))
  (hfm:Κ ((backToKw pos (keywordEach [⟨some "key",fe,kp⟩] X.env)).filterMap (·.1)=[("key":Str)])):
  rf "sorted" p [e] [⟨some "key",fe,kp⟩] (xan X.K sp t):=by
 intro M6 s σ H Q I h;show Wp (IC (xJx (show xDn "sorted" (.builtin "sorted") from Z8) ?_)) (x40 e (rest:=[]) xIG he Rp NC hkw);show xNA vs;refine kws_cons (thn (hf M6 s1 σ H1 (λ v H2=>v=yv/\H2=H1) I1 vf) λ fv s2 ⟨v,H2,I2,r2,e1,e2⟩=>kws_nil ?_);subst e1 e2;obtain rfl:fv=Value.ref f:=r2;rw [hfm];obtain⟨p,xs,ks,rfl,hq,hlen,NM,Sq,q⟩:=q1;show ie u ru (xq5 r1);obtain rfl:u=Value.ref p:=ru;show xyo rv pl hz (I2.list hq);show AO OL;show qL (xuL "sorted" Bf dP) s2;refine xfw (ks:=ks) I2 pl.isList Z5 (W4 OL.symm NM) (λ N4 s' E' i x k' hx hk I'=>?_) λ s' l out kv I' fl ⟨en,ho⟩ Xg hp hs=>?_
 ·show SX v hv rvv v (TO/\RelV v x) (by
   have hix:oQ:=by show AY (Fg hx) (x3n OL.symm)
   obtain⟨u,e3,r3⟩:=xHP i xs[i] (FL hix);show zL hx e3 e3 (Ax (FL hix) r3))
  refine Lp (KU (xRS X.A.in1.in1 s' H2 (WD DM) DM [v] _ E0 hr.in1.in1 I'.env0.in1.in1 (hb s' DM I'.kIn rfl) (xyv rvv) (Sq i v k' hv hk)) (τ r Qj hq));cases r with
  |error e=>show iQ
  |ok fl=>
   cases fl with
   |ret u=>
    obtain⟨v',H',I'',rr,e1,e2⟩:=I'.after hq;subst e1 e2;show A5 rr I''
   |next=>show iQ
   |brk=>show iQ
   |cont=>show iQ
 ·show Y3 m OR hpr (xn5 hs (xbQ Xg rv)) hvals (xaC hpr);have hml:=xbR hpr;have hol:xyY out.toList.length:=by rw [xYU xQ1 hs,Kz,Xg.length];lia
  refine Vj A8 _ (I'.adopt fl (its:=out.toList.map (·.2)) hvals (by rw [Fy];rw [J3];lia) (n:=en) (by rw [ho,<-Array.toList_map])) (q l m fl.1 ?_ OR);rw [Hs];intro i j hi hj ZO;rw [Fy] at hi hj;have key:pk i h (i<m.length) h2 (i<out.toList.length) (wN (out.toList[i]' h2)=m[i].1):=by
   intro i hi hi2;show Zy t v e (xcF hpr (FL hi)) e' (out.toList[i]=(VU m[i].1,v)) (Gg ((FL hi2).symm.trans e));show Af e'
  have l1:=X5 hp i j Z5 Z5 ZO;rw [List.getElem_map,List.getElem_map];have l2:Ρ (SG.kInt.blt (wN (out.toList[j]' Z4)) (wN (out.toList[i]' Z4))):=l1;rw [key i hi,key j hj] at l2;have l3:¬m[j].1<m[i].1:=Re (by
   have:SB (SG.kInt.blt m[j].1 m[i].1):=xAp;show Μ this l2 l2)
  exact Int.not_lt.mp l3
universe L2
namespace PM
abbrev Bd:=Nat×Id
def pairs:BG->BG
 |a::b::r=>(Dj+xY,xIo++oF)::xTn
 |_=>[]
def occ (R:BG)(p:Nat):Nat:=(R.map λ b=>VJ oF).sum
def N5 (B:BG):Prop:=B.Pairwise λ a b=>Dj≤xY
def im {a b:Id}(h:a.Perm b):a.sum=b.sum:=by
 induction h with
 |nil=>rfl
 |cons x _ ih=>simp [ih]
 |swap x y l=>simp;exact Nat.add_left_comm _ _ _
 |trans _ _ h1 h2=>exact h1.trans h2
def xl3 {R S:BG}(h:R.Perm S)(p:Nat):uH=wC S:=im (h.map _)
def lf (R S:BG)(p:Nat):wC (R++S)=uH+wC S:=by simp [occ]
def xvm (b:Bd)(S:BG)(p:Nat):wC (b::S)=VJ oF+wC S:=by simp [occ]
def xcS {R U X Y:BG}(h:aO R U (X++Y)):∃RX RY UX UY,R.Perm (RX++RY)/\U.Perm (UX++UY)/\X.Perm (RX++UX)/\Y.Perm (RY++UY):=by
 induction R generalizing X Y with
 |nil=>exact⟨[],[],X,Y,.nil,h,xU5,xU5⟩
 |cons r R ih=>
  have hr:r∈X++Y:=h.subset Gb;show EM hr hX hY
  ·have e:=KJ hX;have h2:aO R U (X.erase r++Y):=x5W (e.append_right Y);obtain⟨RX,RY,UX,UY,h3,h4,h5,h6⟩:=ih h2;exact⟨r::RX,RY,UX,UY,h3.cons r,h4,e.trans (h5.cons r),h6⟩
  ·have e:=KJ hY;have h2:aO R U (X++Y.erase r):=x5W ((e.append_left X).trans Kp);obtain⟨RX,RY,UX,UY,h3,h4,h5,h6⟩:=ih h2;exact⟨RX,r::RY,UX,UY,(h3.cons r).trans Kp.symm,h4,h5,e.trans (h6.cons r)⟩
def xgN:∀(n:Nat) {B RP UP:BG},xIN->N5 B->aO RP UP vH->(∀r∈RP,∀u∈UP,r.1≤u.1)->
  ∃R U,aO R U B/\(∀r∈R,∀u∈U,r.1≤u.1)/\xGq (xUH 2)/\(∀p,uH=wC RP)/\∀r∈R,∃q∈RP,∃x∈B,C4=r.1+ze:=by
 intro n
 induction n with
 |zero=>
  intro B RP UP hB _ h _;have e:B=[]:=Ib.mp x4z;subst e;have:RP=[]/\UP=[]:=by
   have:=xU6;show jk
  show uN this (Qc [] [] .nil (QB (by show DK)) E2 (QB (by show DK)))
 |succ n ih=>
  intro B RP UP hB hs h hle
  match B,hB,hs,h with
  | [],_,_,h=>
   have:RP=[]/\UP=[]:=by
    have:=xU6;show jk
   show uN this (Qc [] [] .nil (QB (by show DK)) E2 (QB (by show DK)))
  | [x],_,_,h=>
   have:RP=[]/\UP=[]:=by
    have:=xU6;show jk
   show uN this (Qc [] DM xU5 (QB (by show DK)) E2 (QB (by show DK)))
  |a::b::r,hB,hs,h=>
   have V0:N5 r:=xMm (xMm hs);have ha:=xLR hs;have hb:=xLR (xMm hs);have hab:Dj≤xY:=ha b Gb;have hm:(Dj+xY,xIo++oF)∈RP++UP:=h.symm.subset Gb;show EM hm hR hU
   ·have e:=KJ hR;have h2:aO (RP.erase (Dj+xY,xIo++oF)) UP xTn:=((e.append_right UP).symm.trans h).cons_inv;obtain⟨R,U,h3,h4,h5,h6,h7⟩:=ih (by show vW hB (Jj hB)) V0 h2 λ x hx u hu=>hle x (LA hx) u hu
    show Ay hl e.length_eq F2 hl;refine⟨a::b::R,U,(h3.cons b).cons a,?_,?_,o6 p,?_⟩
    ·intro x hx u hu;have hur:u∈r:=h3.subset (P1 hu);show sH hx hx
     ·exact ha u (qM hur)
     ·show sH hx hx
      ·exact hb u hur
      ·exact h4 x hx u hu
    ·rw [F2,F2,h5];lia
    ·rw [xl3 e p,xvm,xvm,xvm,h6 p];show _=VJ (xIo++oF)+_;rw [J7];lia
    ·intro x hx;show sH hx hx
     ·exact iH hR b Z6 rfl
     ·show sH hx hx
      ·exact iH hR a Z6 (Kh _ _)
      ·show Cc q hq y hy e (h7 x hx) ⟨q,LA hq,y,qM xzY,e⟩
   ·have e:=KJ hU;have h2:aO RP (UP.erase (Dj+xY,xIo++oF)) xTn:=(Kp.symm.trans ((e.append_left RP).symm.trans h)).cons_inv;obtain⟨R,U,h3,h4,h5,h6,h7⟩:=ih (by show vW hB (xI5 hB)) V0 h2 λ x hx u hu=>hle x hx u (LA hu)
    have key:yT R (ze≤Dj/\ze≤xY):=by
     intro x hx;obtain⟨q,hq,y,hy,e⟩:=h7 x hx;have h8:C4≤Dj+xY:=hle q hq _ hU;have h9:=hb y hy;show A5 (B7 [_,_,_,_,_] xMu ml (DX (rn Θ)) LE Os xu2 (Fx h8 h9)) (Fp [_,_,_,_,_] 1 (.a xMu ml) (CN (DX (rn Θ))) LE Tm hab (Bb xu2 h8 h9))
    refine⟨R,a::b::U,?_,?_,h5,h6,xQl⟩
    ·exact Kp.trans ((Kp.trans (h3.cons b)).cons a)
    ·intro x hx u hu;show sH hu hu
     ·exact(key x hx).1
     ·show sH hu hu
      ·exact(key x hx).2
      ·exact h4 x hx u hu
    ·show Cc q hq y hy e (h7 x hx) ⟨q,hq,y,qM xzY,e⟩
inductive xvz (sg:BG):lT BG
 |zero:xvz sg 0 []
 |step {k:Nat} {B B':BG}:xvz sg k B->B'.Perm (sg++vH)->N5 B'->xvz sg (k+1) B'
def sgl (wt:Cs) (p:Nat):Bd:=(xIe,[p])
def xlH {wt:Cs}{L:Id}{RX UX:BG}(h:(Et).Perm (RX++UX)):∃RL UL,L.Perm (RL++UL)/\RX=RL.map qC/\UX=UL.map qC:=by
 have g:lH (RX++UX) (qC ((oF).headD 0)=b):=by
  intro b hb;obtain⟨p,_,rfl⟩:=IK.mp (h.symm.subset hb);rfl
 refine⟨RX.map (·.2.headD 0),UX.map (·.2.headD 0),?_,?_,?_⟩
 ·show zc (h.map (·.2.headD 0)) Ii FV;have e:((λ b:Bd=>(oF).headD 0)∘qC)=id:=by funext p;rfl
  rw [e,List.map_id] at this;exact this
 ·rw [Ii]
  conv=>lhs;rw [<-List.map_id RX]
  exact KR (BA (g b (fu hb)).symm)
 ·rw [Ii]
  conv=>lhs;rw [<-List.map_id UX]
  exact KR (BA (g b (P1 hb)).symm)
theorem xoA {wt:Cs}:∀{M:Id} {p:Nat},wC (M.map qC)=M.count p
 | [],p=>rfl
 |q::M,p=>by
  rw [HH,xvm,xoA];show VJ [q]+_=_;rw [K0,K0];simp;exact Kh _ _
theorem xm8 {p:Nat}:∀{M:Id},M.Nodup->p∈M->M.count p=1
 | [],_,h=>by show DK
 |a::M,hn,h=>by
  have hn':=Lc.mp hn;rw [K0];by_cases e:a=p
  ·subst e;show CR (Jx hn'.1)
  ·have hm:p∈M:=by
    show WX h h h
    ·show AX h.symm e
    ·exact h
   rw [xm8 hn'.2 hm];simp [e]
def xuZ (R:BG)(k:Nat)(S:Id):Nat:=xRT (λ p=>2^(k-uH))
def wf {S:Id}{f:Cs}{c:Nat}(h:oE S (f p=c)):xRT f=lP c:=by
 induction S with
 |nil=>rfl
 |cons a S ih=>
  rw [HH,KG,aw a,ih λ p hp=>QC p hp,F2,Nat.mul_succ];exact Kh _ _
def xgy {S:Id}{f g:Cs}(h:oE S (f p=g p)):xRT f=xRT g:=by rw [KR h]
def xhc {wt:Cs}{L:Id}(hL:L.Nodup)(hw:oE L (0<xIe)){k:Nat}{B:BG}(lv:xGW k B):N5 B/\(o8 (0<xY))/\
  ∀R U,aO R U B->(∀r∈R,∀u∈U,r.1≤u.1)->∃S T,L.Perm (S++T)/\(oE S (AK uH/\uH≤k/\qC p∈R))/\(∀p,p∉S->uH=0)/\2*xuZ R k S+2^k*R.length=lP (2^(k+1)):=by
 induction lv with
 |zero=>
  refine⟨.nil,QB (by show DK),λ R U h _=>?_⟩;have:R=[]/\U=[]:=by
   have:=xU6;show jk
  show uN this ⟨[],L,xU5,QB (by show DK),jG,rfl⟩
 | @step k B B' _ hp hs ih=>
  show Zy hsB Pf ih ih pos_pairs (∀(n:Nat) (B:BG),xIN->(o8 (0<xY))->lH vH (0<xY)) (by
   intro n
   induction n with
   |zero=>intro B hB _ b hb;show wX (B=[]) (Ib.mp (uv (By AV LE Cy LE Cy hB)));show xFu hb
   |succ n ih2=>
    intro B hB h b hb
    match B,hB,h,hb with
    | [],_,_,hb=>show xFu hb
    | [x],_,_,hb=>show xFu hb
    |x::y::r,hB,h,hb=>
     show UN
     ·have:=aw x;show 0<ze+zJ;exact Nat.add_pos_left this _
     ·exact ih2 r (by show vW hB (xI5 hB)) (BA (QC b xM3)) b hb)
  refine⟨hs,rK,λ R U h hle=>?_⟩
  ·show EM xYV hb hb
   ·show B8 p hpL rfl xTz (hw p hpL)
   ·exact pos_pairs _ B UV Pf b hb
  ·obtain⟨RX,RP,UX,UP,h1,h2,h3,h4⟩:=xcS (h.trans hp);obtain⟨RL,UL,h5,rfl,rfl⟩:=xlH h3;have mR:∀b,b∈RL.map qC\/b∈RP->b∈R:=BA (h1.symm.subset (F6.mpr hb))
   have mU:∀b,b∈UL.map qC\/b∈UP->b∈U:=BA (h2.symm.subset (F6.mpr hb))
   obtain⟨R',U',h6,h7,h8,h9,V5⟩:=xgN _ UV hsB h4.symm λ r hr u hu=>hle r (mR r (.inr hr)) u (mU u (.inr hu))
   obtain⟨S,T,Qy,h12,h13,h14⟩:=ih R' U' h6 h7;have hocc:∀p,uH=RL.count p+wC R':=λ p=>by rw [xl3 h1 p,lf,xoA,h9 p]
   have hndR:RL.Nodup:=x41 (h5.nodup_iff.mp hL);have hndS:S.Nodup:=x41 (Qy.nodup_iff.mp hL);have hsub:oE S (p∈RL):=by
    intro p hpS;have hpL:p∈RL++UL:=h5.subset (Qy.symm.subset (fu hpS));show EM hpL hh hh
    ·exact hh
    ·obtain⟨q,hq,x,hx,e⟩:=V5 _ (CJ (h12 p hpS));have:=hle q (mR q (.inr hq)) _ (mU _ (.inl (LZ hh)));have hx0:=Pf x hx;have e':C4=xIe+ze:=e;have:C4≤xIe:=this;exact U5 [_,_,_] (.a Θ (A9 DW)) vF (Bb xu2 this hx0)
   have hcnt:oE RL (RL.count p=1):=λ p hp=>xm8 hndR hp
   refine⟨RL,UL,h5,λ p hpR=>oB ?_ (mR _ (.inl (LZ hpR))),SC p hpR,?_⟩
   ·rw [hocc,hcnt p hpR];exact Gz 1 _
   ·rw [hocc,hcnt p hpR];by_cases hpS:p∈S
    ·show AY (A4 (h12 p hpS)) (mH LE bq this)
    ·show LT (h13 p hpS) (Qa (Zr AU))
   ·rw [hocc,Jx hpR,h13 p (Re (hpR (hsub p z)))]
   ·
    have hspl:RL.Perm (S++xTe p (! xUO p S)):=by
     have e1:RL.Perm (RL.filter (xF p (p∈S))++xTe p (! xUO p S)):=(List.filter_append_perm _ _).symm;refine e1.trans (List.Perm.append_right _ ?_);rw [List.perm_ext_iff_of_nodup (hndR.filter _) hndS];intro p;simp only [IW,decide_eq_true_eq];show A5 (λ h=>fG) (λ h=>⟨hsub p h,h⟩)
    have hkr:xuZ R (k+1) RL=xuZ R' k S+2^k*(xTe p (! xUO p S)).length:=by
     unfold xuZ;have e2:(RL.map λ p=>2^(k+1-uH)).sum=(RL.map λ p=>2^(k-wC R')).sum:=by
      refine xgy Zc
      rw [hocc,hcnt p hp,show k+1-(1+wC R')=k-wC R' by lia]
     rw [e2,im (hspl.map _),FV,JF];congr 1;refine wf Zc
     simp only [IW,My,decide_eq_false_iff_not] at hp;rw [h13 p hp.2,Ki]
    have hlR:=h1.length_eq;have hlS:=hspl.length_eq;rw [FD,Fy] at hlR;rw [FD] at hlS;rw [hkr,hlR,Iq 2 (k+1),Iq 2 k];rw [h8,Iq 2 k] at h14;show xuB (xTe p (! xUO p S)).length xl (2^k) q;rw [hlS];have e0:∀z,q*2*z=2*(q*z):=Re (by rw [HM q 2,HQ])
    have e00:∀z,q*2*2*z=4*(q*z):=Re (by rw [HQ (q*2) 2 z,e0 (2*z),MB q 2 z];exact EN AV (xIE vp) (yk 4) AV (yk 4) (xIE vp))
    have e3:q*(xUH 2)=2*(xUH q):=by rw [MB]
    have e4:lP (q*2)=2*(lP q):=e0 _;have e5:q*2*(xuQ xl+RP.length)=2*(lP q)+2*(q*xl)+2*(xUH q):=by
     rw [e0,JH q,JH q];exact EN [_,_,_] (xIE xD6) (xV1 vC TY) [_,_,_] (xV1 vC TY) (xIE xD6)
    have e6:q*2*2*(xuQ xl)=4*(lP q)+4*(q*xl):=by
     rw [e00,JH q];exact JH 4 _ _
    rw [e5,e6];rw [e3,e4] at h14;exact BC (By [_,_,_,_] (O5 xAf) TY (CD 2 P3 (.a (xIv vC) xAf)) (VM 4 (ER 4)) (Fz h14)) (By [_,_,_,_] TY (O5 xAf) (VM 4 (ER 4)) (CD 2 P3 (.a (xIv vC) xAf)) (Fz h14.symm))
theorem xdM:∀(n:Nat) {B:BG},xIN->B4 vH (B.length/2)
 |0,[],_=>rfl
 |_+1,[],_=>rfl
 |_+1,[_],_=>by simp [pairs]
 |n+1,a::b::r,hB=>by
  have h1:=xQd n r (by show vW hB (xI5 hB));rw [pairs,F2,h1,F2,F2];exact BC (EL 2 [_,_,_] (O5 (AJ xzR)) (CN x2S) On Os xXy) (EL 2 [_,_,_] (pO vC) (.a (CF vp 2) xzR) Os On (ZY zK))
theorem xpe {L:Id}:∀(n:Nat) {B:BG},xIN->(o8 (oE oF (p∈L)))->lH vH (oE oF (p∈L))
 |0,[],_,_,_,hb=>by cases hb
 |_+1,[],_,_,_,hb=>by cases hb
 |_+1,[_],_,_,_,hb=>by cases hb
 |n+1,x::y::r,hB,h,b,hb=>by
  show UN
  ·exact λ p hp=>kb hp (aw x p) (QC y Gb p)
  ·exact xpe n (by show vW hB (xI5 hB)) (BA (QC b xM3)) b hb
def xbq {L:Id}{wt:Cs}{k:Nat}{B:BG}(lv:xGW k B):o8 (oE oF (p∈L)):=by
 induction lv with
 |zero=>intro b hb;cases hb
 | @step k B B' _ hp hs ih=>
  intro b hb;show EM xYV hb hb
  ·show B8 p hpL rfl xTz (λ q hq=>by show Qe hq hpL)
  ·exact xpe _ UV ih b hb
def xbk {L:Id}{wt:Cs}{k:Nat}{B:BG}(lv:xGW k B):EV*2^k+1≤xFk (2^k)+EV+2^k:=by
 induction lv with
 |zero=>simp
 | @step k B B' _ hp hs ih=>
  have hl:=hp.length_eq;rw [FD,Fy,xQd _ B UV] at hl;rw [hl,Iq];have h2:xKG (2*(B.length/2)+1):=(BX On x2S LE (AJ vC) zK);show xuB (B.length/2) h B.length b;show xuB L.length n (2^k) q;have h3:q*b≤q*(2*h+1):=uP h2;have e1:q*(2*h+1)=2*(q*h)+q:=by rw [JH,MB];exact EN [_,_] (O5 (xA9 1)) xz0 [_,_] xz0 (O5 (xA9 1))
  have e2:2*n*q=2*(q*n):=by rw [HQ,HM n]
  have e3:2*n*(q*2)=4*(q*n):=by rw [<-HQ,e2];exact EN AV (.w vp 2) (yk 4) AV (yk 4) (.w vp 2)
  have e4:q*2*(n+h)=2*(q*n)+2*(q*h):=by rw [HM q 2,HQ,JH q];exact JH 2 _ _
  rw [e3,e4];show ρ e2 ih (B7 [_,_,_,_,_,_] xME xEU (.a (xzP (rZ TY)) (mi 5 (xIC Be))) (AJ (yk 4)) (.a (xV1 vC TY) (.w Be 2)) ih (d8 h3 e1))
def best {L:Id}{wt:Cs}(hL:L.Nodup)(hw:oE L (0<xIe)){m:Nat}{B:BG}(lv:xGW m B)(hn:RC 2)(hm:kO (2^m)):
  (oE L (AK xXe/\xXe≤m))/\(∀p,p∉L->xXe=0)/\
  (L.map λ p=>2^(m-xXe)).sum≤2^m:=by
 show Zy hs Pf hpart (xhc hL hw lv) hlen (yz (EV-2)) (by
  have h1:=xbk lv;have h0:0<2^m:=jo;show CM B.length (EV-2) h h
  ·exfalso;have h2:2^m*(a9 3)≤2^m*(EV):=uP (B7 [_,_,_] On (Vh 2 2) (CN vC) rg vC h (Dq AV xFw LE xFw vp hn));rw [JH] at h2;show ρ (HM EV) h1 (WT [_,_,_,_] (O5 (pO (DX (xA9 3)))) (xIC (pV (vA (DX vp)))) (Bb (bh hm) h1 h2))
  ·exact h)
 have Ym:B4 xF8 (EV-2):=by show UK (G2 hlen)
 have VS:aO xF8 (B.drop (EV-2)) B:=by rw [Gf]
 have hle:∀r∈xF8,∀u∈B.drop (EV-2),r.1≤u.1:=by
  have:N5 (xF8++B.drop (EV-2)):=by show LT Gf hs
  exact CJ (F5.mp this)
 obtain⟨S,T,h1,h2,h3,h4⟩:=hpart _ _ VS hle;rw [Ym] at h4;generalize xF8=R at*;show Ay hlL h1.length_eq FD hlL;have hT:T=[]:=by
  rcases JW T.length with h|h
  ·exact Ib.mp h
  ·exfalso;have h0:0<2^m:=jo;have h5:lP (2^(m+1))≤2^m*(EV-2):=by
    have:lP 2≤EV-2:=(Bu [_,_,_,_] (CD 2 qE (CD 2 DW TY)) (xIv (xIB (Rn 2))) vp Os (Es 2 hlL.symm) (Fx (bh h) Ω));rw [Iq,HQ];exact uP this
   have Qx:xuZ R m S=0:=(uv (B7 [_,_,_] xz0 Tm DC LE Cy (Fz h4) h5));have hS0:S=[]:=by
    match S,Qx with
    | [],_=>rfl
    |p::S',Qx=>
     exfalso;unfold xuZ at Qx;rw [HH,KG] at Qx;have:0<2^(m-uH):=jo;exact(WT [_,_] (xR8 DW) xAd (Vt (Fz Qx)))
   subst hS0;rw [Qx] at h4;have h6:2^m*(EV-2)=0:=by simpa using h4
   rcases Nat.mul_eq_zero.mp h6 with h|h<;>lia
 subst hT;rw [GU] at h1;rw [K6,Jn] at hlL;have hkL:xuZ R m S=(L.map λ p=>2^(m-uH)).sum:=(im (h1.map _)).symm;refine AG Zc (λ p hp=>h3 p (Re (hp (h1.symm.subset z))))
 ·obtain⟨a,b,_⟩:=h2 p (h1.subset hp);show A5 a b
 ·rw [<-hkL];rw [<-hlL,Iq] at h4;have e:2^m*(EV-2)+2*2^m=2^m*2*L.length:=by
   rw [HM 2 (2^m),<-JH,HQ];congr 1;exact BC (BX xFy vC xFy vC (Dq AV xFw LE xFw vp hn)) (BX vC xFy vC xFy Ω)
  exact(BF 2 [_,_,_,_] (xzP (O5 Tm)) (DX (CN vC)) Os (xEK (Fz h4)))
def xak {wt:Cs}{p:Nat}{k:Nat}{B:BG}(lv:xvz ([p].map qC) k B):k=0\/B=[qC p]:=by
 induction lv with
 |zero=>exact Dm
 | @step k B B' _ hp hs ih=>
  right
  have:vH=[]:=by
   show Ru ih
   ·rename_i h;cases h;rfl
   ·rfl
  show ρ this hp (List.perm_singleton.mp hp)
def xvC (P:Id)(wt:Cs)(m:Nat)(ln:Cs):Prop:=
 (oE P (AK xBL/\xBL≤m))/\(∀p,p∉P->xBL=0)/\xZ3 (λ p=>2^(m-xBL))≤2^m
def xvC.perm {P L:Id}{wt:Cs}{m:Nat}{ln:Cs}(h:xvC L wt m ln)(hp:L.Perm P):xvC P wt m ln:=by
 show B8 h1 h2 h3 h ⟨λ p hpP=>h1 p (hp.symm.subset hpP),λ p hpP=>h2 p (Re (hpP (hp.subset z))),by show Bg (im (hp.map _)) h3⟩
def xgC {L:Id}{wt:Cs}(hL:L.Nodup)(hw:oE L (0<xIe)){m:Nat}{B:BG}(lv:xGW m B)(h1:RC 1)(ZH:AK m)(hm:kO (2^m)):
  xvC L wt m (occ (xy8 1 (EV-2))):=by
 by_cases hn:RC 2
 ·have e:xO4 (EV-2)=EV-2:=Z5;show vU (best hL hw lv hn hm)
 ·match L,h1,hn,hL,hw,lv with
  | [p],_,_,_,hw,lv=>
   rcases xak lv with h|rfl
   ·exact Dw bq xFz (d8 ZH h)
   ·have e:∀q,occ ([qC p].take (xO4 (2* [p].length-2))) q=xFe [p]:=λ q=>by
     show occ [qC p] q=_;rw [xvm];show xFe [p]+occ [] q=_;rfl
    have ep: VJ [p]=1:=Z6;refine AG (SC q hq) (SC q hq)
    ·rw [Ge.mp hq,e,ep];show A5 UV ZH
    ·show vU (Jx hq)
    ·rw [HH,Mm,KG,List.sum_nil,e,ep];have:2^(m-1)≤2^m:=xA4 (HV _ 1)
     assumption
  |a::b::r,_,hn,_,_,_=>show AX Z6 hn
universe PM
namespace SM
theorem xqr {kf:β->κ}(O:xU2)(φ:α->β):∀{mm:x3h} {Z:DU},xh mm (Z.map φ)->∃Z',mm=Z'.map φ/\xQr x3J Z' Z
 | [],Z,h=>by
  show Ay e (xRR O h) Fy e;show Dr Z [] (Ib.mp e.symm) (lM [] WO)
 |x::mm,Z,h=>by
  have hx:=xLo h (xHh x mm);obtain⟨z0,hz0,ez0⟩:=IK.mp hx;obtain⟨l1,y,l2,rfl,hy,h1⟩:=xsm (p:=Re (xVi (φ z))) (ys:=Z) ⟨z0,hz0,by show LT ez0 xIb⟩;have e:=h vG;have n1:(l1.map φ).filter xVi=[]:=IA.mpr λ u hu=>by
   show B8 z hz rfl (IK.mp hu) (h1 z hz)
  rw [FV,HH,Gm xIb,Gw,n1,Hl,Gm hy] at e;obtain⟨ex,e2⟩:=K8 e;subst ex;have ht:xh mm ((l1++l2).map φ):=λ k=>by
   rw [FV,Gw];by_cases hk:iS k (φ y)
   ·have z:=x2n;show wX (xSH y=k) (xU4 _ i6 CE);rw [n1,Hl];exact e2
   ·have e3:=UE;rw [FV,HH,gZ,Gw,gZ] at e3;exact e3
  show Bq Z' rfl hs (xqr O φ ht) (lM (y::Z') (o6 k));show Ay V0 (hs k) Gw V0;rw [Gw];by_cases hk:SB (iq x3J k y)
  ·have z:=x2n;have ek:xSH y=k:=xU4 _ i6 CE;subst ek;have n2:l1.filter (iq x3J (xSH y))=[]:=IA.mpr λ u hu=>h1 u hu
   rw [n2,Hl] at V0 ⊢;rw [Gm hk,Gm hk,V0]
  ·rw [gZ,gZ,V0]
def xlu (ψ:α->γ){kf':α->κ}(hk:∀z,kf' z=kg (ψ z))(h:xQr kf' Z' Z):xQr kg (Z'.map ψ) (Z.map ψ):=λ k=>by
 rw [LW,LW];have e:(iq kg k∘ψ)=iq kf' k:=by
  funext z;show iq kg k (ψ z)=iq kf' k z;show CS eqv hk
 rw [e,UE]
universe SM
namespace D6
open PM SM
abbrev xuW (b:Bd):Int:=xFp
inductive xvG (sg:BG):lT BG
 |zero:xGH 0 []
 |step {k:Nat} {B B':BG}:xGH k B->Nu SG.ltI xuW B' (sg++vH)->N5 B'->xGH (k+1) B'
def xvG.lev (h:xGH k B):xvz sg k B:=by
 induction h with
 |zero=>exact .zero
 |step _ hs hso ih=>exact .step ih (xwL SG.Up hs) hso
def xxs {B:BG}(h:N5 B):B.Pairwise (Le SG.ltI xuW):=h.imp λ {a b} hab=>by
 show Ρ (vB xFp (Ps Dj));exact Ik Z5
def xvG.uniq (h:xGH k B)(h':xGH k B'):B=B':=by
 induction h generalizing B' with
 |zero=>cases h';rfl
 |step _ hs hso ih=>
  cases h' with
  |step h2 PV hso2=>
   have:=ih h2;subst this;exact xqs SG.Up (xxs hso) (xxs hso2) (hs.trans PV.symm)
universe D6
namespace QQ
open PySem PyProof.Rows
def xfe {i:Nat}(hq:Yu)
  (he:IsEnum s.heap e it i old) (hit:xYo l i) (hl:xYI l) (hx:WF items[i]?)
  (hQ:∀h',xPO->xNH vE):qk (pyNext DZ):=by
 have hT:s.TypeIs DZ "enumerate":=m7 he;show Ej pyNext (Kl (IF hT L9
  (JP L9 hT PySem.F.entry_enumerate_next ?_ (PySem.F.args_enumerate_next_1 _))))
 show qL (field DZ 2>>= _) _;show lG (Il he rfl rfl ?_) (xeW hq hit hl hx λ h' x he' hx'=>?_);show Bq o ho hc hx' (FG (xQ6 (rH ho hc) ?_));exact xN6 _ he'
universe QQ
namespace L2
open PySem PySem.Spec PyProof.Rows QQ
def Ite (K:Frag)(a:MV):It:=
 ⟨λ i H=>∃xs x,yV/\xk,λ i H v H'=>∃p x,RT/\v=Bw/\H'=qU p [xVg,x]/\∀xs,yV->xk,λ i H=>∃xs,yV/\x17 i⟩
def xgF {K:Frag}(a e it)(OZ:e≠it):
  xWe w K (xSS k pos) xAI [e,it] e (λ i h=>(∃old,IsEnum h e it rT old)/\x6y a i) where
 mem:=Z6
 obj:=λ i h st b hb=>by
  show xLi he hit st;show WX hb hb hb
  ·show nP (Ax he (λ v z=>by
    have z':xZh=xZ0:=z;cases z'))
  ·obtain rfl:=xMg;show Bj o e' c d hit (rH e' (λ v z=>by show Μ d z z))
 keep:=λ i h h' st k=>by
  show xLi he hit st;show A5 ⟨old,k e Z6 _ he⟩ (hit.at λ o x=>k it Z6 o x)
 item:=by
  intro X hP hw hK hc i M6 s σ H E I hf st hg;subst hP hw hK;show xLi he hit st;obtain⟨xs,x,hq,hx⟩:=hg;show qX rv p;obtain⟨u,hu,ru⟩:=rv.get hx;obtain⟨e0,e1,e2,e3,e4,e5⟩:=hf e Z6;obtain⟨f0,f1,f2,f3,f4,f5⟩:=fH;have elt:xuC e:=Gk he;have ilt:xuC it:=by show xO5 o e' (id hit) (Gk e')
  have hT:x5v:=pD;show Wp (wpAny_pyNext_enum_item he hit p.isList (by show xFs) OZ λ h1 ho hit1 ht hsz kk=>?_) (Υ (wpAny_letOwnedTupleGo_enum ho (τ h2 Ud PV)));have kept:∀b o,wg->qZ it->Bc=IO->h2.get? b=IO:=λ b o n1 n2 x=>vL PV b n1 (kk b o n1 n2 x)
  have Uq:SL (h2.get? s.heap.objs.size) (xyj "tuple" (.seq #[Eh s.toks,u])):=vL PV _ (JB elt) ht;have Xj:∀b o,Bc=IO->xyz b:=λ b o x=>Hf (Gk x)
  have nT:∀b o,E5=IO->xyz b:=λ b o x z=>by show B0 hT x x
  have nE:∀b o,E5=IO->wg/\qZ it:=λ b o x=>⟨Re (by show B0 e0 x x),Re (by show B0 f0 x x)⟩
  have he3:IsEnum h2 e it (zM) u:=by
   have:(zM)=rT+1:=Nat.ToInt.add_congr rfl rfl;show LT this Ud
  have YL:h2.IsListIter it a (i+1):=hit1.at λ o x=>vL PV it OZ.symm x
  have I2:lu (qU s.heap.objs.size [xVg,x]) (vj h2 xEx):=by
   refine x1b [e,it] rK (λ b o _ _ hb x _=>kept b o (zS (by show Nn)) (zS (by show Nn)) x) (λ b o _ _ hb x _=>xLM (kept b o (zS (by show Nn)) (zS (by show Nn)) x)) (λ b o _ x n=>by show XV (Xj b o x) n) (λ b o hb x=>xHy (kept b o (zS (by show Nn)) (zS (by show Nn)) x)) (λ b xs x=>by show XV (nT b _ x) x) (λ b o u x=>by show XV (nT b _ x) x) (λ b ps x=>xGf (by rw [ai (nT b _ x),x];simp)) (SC m hm) (τ b o x) I.bare
   ·show WX hb hb hb
    ·show nP ⟨e3,e1,e4,e5⟩
    ·obtain rfl:=xMg;exact⟨f3,f1,f4,f5⟩
   ·show Cc o es' ep Yf r hm ⟨o,es',ep,kept _ o (Kc e1) (Kc f1) Yf,r⟩
   ·by_cases hb:xRj b
    ·show D5 hb ad x x;exact⟨by show b8,[Eh s.toks,u],pK CY ru .nil,EE _ Uq _ rfl⟩
    ·rw [zZ] at x;refine xy3 b o x (λ c v hc' q=>?_) (λ c q=>by show XV (nT c _ q) q) (λ c xs q=>by show XV (nT c _ q) q)
     show Ed hc'
     ·show DI z (kept c v (nE c _ x).1 (nE c _ x).2 q)
     ·exact kept c v (nE c _ z).1 (nE c _ z).2 q
  refine U8 jX _ I2 (Tf _ x hT rfl (λ ys hy=>by show LT (x7y hq) hx)) ⟨⟨u,he3⟩,YL⟩ rK;show WX hb hb hb
  ·subst hb;show XV (Hf elt) e0
  ·obtain rfl:=xMg;show XV (Hf ilt) f0
 done:=by
  intro X hP hw hK hc i M6 s σ H E I hf st hg;subst hP hw hK;show xLi he hit st;obtain⟨xs,hq,hx⟩:=hg;show qX rv p;obtain⟨f0,f1,f2,f3,f4,f5⟩:=fH;show AO hl;exact xfe I.hq he hit p.isList (by simp;exact xSt hx) λ h' eb=>qN (xB5 (λ b o hb e=>eb b o hb e))
 self:=xTu h (by
  show xLi he hit st;exact x5f h)
inductive xks (K:Frag) (R:OH) (vs:NE) (H1:Hp):Prop
 |mk (l:_) (xs:_) (h0:vs=[A8]) (h1:TX H1 l) (h2:R (Ite K l) H1):xks K R vs H1
def xcI (K:Frag)(ta:TA):TI:=λ σ H R=>xOn vs (xks K R vs H1)
def xul {X:Cx}(hg:xze "enumerate")(hm:kH "enumerate")(ha:iy sW ta)(hs:Κ (fF sW=[Eu a])):
  PI X (xSS k q) (xyn "enumerate" p sW [] pos) (xcI X.K ta):=by
 intro M6 s σ H R I h;show aL (Call_ (xJx boot_enumerate (IY xIG hs rfl))) vs;obtain⟨l,xs,e,hq,q⟩:=q1;subst e;cases r1 with
 |cons r rr=>
  show vS rr r;show xyo rv p hz (I1.list hq);refine call_enumerate_list p.isList λ h' he hit hsz hk=>?_
  have I2:lu H1 {s1 with heap:=h'}:=xK9 s1.toks hk;refine x5f ⟨x8e 1,[x8e 1,s1.heap.objs.size],_,_,H1,rfl,I2,xgF l _ _ (Nat.succ_ne_self _),⟨Bt he,hit⟩,rK,q⟩;have Ow:s1.heap.objs.size≤b:=by
   show WX hb hb hb
   ·show LT hb yu
   ·show Qe hb UV
  exact I1.fpOk Ow (I1.hok.fresh Ow)
def xhL {K:Frag}{g:TG}{tt:TT}{te:TE}{R:lI}(Pv:Ct xNo)(h0:Pv 0 [] xDA)(hl:∀i ys H,kJ->sL->yV)
  (hs:∀i x ys σ H p,xk->sL->xI2->RT->g Bw σ (qU p [xVg,x]) λ σ3 H3=>N9 λ c H5=>O8 c (λ y H4=>yh=gm/\EG/\xL0 n/\wc (ys++SO) xEg) (xL0 n/\xy0 (i+1) H5))
  (hd:∀ys H,xRN H->R H) (mg:∀x σ H (A B:p7),(∀σ' H',xF4->xF5)->RN A->RN B) (mtt:∀σ H (A B:CL),(∀v H',sJ->sG)->xCC A->xCC B) (mt:∀σ H (A B:VK),(∀v H',sJ->sG)->xI9->xJa):
  ∃W:uw,(xQb)/\∀i m ys σ' H',cq->
   (xIY xAI/\R H')\/(xJm xAI/\∀x H2,xJb xAI x H2->yB λ σ3 H3=>N9 λ c H5=>O8 c (λ y H4=>
    yh=gm/\EG/\Fq (m'<m/\Dl)) (Fq (m'<m/\xEy (i+1) ys H5))):=by
 refine AG (λ i m ys σ H=>m=xIA/\kJ/\xI2/\sL) ⟨xs.length,Z6,AM,Gy,h0⟩;rintro i m ys σ H ⟨rfl,hi,hn,p⟩;have q:=tM ys H hi p;by_cases M8:oQ
 ·refine qG ⟨xs,xs[i],q,by simp [M8]⟩ nK;obtain⟨p1,x1,NX,e1,e2,y⟩:=y;subst e1 e2;refine mg _ _ _ _ _ (λ σ3 H3 z=>mtt _ _ _ _ (τ c H5 z) z) (tK x1 ys σ _ p1 xH3 p hn NX);cases c with
  |true=>
   show UQ AD z (mt _ _ _ _ (λ y H4 z9=>by show Bj z1 z2 z3 z4 z9 (Fb z1 z2 (WL (i+1)) aJ M8 z3 z4)) z)
  |false=>
   show UQ NZ z ⟨WL (i+1),aJ,rfl,M8,i6,CE⟩
 ·have e:xIH:=CC;show rU e ⟨xJ0,xOp H p⟩
universe L2
namespace K25.S
open PySem L2 QQ PM D6
seal PE PA PS PSs PT PW PG PI
inductive xlt (vs:NE) (H:Hp) (Q:VK) (Nf:XK):Prop
 |mk (a:MV) (B:Id) (hi:Nat) (h0:vs=[ω,vN hi]) (h1:XL=vv) (h2:(Rv B hi)) (h3:yz 1) (h4:xKG 300) (h5:(∃b∈B,0<b)) (h6:xM6):xlt vs H Q Nf
def xhA:Uf xuV xuV xvf:=Sc
def gL (R:Id):pG=xZ5 xBV V.int:=by show Af Ii
def xiS {f fA fW:MV}(F:Ζ "are_of_things" xvf xuV)(AW:xY9 cv Jaa fA fdA)(W:rN)(T:Bz):gW xuV xlt:=by
 show xV tt ht T.things xhA (λ M7 A outer s H vs Q E hr h=>?_) _;obtain⟨a,B,hi,rfl,hB,hb,h1,h3,⟨b0,Xi,QZ⟩,k⟩:=h;have Ql:oS:=UF;show rF hn xD (xBy (wK (il (xx0 AW W T) Ql AW SZ aj PP)) cf (f9 (xAy (xpK xuu xuu aj zu (DT 300 ht tt)) (dH cL (xvB (xm6 hn) Z7 T.max Lw Ew) aj bZ)))) ⟨_,rfl,_,rfl,a,B,0,_,rfl,hB,λ b z=>by have:=zP z;show A5 pS (xO (xCX this)),_,rfl,oo⟩;show E9 ⟨_,rfl,a,_,rfl,AN hB,_,_,rfl,rfl,_,rfl,xAG (FM (by show Ai (Int.toNat_le.mp h1))) h⟩ (U8 _ _ rfl _ rfl (xAG (FM (by show Ai (MQ rfl rfl h3))) h)) (ZW a (B.map xBV) (by show Bg gL xzv) (by rw [Fy];assumption) (τ n hn hmax));have:wa (Ps b0):=hmax _ (LZ Xi);refine ue _ _ ?_
 try dsimp only
 show LT (xyB (vB 0 n) iF) k
inductive xkA (vs:NE) (H:Hp) (Q:VK) (Nf:XK):Prop
 |mk (a:MV) (B:Id) (m:Nat) (h0:vs=[ω,D1]) (h1:XL=vv) (h2:(x3c B)) (h3:yz 1) (h4:xKG 300) (h5:(∃b∈B,0<b)) (h6:AK m) (h7:qo m) (h8:El (B.filter (xF b (0<b))) (2^m)) (h9:xBt):xkA vs H Q Nf
def xbN:Uf Jak Jak xxm:=Sc
def ndC:xE ["count"]:=Z8
def xaO {f fT fA fW:MV}(F:Ζ "need_shares" xxm Jak)(Th:x5J xvf xuV fT fdT)(AW:xY9 cv Jaa fA fdA)(W:rN)(T:Bz):rA Jak xkA:=by
 show CQ tc hc T.count tm hm T.mlen;show Al xbN (λ M7 A outer s H vs Q E hr h=>?_);obtain⟨a,B,m,rfl,hB,hb,h1,h3,Pf,m1,m2,YM,k⟩:=h;have NA:Bv:=UF;show xZ (Tg (lB (UC (xiS Th AW W T) Th SZ (DT 1000000 hc tc))) (sQ (lB (il (xH9 T) NA W PP aj xM1)) (QF cL (xvB xmi Z7 T.len PySem.boot_len (Bx (xXm ["count"] (g:=UT) (tt:=xvQ (xFm (λ i j=>xFB j i) fh xTU)) (te:=fh) rfl rfl Z8 Z8 Z8 (bP SZ) (λ fp s H=>xCp ndC) (λ fp s H=>oU SZ aj) (λ fp s H=>SZ)))) (ap dQ aj PP)))) ⟨_,rfl,a,B,1000000,rfl,hB,hb,h1,h3,Pf,_,rfl,xOd⟩;refine D2
 have e1:SB (qF E7 zU&&qF zU 12):=by
  rw [xHI (E7≤zU) (Int.toNat_le.mp m1),FM (show qo zU by exact xO (xU 12 12 m2))];rfl
 refine⟨_,rfl,zU,1,12,rfl,?_⟩;rw [e1];show DE (Υ (aV A3));show Wp (xor _ a hB zR) (xXn K (a:=a) (l:=l) (xs:=vM) (n:=1) (g:=UT) (tt:=xvQ (xFm (λ i j=>xFB j i) fh xTU)) (te:=fh) (λ i ys H'=>ys=Ο (xzo xEc b (0<b))/\AL=gm/\Ι) (Wr ad P6) (λ i ys H' _ z9=>by show xDP sm;exact xzq hB) ?_ ?_ ?_ ?_ ?_)
 ·rintro i x ys σ H' hx ⟨rfl,hl,sm⟩ hσ;show Vf b N8 (cZ hx);have OL:i<B.length:=Fg N8;show x5 u0 u0 (σ=[u0]) (match σ,hσ with| [u0],_=>Ex u0)
  have hlen:xGP (xzo xEc b (0<b)):=FK (Ky _ _) (by show UK (xL4 h3));refine mO _ _ _ _ ?_;rw [cK N8,Gw]
  try dsimp only
  by_cases h0:0<b
  ·show Η (F8 (xHI (Gl<xc) x1p)) (ZW hl (bx (by show Ai (gQ hlen))) ?_ ad xBG)
   ·rw [Gm (by show xNL),FV];rfl
   ·show PH bL
  ·show xBH (vh z (FQ z) Z5) (ql ?_ ?_ sm)
   ·show CR (Gx (by show xNL))
   ·exact hl
 ·rintro ys H' ⟨rfl,hl,sm⟩;rw [Fy,Hc] at hl;refine⟨l,_,rfl,AN hl,_,rfl,_,_,rfl,rfl,⟨pS,xVz 12 m2,Z9⟩,_,_,rfl,rfl,_,rfl,xMZ (iE sm)⟩;exfalso;show zc DQ Fy Gr;have e2:E7*2^m=Ps (2^m):=by show CR Int.one_mul
  show jC e2 (WT [_,_] EA DD (Fx YM PO))
 ·exact λ x σ H A B h z=>tN
 ·exact λ σ H A B h z9=>by obtain⟨v,e1,i,j,e2,e3,c,e4,z⟩:=z9;exact⟨v,e1,i,j,e2,e3,c,e4,tN⟩
 ·exact λ σ H A B h z9=>by show B8 v e1 z z9 ⟨v,e1,tN⟩
def Bun (H:Hp)(A:υ)(t:MV)(b:Bd):Prop:=∃l,t∉A/\l∉A/\Ob [vN xY,A8]/\sV=Au oF
inductive xse (vs:NE) (H:Hp) (Q:VK) (Nf:XK):Prop
 |mk (t l:MV) (n:Nat) (h0:vs=[wG]) (h1:Ob [Qh,A8]) (h2:Q Qh H):xse vs H Q Nf
def xgB:Uf xzl xzl xwk:=Sc
def xmM (F:Ζ "weight_of" xwk xzl):fV xzl xse:=by
 show Al xgB (λ M7 A outer s H vs Q E hr h=>?_);show iP t l n rfl ht k;refine XC xT3;exact⟨_,rfl,t,_,_,_,rfl,rfl,x9,tO,k⟩
inductive NI (H:Hp) (A:υ):NK υ BG
 |nil:xJX [] []
 |cons {t:MV} {b:Bd} {ts:υ} {bs:BG}:Bun H A t b->B9->xJX (t::ts) (b::bs)
def NI.keepA {H H':Hp}{A:υ}{bs:BG}(h:B9)(s:∀c o,c∉A->W1=IO->AE=IO):x0z H':=by
 induction h with
 |nil=>show yQ
 |cons a _ ih=>
  show Cc l n1 n2 h1 h2 a (Qd ⟨l,n1,n2,E6 n1 h1,E6 n2 h2⟩)
def NI.keep {H H':Hp}{A:υ}{bs:BG}(h:B9)(s:Ι):x0z H':=h.keepA λ c o _ e=>s c o e
def NI.sub {H:Hp}{A A':υ}{bs:BG}(h:B9)(s:∀a∈A',a∈A):NI H A' ts bs:=by
 induction h with
 |nil=>show yQ
 |cons a _ ih=>
  show Cc l n1 n2 h1 h2 a (Qd ⟨l,Re (n1 (s _ z)),Re (n2 (s _ z)),h1,h2⟩)
def NI.app {H:Hp}{A:υ}{bs cs:BG}(h:B9)(g:xJX us cs):xJX (ts++us) (bs++cs):=by
 induction h with
 |nil=>exact g
 |cons a _ ih=>exact Qd a
def NI.len {H:Hp}{A:υ}{bs:BG}(h:B9):ts.length=bs.length:=by
 induction h with
 |nil=>rfl
 |cons a _ ih=>rw [F2,F2,ih]
theorem NI.at {H:Hp}{A:υ}(h:B9):∀{i:Nat} {b},A7 bs b->∃t,A7 ts t/\Bun H A t b:=by
 induction h with
 |nil=>intro i b h;show DK
 |cons a _ ih=>
  intro i b h;cases i with
  |zero=>show DK;show DI h (Υ a)
  |succ i=>show DK;simpa using ih h
def xgZ:∀n {B} {i} {a b},xIN->Aq B (2*i) a->Aq B (2*i+1) b->A7 (vH) (Dj+xY,xIo++oF):=by
 intro n
 induction n with
 |zero=>intro B i a b hB h1 _;show wX (B=[]) (Ib.mp (uv (By AV LE Cy LE Cy hB)));simp at h1
 |succ n ih=>
  intro B i a b hB h1 h2
  match B,hB,h1,h2 with
  | [],_,h1,_=>simp at h1
  | [x],_,h1,h2=>simp at h2
  |x::y::r,hB,h1,h2=>
   cases i with
   |zero=>simp at h1 h2;subst h1 h2;rfl
   |succ i=>
    rw [AI (2*(i+1)) (2*i+1+1) (JG (Nat.succ_add _ 1))] at h1 h2;simp at h1 h2;show(xTn)[i]?=_;exact ih (by show vW hB (Jj hB)) h1 h2
def xwg {ts:υ}{i:Nat}(h:A7 ts t):(Fl)[i]?=TD t:=by rw [Gs,h];rfl
def xbS (m)(h:ux m):SB (Builtin.Range.small 1 zU 2)/\x4Y zU 2=Ps (m/2):=by
 have e:x4Y zU 2=Ps (m/2):=by
  show CS Builtin.Range.rangeSize (F8 Z9)
  split<;>lia
 refine xXb e;have f:∀i,0≤i->i<100000->SB (Builtin.Range.rangeFitsLong i):=λ i h0 h1=>by
  unfold Builtin.Range.rangeFitsLong;rw [iF,iF];rfl
 show CS Builtin.Range.small e
 try dsimp only
 rw [f 1 Z9 Z9,f zU Z5 (xNE h),f 2 Z9 Z9,f (Ps (m/2)) vY (WW (Z3 [_,_] 1 vp (Zz 2000) On 100000 h jI)),F8 Z9,f (zU+(2-1)) Z5 Z5];simp
inductive xkL (vs:NE) (H:Hp) (Q:VK) (Nf:XK):Prop
 |mk (p av:MV) (ts:υ) (B:BG) (h0:vs=Bf) (h1:CI=ay) (h2:(∃o,H av=IO)) (h3:NI H xCa ts B) (h4:x0l) (h5:(o8 (El oF 8000000))) (h6:tU l MV us υ Hp (Ι->Ξ->AL=Φ xKU->NI H' xCa us vH->AS)):xkL vs H Q Nf
def xxV:Uf ["bundles","pairs","place","first","second"] xDS xwc:=Sc
def xhk {P:MY}{K:Frag}(F:Ζ "in_pairs" xwc xDS)(T:Bz):fV xDS xkL:=by
 show Al xxV (λ M7 A outer s H vs Q E hr h=>?_);obtain⟨p,av,ts,B,rfl,hp,⟨oav,hav⟩,hB,Yr,hsm,k⟩:=h;refine Ep (Fc 1 xxV.nd d5 (Wt (xgo Z7 T.range (WS aj zu aj)) 2 xxV.nd (Cg 3 xxV.nd (TP (oa Ty)) (pX 4 xxV.nd xUk (U9 PP (Y4 (E8 xzU xzV) (pd xzU xzV)))))) PP)
 have Sn:=hB.len;show Ff xJg;have s0:=xG2;have PV:=xbS ts.length (ow [_,_] 1 LE xMx LE Yr xEX);refine Z2 ⟨_,rfl,p,_,rfl,AN (j7 hp),1,_,2,ts.length/2,rfl,Z9,by show Ai PV.1,by show Ai PV.2,PyProof.noPylong_small Z9,xe7 (D:=Wo) (lo:=1) (c:=2) (n:=ts.length/2)
  (λ i σ H2=>∃(v2 v3 v4:BV) (us:υ),σ=[Qg,ye,v2,v3,v4]/\RZ=Φ xKU/\NI H2 [l,av] us ((vH).take i)/\SR) (Fb none none none [] ad .nil s0) ?_ ?_⟩
 ·clear g1;rintro i σ H2 hi ⟨v2,v3,v4,us,rfl,Pn,T8,sm⟩;have l0:2*i<B.length:=(rS [_,_,_,_] 2 (CD 2 On xAf) (Aw (xIB Tm)) xME Os Sn (ZY (bh hi)));have l1:2*i+1<B.length:=(rS [_,_,_,_] 2 (CD 2 On xAf) (Aw (xIB Tm)) (AJ xME) Os Sn (ZY (bh hi)));have g0:Aq B (2*i) B[2*i]:=FL l0;have g1:Aq B (2*i+1) B[2*i+1]:=xOt;have z0:=hsm _ (HU l0);have z1:=hsm _ (HU l1);have hpa:=xgZ _ UV g0 g1;obtain⟨t0,ht0,la,_,_,Vo,Su⟩:=(hB.keep sm).at g0;obtain⟨t1,ht1,lb,_,_,N8,Si⟩:=(hB.keep sm).at g1;show xuB B[2*i] ba B[2*i+1] bb;have e1:E7+cS*2=jm (2*i):=(BJ (Br 1 (.w LE 2)) xME xME (Br 1 (.w LE 2)));have e2:jm (2*i)-1=Ps (2*i):=Z5;have NB:=xVR;show Η e1 (kL g2 (aN _ _ rfl _ _ rfl rfl ?_))
  try dsimp only
  rw [e2];show xI ⟨p,_,_,_,rfl,rfl,Ng.of NB,aD (xwg ht0),Zw⟩;show ij g2 ⟨_,rfl,_,rfl,p,_,_,_,rfl,rfl,Ng.of NB,aD (xwg ht1),Zw⟩ g2;show Ay hul T8.len FW hul;refine⟨_,rfl,oI Pn,_,rfl,t0,_,_,_,rfl,rfl,ND.of Vo,tO,_,rfl,t1,_,_,_,rfl,rfl,ND.of N8,tO,_,_,rfl,rfl,
   _,rfl,t0,_,_,_,rfl,rfl,ND.of Vo,wu,_,rfl,t1,_,_,_,rfl,rfl,ND.of N8,wu,la,lb,_,_,rfl,rfl,Su,Si,(by rw [Fy,Fy,J3];exact Cm [_,_] P3 (Y6 8000000 8000000) P3 16777216 z0 z1),SC q nq⟩
  have e3:V.int (Ps xGI+Ps xGJ)=vN (xGI+xGJ):=xRl (Tz [_,_] P3 P3 [_,_] P3 P3);have s3:=Az (Ο ba.2++Ο xEA) nq;have h3q:Du H2 q (Ο ba.2++Ο xEA) q=qh ba.2 xEA:=by rw [ad,FV]
  have Vp:=Cn Pn;show EI H2 q (Ο ba.2++Ο xEA) H3 (Bh (by show b8) t nt)
  try dsimp only
  rw [e3];have s4:=OD [vN (xGI+xGJ),yX];have h4t:Fm ((dt H3 t [vN (xGI+xGJ),yX]) t) [vN (xGI+xGJ),yX]:=ad;have X1:=ES Vp;have h4q:=ES h3q;show DR nql (q≠l) (Re (by show B0 Pn nq nq)) (dt H3 t [vN (xGI+xGJ),yX]) H4;have sm4:dz H4:=xQG;refine⟨l,_,_,rfl,rfl,X1,bx (by show Ai (ow [_,_,_,_] 1 (xz9 TY qE) (w6 xMC) LE Yr (Wz l0 hul DN))),xBM (2*i),TD t0,TD t1,us++[t],rfl,?_,?_,xBG⟩
  ·rw [ad,FV];rfl
  ·rw [HC,hpa];have kk:∀c o,c∉ [l,av]->H4 c=IO->(qO H4 (xKU++[V.ref t])) c=IO:=λ c o n e=>by show Sa (Re (n (by show Nn)))
   have h2av:=yA hav;have ntl:t∉ [l,av]:=Re (by
    simp only [F9,LJ,or_false] at z;show Ru z
    ·show Μ Vp nt nt
    ·show Μ (Cn h2av) nt nt)
   have nqa:q∉ [l,av]:=Re (by
    simp only [F9,LJ,or_false] at z;show Ru z
    ·exact nql rfl
    ·show Μ h2av nq nq)
   exact xVP (T8.keepA λ c o n e=>xJR n (sm4 _ _ e)) ⟨q,ntl,nqa,xJR ntl h4t,xJR nqa h4q⟩
  ·show PH (sm4 _ _ bL)
 ·rintro σ H2 ⟨v2,v3,v4,us,rfl,Pn,T8,sm⟩;show ρ (Gh (by show LT (xQd _ B UV) (Fz (congrFun (congrArg HDiv.hDiv Sn.symm) 2)))) T8 (xFJ (qb us H2 sm nl Pn (T8.sub λ a h=>by show DK;simp [h])))
theorem NI.zip {H:Hp}{A:υ}{bs:BG}(h:B9):∀z∈ts.zip bs,Bun H A i6 CE:=by
 induction h with
 |nil=>intro z hz;simp at hz
 |cons a _ ih=>
  intro z hz;rw [List.zip_cons_cons] at hz;show sH hz hz
  ·exact a
  ·exact ih z hz
theorem xtz:∀(as:υ) bs,(bs.map (λ b=>xFp)).zip (as.map V.ref)=(as.zip bs).map (λ z:MV×Bd=>Y9 (xFx z) i6)
 | [],bs=>by simp
 |a::as,[]=>by simp
 |a::as,b::bs=>by
  have:=xtz as bs;simp only [HH,List.zip_cons_cons,this]
theorem NI.take {H:Hp}{A:υ}{bs:BG}(h:B9):∀n,xJX (ts.take n) (bs.take n):=by
 induction h with
 |nil=>intro n;rw [List.take_nil,List.take_nil];show yQ
 |cons a _ ih=>
  intro n;cases n with
  |zero=>show yQ
  |succ n=>exact x3z (ih n)
theorem xuo {H:Hp}{A:υ}:∀{Z:yx MV Bd},(∀z∈Z,Bun H A i6 CE)->xJX (Z.map (·.1)) (Z.map (·.2))
 | [],_=>.nil
 |z::Z,h=>.cons (aw z) (xuo λ y hy=>QC y hy)
def xn6 {L:Id}(lv:xGW k B):(o8 (El oF (2^k)))/\xKG EV:=by
 have ps:∀n q B,xIN->(o8 (El oF q))->lH vH (El oF (2*q)):=by
  intro n
  induction n with
  |zero=>intro q B hB _ b hb;show wX (B=[]) (Ib.mp x4z);show xFu hb
  |succ n ih=>
   intro q B hB h b hb
   match B,hB,h,hb with
   | [],_,_,hb=>show xFu hb
   | [x],_,_,hb=>show xFu hb
   |x::y::r,hB,h,hb=>
    show UN
    ·have h1:=aw x;have h2:=QC y Gb;show Vg zy y.2≤_;show mQ (Bu [_,_,_] P3 (CN Tm) P3 TY h1 h2)
    ·exact ih q r (by show vW hB (Jj hB)) (BA (QC b xM3)) b hb
 induction lv with
 |zero=>show A5 (BA (by simp at hb)) AM
 | @step k B B' _ hp hs ih=>
  have OE:=xQd _ B UV;have hl:=hp.length_eq;rw [FD,Fy,OE] at hl;refine⟨rK,by show AY ih.2 (BF 2 [_,_,_,_] (O5 (DX TY)) (CD 2 Θ (xIC Be)) vC (Bb (Es 2 hl) this jI))⟩;have h1:AK (2^(k+1)):=Nat.one_le_two_pow;show EM xYV hb hb
  ·obtain⟨p,_,rfl⟩:=xTz;exact h1
  ·have:=ps _ _ B UV ih.1 b hb;show LT Iq (BX LE vC LE (xA9 2) this)
inductive xkm (vs:NE) (H:Hp) (Q:VK) (Nf:XK):Prop
 |mk (p av:MV) (ts:υ) (L:Id) (wt:Cs) (m:Nat) (h0:vs=[Bw,D1]) (h1:CI=ay) (h2:(∃o,H av=IO)) (h3:NI H xCa ts Et) (h4:N5 Et) (h5:RC 1) (h6:xWu) (h7:AK m) (h8:qo m) (h9:∀(l:MV) (us:υ) (B:BG) (H':Hp),Ι->Ξ->AL=Φ xKU->NI H' xCa us (xy8 1 (EV-2))->xvG Et m B->AS):xkm vs H Q Nf
def xsZ:Uf ["singles","most","bundles","step"] xKS xxu:=Sc
def xhC {P:MY}{K:Frag}{f xv0 fW:MV}{fd fdP QS:M0}(F:Ζ "lightest_bundles" xxu xKS)(Pa:x7T xwc xDS xv0 fdP)(We:x7m xwk xzl fW QS)(T:Bz):gW xKS xkm:=by
 show Al xsZ (λ M7 A outer s H vs Q E hr h=>?_);obtain⟨p,av,ts,L,wt,m,rfl,hp,⟨oav,hav⟩,hB,hso,n1,n2,m1,m2,k⟩:=h;have NA:Bv:=UF;have Pe:Dg:=UF;have hn:=xD;refine Ep (Fc 2 xsZ.nd xWG (Wt (xsG Z7 T.range (Bx (oa PP))) 3 xsZ.nd (af (xBa xsZ.nd (xmH (sp:=xse) (xmM We) Pe We.b Z7 T.sort (xAK fW Z7 We.m) (Bx (pd SZ (mJ (xhk Pa T) Pa Ty))))))) (xBi Ty bU (bF (xgJ hn) T.max Lw aj (oa (xBr zu)))))
 show Ay Sn hB.len Fy Sn;show Ff (UJ p (AN hp) (BU l0 X'));have s0:=Az Fl X';have lv1:xvG Et 1 Et:=.step .zero (by rw [Sd (pairs ([]:BG)) [],GU];exact xZF) hso;have e1:zU-1=Ps (m-1):=jH m1;refine Z2 vc
 try dsimp only
 show Η e1 ⟨Ps (m-1),rfl,Ka (2^62) _,Z5,?_⟩;show Η Gr (oR 0 (m-1) (λ i σ H2=>∃(lb:MV) (us:υ) (B:BG) (v3:BV),σ=[Qg,oi,xOH,v3]/\H2 lb=Φ xKU/\NI H2 xCa us B/\xvG Et (i+1) B/\SR) ⟨l0,ts,_,none,rfl,ad,hB.keep s0,lv1,s0⟩ ?_ ?_)
 ·clear g1;rintro i σ H2 hi ⟨lb,us,B,v3,rfl,hlb,T8,lv,sm⟩;show S8 hsz Yr (xn6 lv.lev) hsz2 (o8 (El oF 8000000)) (BA (by
   have h1:=hsz b hb;have h2:2^(i+1)≤2^12:=xA4 (Z3 [_,_,_] 1 (pV On) (xOJ DC) On 12 m2 (Fx hi Qn));have h3:YX 2^12=4096:=Z9;exact FK h1 (gQ h2)))
  have OE:=xQd _ B UV;refine⟨_,rfl,_,rfl,lb,av,us,B,rfl,hlb,Bt (yA hav),T8,Cm [_,_] (xIC LE) (zD 2 300 vC) LE 1000 (bh n2) Yr,hsz2,λ l ps H3 s3 nl hl Vx=>?_⟩;have hpsl:=Vx.len;refine⟨p,l,_,_,rfl,rfl,Cn xVR,hl,(by rw [Fy,Fy,J3];exact Cm [_,_,_,_,_,_] (VM 3 (A9 (xFo (Aw (xIE vI))))) (zD 3 300 (CN (xIv (mi 5 xT6)))) P3 16777216 (FE 3 n2) (Bb xEX Yr (Wz (Fz OE) hpsl jI))),SC q nq⟩;have s4:=Az (Fl++ym) nq;have NC:NI (E4 H3 q (Fl++ym)) xCa (ts++ps) (Et++vH):=((hB.keep xRo).app Vx).keep s4;have h4q:Du H3 q (Fl++ym) q=xWK ps:=by rw [ad,FV]
  have sm4:=(xRo).trans s4;show BE H3 q (Fl++ym) H4 T5 NC.len;refine⟨q,xGx ps,rq (Et++vH) b xFp,rfl,Ng.of h4q,by rw [Fy,Fy];exact T5,by rw [Fy,FD];exact Cm [_,_,_,_,_,_] (VM 3 (A9 (xFo (Aw (xIE vI))))) (zD 3 300 (CN (xIv (mi 5 xT6)))) P3 1000 (FE 3 n2) (Bb xEX Yr (Wz (Fz OE) hpsl jI)),λ j v kk hv hk=>?_,λ lo mm XH hpw Xr=>?_⟩
  ·rw [Gs] at hk;cases e:(Et++vH)[j]? with
   |none=>show vR hk hk
   |some b=>
    rw [e] at hk;obtain⟨t,ht,lt,_,_,h1,h2⟩:=NC.at e;show Μ (xwg ht) hv hv;cases hk;exact U8 t lt xY h1 rfl rfl
  ·have hz:(rq (Et++vH) b xFp).zip (xGx ps)=((ts++ps).zip (Et++vH)).map (λ z:MV×Bd=>Y9 (xFx z) i6):=xtz _ _;rw [hz] at Xr;show ie Z' Sw (SM.xqr SG.Up _ Xr);have hZ:=(SM.xwL SG.Up Sw).symm;have hSB:x70 xuW (Et++vH):=by
    show zh (SM.xlu (kg:=xuW) (λ z:MV×Bd=>CE) E2 Sw) (LK xRU)
   have hZB:x48 (Et++vH):=by
    show zh (hZ.symm.map (·.2)) (LK xRU)
   have Xs:x5F:=by
    rw [Ii,Lo] at hpw;show Rq N5 Lo (hpw.imp (λ {a b} h=>by have h':xFx a≤xFx b:=h;exact Mp.mp h'))
   have s5:=x4e XH;refine⟨lo,x7H,x7I,tG (0+cS),rfl,?_,?_,.step lv hSB Xs,sm4.trans s5⟩
   ·rw [ad,Ii,Ii];rfl
   ·exact xVJ (xuo λ z hz=>NC.zip z x49)
 ·rintro σ H2 ⟨lb,us,B,v3,rfl,hlb,T8,lv,sm⟩;rw [show m-1+1=m by exact oz (xFH (mF AU AU m1)) On On Ω] at lv;show DE A3;obtain⟨_,Yr⟩:=xn6 lv.lev;have hul:=T8.len;refine⟨_,rfl,_,rfl,p,_,rfl,AN xVR,_,_,rfl,rfl,xM2,_,_,rfl,rfl,_,_,rfl,?_⟩;have e2:oP (Ε 2*zB Fl-2>1) (Ε 2*zB Fl-2) 1=Ps (xO4 (EV-2)):=by
   rw [Fy,Sn];split<;>lia
  try dsimp only
  show Η e2 (UJ lb (Ng.of hlb) (SC l5 n5))
  try dsimp only
  rw [xvl,<-IP];have s5:=xIW ((us.take (xO4 (EV-2))).map V.ref);exact k l5 _ B _ x7J (xL2 sm) ad (xVJ (T8.take _)) lv
structure FnL (K:Frag)(mg:Β)(x:Str)(st:M5)(ps:An)(f:MV)(fd:M0):Prop where
 F:∃dV,xCv x f fd
 m:si=ik
 b:de
 d:∃t,xEP [VU 6]
theorem FnL.kp (F:FnL K mg x st ps f fd):RO:=F.F.elim λ _ z=>z.kp
def xv4 (C:Id)(p:Nat):Nat:=C.getD p 0
def pos (C:Id):Id:=xDe C.length (xF p (0<w8 p))
def xw2 (C:Id)(m:Nat)(ln:Cs):Prop:=∃(L:Id) (B:BG),N5 x2y/\xQ9 xuW x2y xHO/\xvG x2y m B/\ln=occ (xy8 1 (EV-2))
theorem xw2.uniq (h:xw2 C m ln)(h':xw2 C m ln'):ln=ln':=by
 show iP L B a1 a2 a3 a4;obtain⟨L',B',b1,b2,b3,b4⟩:=h';have e:=SM.xqs SG.Up (xxs a1) (xxs b1) (a2.trans b2.symm);have el:=yt e;rw [Fy,Fy] at el;rw [<-e] at b3;have:=a3.uniq b3;subst this;rw [a4,b4,el]
def NI.fresh {H:Hp}{A:υ}(h:B9)(n:A1 av):NI H xCa ts bs:=by
 induction h with
 |nil=>show yQ
 |cons a _ ih=>
  obtain⟨l,_,_,h1,h2⟩:=a;exact Qd ⟨l,Re (ae h1 n xSK),Re (ae h2 n xSK),h1,h2⟩
def ixN_nat (h:j<n):SL (ixN n (Ps j)) j:=by
 unfold ixN;rw [F8 vY,F8 (JT.mpr h)];simp
def set_range {f f':Cs}(h:∀p,f' p=f p+ VJ [q]):(zV n p (vN (f p))).set q (vN (f q+1))=zV n p (vN (f' p)):=by
 refine Ix (o6 i)
 rw [List.getElem?_set,Fy,Im,Gs,Gs];by_cases hi:i<n
 ·rw [JI hi];by_cases e:q=i
  ·subst e;rw [AD,F8 hi,JJ,h q];simp
  ·rw [uO,JJ,JJ,h i];have: [q].count i=0:=Jx (by simp;exact Re (e z.symm));rw [this,Jn]
 ·have e2:WF (List.range n)[i]?:=GZ (by show Qr Im hi);rw [e2];by_cases e:q=i
  ·subst e;rw [AD,FY hi];rfl
  ·show Af uO
inductive xjJ (vs:NE) (H:Hp) (Q:VK) (Nf:XK):Prop
 |mk (a:MV) (C:Id) (m:Nat) (h0:vs=[ω,D1]) (h1:XL=Φ xEd) (h2:(x3c C)) (h3:AK C.length) (h4:C.length≤300) (h5:(∃b∈C,0<b)) (h6:AK m) (h7:qo m) (h8:El (x1D b (0<b)) (2^m)) (h9:xGP xKX) (V5:xTq xKX) (Qy:El xKX (2^m)) (h12:tU l MV ln Cs Hp (Ξ->Ι->AL=Φ (xDc (λ p=>vN xBL))->xvC xKX w8 m ln->xw2 C m ln->AS)):xjJ vs H Q Nf
def xxZ:Uf ["counts","most","singles","lengths","bundle","place"] Jak xpN:=Sc
def xh2:xE ["place","count"]:=Z8
def xh6:TE:=xrh (xva xAB (xIf (xxg (xIf fh))))
def xhU:TT:=xvQ (xFm (λ i j=>xFB j i) xAB xTU)
def xdc {P:MY}{K:Frag}{mg:Β}{base:M2}{f fN fT fA fW' fL xv0 fW:MV}{fd Ul fdT fdA fdW' fdL fdP QS:M0}(F:FnL K mg "lengths_of" xpN Jak f fd)(Ne:Dv "need_shares" xxm Jak fN Ul)(Th:x5J xvf xuV fT fdT)(AW:xY9 cv Jaa fA fdA)(W:xRA fW' fdW')
  (Li:Dv "lightest_bundles" xxu xKS fL fdL) (Pa:x7T xwc xDS xv0 fdP) (We:x7m xwk xzl fW QS) (T:Bz):sD Jak xjJ:=by
 show DG dV F0 F.F (F0.ok xxZ λ M7 A outer s H vs Q E hr h=>?_)
 intro _;obtain⟨a,C,m,rfl,ha,hC,c1,c3,Pf,m1,m2,YM,p30,p1,pm,k⟩:=h;have PY:xGO:=UF;have Pe:Dg:=UF;show xZ (u9 (UC (xaO Ne Th AW W T) Ne SZ PP) (Zq 2 xxZ.nd (xmH (sp:=xse) (xmM We) Pe We.b Z7 T.sort (xAK fW Z7 We.m) (Bx (xXm ["place","count"] (g:=xBK 2 0 (xBS 1)) (tt:=xhU) (te:=xh6) rfl rfl Z8 Z8 Z8 (xul Z7 T.enum Ew) (λ fp s H=>xHR 0 xh2 (xzm 1 xh2 xve)) (λ fp s H=>oU PP aj) (λ fp s H=>Y4 PP (aK Ew))))) 3 xxZ.nd (ap xqE (aK my) zu) (rJ (sh (xhC Li Pa We T) PY Li Ty PP) 4 xxZ.nd (rJ xzV 5 xxZ.nd (xtN (zk (gM π C8)) (xto π C8 xp9)))) π)) ⟨_,rfl,_,rfl,a,C,m,rfl,ha,hC,c1,c3,Pf,m1,m2,YM,BU H1 s1⟩;show rF Vo gO (Z2 (UJ a x1O zR)) (xhL (K:=K) (a:=a) (l:=l) (xs:=xEd) (n:=2) (g:=xBK 2 0 (xBS 1)) (tt:=xhU) (te:=xh6)
  (λ i ys H2=>∃ts:υ,ys=Fl/\RZ=gm/\xA0 H2/\NI H2 [l] ts ((xDe i (xF p (0<w8 p))).map (sgl w8)))
  ⟨[],rfl,ad,P6,.nil⟩ (λ i ys H2 _ z9=>by show xRX sm z9 (xzq Vo)) ?_ ?_ ?_ ?_ ?_)
 ·clear g1;rintro i x ys σ H2 p hx ⟨ts,rfl,hl,sm,hb⟩ hσ hp;show Vf c hc (cZ hx);have OL:xNc i:=Fg hc;have hcw:w8 i=c:=by rw [xv4,Gu,hc];rfl
  obtain⟨u0,u1,rfl⟩:∃u0 u1,σ=[u0,u1]:=match σ,hσ with| [u0,u1],_=>kq u0 u1
  have sp:=zG [x3F,Vb] hp;have hlp:=sp _ _ hl;show DR hpp (Fm ((dt H2 p [x3F,Vb]) p) [xA,Vb]) ad (dt H2 p [x3F,Vb]) H3;show Wp ⟨p,_,rfl,ND.of hpp,rfl,_,_,rfl,_,_,rfl,rfl,?_⟩ (mO _ _ _ _ ?_);show Ay Sn hb.len Fy Sn;have hfl:xGP (xDe i (xF p (0<w8 p))):=FK (Ky _ _) (by show LT Im (xNp OL c3))
  try dsimp only
  rw [K2,Gw];by_cases h0:0<c
  ·rw [F8 (xHI (Gl<Ps c) x1p),Gm (by show LT hcw (FM h0))];refine wY _ _ (by show qa) (λ q nq=>Bh (by show b8) t nt);have sq:=Az [xA] nq;have hlq:=sq _ _ hlp;have hqq:Du H3 q [xA] q=Φ [xA]:=ad;have nql:q∉ [l]:=Re (by show WR xSK hlp nq nq)
   show BE H3 q [xA] H4 st (OD [Vb,yX]);have M8:=xT hlq;have hqt:=xT hqq;have Vl:Fm ((dt H4 t [Vb,yX]) t) [Vb,yX]:=ad;show DR ntl (t∉ [l]) (Re (by show WR xSK hlq nt nt)) (dt H4 t [Vb,yX]) H5;have s25:dz H5:=(sp.trans sq).trans st;have kk:∀c' o,c'∉ [l]->H5 c'=IO->(qO H5 (Fl++[V.ref t])) c'=IO:=λ c' o n e=>by show Sa (Re (n (by show Nn)))
   refine⟨M8,bx (by show Ai (Cm [_,_] P3 (Rn 300) LE 2000 xEX hfl)),rfl,ts++[t],by show Af FV,ad,Fw c' o,?_⟩
   ·show PH (s25 _ _ bL)
   ·show Η FV (xVP (hb.keepA λ c' o n e=>xJR n (s25 _ _ e)) ⟨q,ntl,nql,?_,xJR nql hqt⟩);show SL _ (HO.tup [vN (w8 i),yX]);show LT hcw (xJR ntl Vl)
  ·rw [FY (vh z (FQ z) Z4),Gx (by rw [hcw];show xNL)];refine⟨rfl,ts,rfl,hlp,sm.trans sp,?_⟩;rw [List.filter_nil,GU];exact hb.keep sp
 rotate_left
 ·rintro x σ H3 A' B' hAB ⟨a',xs,e,hq,ZL,v,r,e2,v2,r2,e3,e4,h⟩;exact⟨a',xs,e,hq,ZL,v,r,e2,v2,r2,e3,e4,hAB _ _ h⟩
 ·exact λ σ H A B h z9=>by obtain⟨v,e1,i,j,e2,e3,c,e4,z⟩:=z9;exact⟨v,e1,i,j,e2,e3,c,e4,tN⟩
 ·exact λ σ H A B h z9=>by show gq v e1 v2 e2 n1 z z9 ⟨v,e1,v2,e2,n1,λ q nq=>vV (z q nq).1 t nt (jv ((z q nq).2 t nt))⟩
 rintro ys H2 ⟨ts,rfl,hl,sm,hb⟩;rw [Fy] at hb;have Ow:NI H2 [l] ts xHO:=hb;clear hb;show Ay T5 Ow.len Fy T5;refine⟨l,Fl,rq xHO b xFp,rfl,xL7,by rw [Fy,Fy,Fy];exact T5,by show Ai (YY [_,_] 1 LE (Zz 300) LE p30 (Fz T5)),λ j v kk hv hk=>?_,λ lo mm XH hpw Xr=>A3⟩
 ·rw [Gs] at hk;cases e:(xHO)[j]? with
  |none=>show vR hk hk
  |some b=>
   rw [e] at hk;obtain⟨t,ht,lt,_,_,h1,h2⟩:=Ow.at e;show Μ (xwg ht) hv hv;cases hk;exact U8 t lt xY h1 rfl rfl
 clear g1;rw [xtz] at Xr;show ie Z' Sw (SM.xqr SG.Up _ Xr);have hZ:=(SM.xwL SG.Up Sw).symm;have hSB:x70 xuW xHO:=by
  show zh (SM.xlu (kg:=xuW) (λ z:MV×Bd=>CE) E2 Sw) (LK (by show Ai xRU))
 have hZB:x48 xHO:=by
  show zh (hZ.symm.map (·.2)) (LK (by show Ai xRU))
 have Xs:x5F:=by
  rw [Ii,Lo] at hpw;show Rq N5 Lo (hpw.imp (λ {a b} h=>by have h':xFx a≤xFx b:=h;exact(xCX (xRf h'))))
 obtain⟨L,UL,hLp,eL,eU⟩:=xlH (RX:=x7I) (UX:=[]) (by show LT GU hZB.symm);have eU':UL=[]:=by simpa using eU.symm
 subst eU';rw [GU] at hLp;have s5:=x4e XH;have hbs:=xVJ (xuo λ z hz=>Ow.zip z x49);have Qm:SL ((upd H2 lo (.lst ((Z'.map (λ z:MV×Bd=>(((z.2.1:Nat):Int),V.ref z.1))).map (·.2)))) lo) (.lst ((Z'.map (·.1)).map V.ref)):=by
  rw [ad,Ii,Ii];rfl
 show hJ sm3 x7J (upd H2 lo (.lst ((Z'.map (λ z:MV×Bd=>(((z.2.1:Nat):Int),V.ref z.1))).map (·.2)))) H3;rw [eL] at hbs Xs hSB;generalize x7H=ss at*;clear hZ hZB Xr Sw hpw eL eU hl Ow sm s5 T5;have hLl:=hLp.length_eq;have VX:=s1.trans sm3;have ha3:=VX _ _ ha;refine Z2 (Bh (by show qa) l4 n4)
 have s4:=xIx xIR;have Uj:Du H3 l4 xIR l4=Φ sO:=ad;show EI H3 l4 xIR H4 ⟨_,rfl,a,_,rfl,AN (ES ha3),l4,_,_,rfl,rfl,Uj,Z5,by show Ai (xNE c3),(by rw [Fy,Gr];exact bG (by show ux (1*C.length);exact(P9 300 (yk 1) 2000 c3))),BU l5 n5⟩;clear g1;have ez:xNr (zB xEd) sO=xHv p []:=by
  rw [Gr,Fy];show Zg C.length sO=xDc (λ _=>mq)
  rw [MR,Im];generalize C.length=n
  induction n with
  |zero=>rfl
  |succ n ih=>rw [Hv,HJ,ih,Hv];rfl
 try dsimp only
 rw [ez];have s5:=xIW (xHv p []);have h55:ni l5 (xHv p []) l5=Φ (xHv p []):=ad;have hb5:=xVJ ((hbs.keep s4).fresh n5);have hlo5:=AZ (ES Qm);have ZD:=(xZl).trans s5;have n05:A1 l5:=xL2 xZl;show vo H4 l5 (xHv p []) H5;clear s4 s5 Uj n4 n5 ez;refine Z2 ⟨_,rfl,_,rfl,lo,l5,ss,L,w8,m,rfl,hlo5,Bt h55,hb5,Xs,Ls p1 hLl,(Z3 [_,_] 1 LE (Zz 300) LE 300 p30 (Fz hLl.symm)),m1,m2,λ lb ub B H6 s6 nlb hlb hub lv=>?_⟩
 have h65:=tx h55;have s06:=x7K;have SJ:xvC L w8 m (occ (xy8 1 (EV-2))):=by
  refine xgC (hLp.nodup_iff.mp ?_) Zc lv.lev (Ls p1 hLl) m1 (Iz hLl.symm pm)
  ·exact List.Pairwise.filter _ List.nodup_range
  ·show AY (x5a hp).2 (FQ this)
 have hwR:lH (xy8 1 (EV-2)) (∀q∈oF,xNc q):=λ b hb q hq=>by
  show AY (xbq lv.lev b (G9 hb) q hq) (Kr.mp (x5a this).1)
 show DR hln (xw2 C m (occ (xy8 1 (EV-2)))) ⟨L,B,Xs,hSB,lv,rfl⟩ (xy8 1 (EV-2)) R;have hulR:=hub.len;have hlb5:lb≠l5:=DH h55 nlb;clear hb5 hlo5 h55 Xs hbs Qm;refine xHV lb hlb (rB Wo K lb (ub.map V.ref) (λ i σ H7=>∃v4 v5:BV,σ=[Bm,oi,TD lo,xOF,v4,v5]/\H7 l5=Φ (xHv p xKw)/\∀c o,EC l5->Di=IO->H7 c=IO) (EE none none h65 xVx) (λ i σ H7 _ z9=>by show xK1 kp z9 (Ng.of (B1 hlb5 hlb))) ?_ ?_)
 ·clear g1;rintro i y σ H7 hi ⟨v4,v5,rfl,h7,kp⟩;have OL:xWX i:=by show wB (Fg hi) Fy (x3n hulR)
  have hRi:A7 R R[i]:=i';obtain⟨t,ht,lq,nt,nq,h1,h2⟩:=hub.at hRi;have hy:y=wG:=by show ρ (xwg ht) hi (P8 hi)
  subst hy;have M8:=hwR _ (HU OL);show DR e1 (∀p,wC (R.take (i+1))=xPu+VJ R[i].2) (λ p=>by
   rw [HC,hRi];show wC (xKw++[R[i]])=_;rw [lf,xvm];rfl) R[i] bb;have nq':lq≠l5:=Re (nq (by show Nn))
  have nt':t≠l5:=Re (nt (by show Nn))
  refine⟨_,rfl,t,_,_,_,rfl,rfl,ND.of (B1 nt' h1),wu,lq,rfl,Bt (Ng.of (B1 nq' h2)),rB Wo K lq (Ο xEA) (λ j σ H8=>∃v5:BV,σ=[Bm,oi,TD lo,xOF,TD t,v5]/\H8 l5=Φ (xDc (λ p=>vN (xPu+xJI p)))/\∀c o,EC l5->Di=IO->xIg=IO) (SU v5 (by simpa using h7) kp) (λ j σ H8 _ z9=>by show iN kp z9 (Ng.of (B1 nq' h2))) ?_ ?_⟩
  ·rintro j y σ H8 hj ⟨v5,rfl,h8,Yc⟩;show Vf q hq (cZ hj);have hqn:xNc q:=M8 q (Hi hq);have hg:(xDc (λ p=>vN (xPu+xJI p)))[q]?=Χ (x34+xJI q):=by
    rw [Gs,JI hqn];rfl
   have e2:Ps (x34+xJI q)+1=jm (x34+xJI q):=Lv _;refine⟨_,rfl,_,rfl,l5,_,_,_,rfl,rfl,Ng.of h8,aD hg,_,_,rfl,rfl,?_⟩
   try dsimp only
   show Η e2 ⟨_,rfl,_,rfl,l5,_,_,q,rfl,rfl,h8,ixN_nat (by rw [Fy,Im];exact hqn),xIi,rfl,?_,λ c o n e=>?_⟩
   ·rw [ad,set_range (f:=λ p=>xPu+xJI p) (f':=λ p=>xPu+x6Y (j+1) p) (o6 p)];rw [cK hq,J7,Hj]
   ·show XV n (xJS n e)
  ·rintro σ H8 ⟨v5,rfl,h8,Yc⟩;rw [Fy,Hc] at h8;refine EE _ _ ?_ Yc;rw [h8];congr 2;refine KR λ p _=>?_
   rw [e1 p]
 ·rintro σ H7 ⟨v4,v5,rfl,h7,kp⟩;rw [Fy,hulR,Hc] at h7;refine xFJ (k l5 _ H7 n05 (λ c o e=>B1 (W2 n05) (s06 _ _ e)) h7 (SJ.perm hLp.symm) hln)
universe K25.S
namespace K25.Tb
open PySem L2 QQ W13 BP
seal PE PA PS PSs PT PW PG PI
inductive xju (vs:NE) (H:Hp) (Q:VK) (Nf:XK):Prop
 |mk (a:MV) (L:Id) (h0:vs=CV) (h1:XL=vt) (h2:tX) (h3:(Rv L 6)) (h4:Yv):xju vs H Q Nf
def xe0:Uf Jag Jag xsA:=Sc
def xeS (F:Ζ "need_table" xsA Jag)(Y:RQ):AH 3 Jag xju:=by
 obtain⟨T,⟨_,_,W⟩,⟨_,_,AW⟩,_⟩:=Y;show CQ tb hb T.bits tm hm T.many;show Al xe0 (λ M7 A outer s H vs Q E hr h=>?_);show dS a L rfl hL hl h6 k;show E9 (lE (WN (wK (il (xx0 AW W T) hr AW SZ aj (DT 6 hb tb))) (CZ xvR zu xM0))) ⟨_,rfl,a,L,0,6,rfl,hL,λ b z=>by have:=h6 b z;show A5 pS (xO (xU 6 6 this)),_,rfl,oo⟩ ⟨_,rfl,a,_,rfl,AN hL,rfl,_,rfl,xqJ ?_ k⟩;rw [Fy,hl];rfl
inductive xke (vs:NE) (H:Hp) (Q:VK) (Nf:XK):Prop
 |mk (a:MV) (L:Id) (p ah:Nat) (h0:vs=[ω,xIj,xGr]) (h1:XL=vt) (h2:tX) (h3:p≤272) (h4:uq (xzA ah p)):xke vs H Q Nf
def xsY:Uf ["lengths","place","ahead","most","again"] xLX xyg:=Sc
inductive xla (H:Hp) (a:MV) (L:Id) (p:Nat) (ah:Nat) (m:Nat) (n:Nat) (σ:St) (H2:Hp):Prop
 |mk (i:Nat) (h0:n=m-i) (h1:σ=[Bm,Dh,xOI,oi,Χ i]) (h2:H2=H) (h3:i≤m) (h4:∀j<i,yO (xEi) ah):xla H a L p ah m n σ H2
def xf7 (F:Ζ "again_from" xyg xLX)(T:Bz):gW xLX xke:=by
 show CQ tm hm T.many ta Yg T.mostA;show Al xsY (λ M7 A outer st H vs Q E hr h=>?_);obtain⟨a,L,p,ah,rfl,hL,hl,hp,k⟩:=h;have hn:=xD;show xZ (ju 3 xsY.nd (bF xTP T.min Kx (DT 66 Yg ta) (xo xM0 PP)) (Fc 4 xsY.nd aj (zX (xUR (o7 dZ π) (xa x2F Ty)) (af (oW xsY.nd xT9))) Ν)) ⟨_,rfl,_,_,rfl,rfl,_,_,rfl,A3⟩;show SX m em ZH m (oP (xMq-uI<66) (xMq-uI) 66=zU/\m=min 66 (272-p)) (kq (min 66 (272-p)) (by split<;>lia))
 try dsimp only
 rw [em];clear em;show xHQ D2
 show Ay T9 (xwd ah xEi) FU T9;refine AG (xla H a L p ah m) (Qc m 0 rfl rfl AM (px j hj hj (LV _)));rintro n σ H2 ⟨i,rfl,rfl,rfl,hi,NC⟩;refine⟨_,rfl,_,rfl,_,_,rfl,rfl,_,rfl,Za⟩
 ·have h2:i<m:=by show AY OQ xzk
  have e1:uI+cS=i9 i:=(Tz [_,_] P3 P3 [_,_] P3 P3);have l1:kc (p+i):=FZ (Ic (FN h2 (W4 ZH rV))) hl.symm;refine⟨_,rfl,_,rfl,_,rfl,_,_,rfl,rfl,?_⟩
  try dsimp only
  rw [e1];have hgd:A7 (xEi) L[p+i]:=by rw [Js,xOt]
  refine⟨a,_,_,_,rfl,rfl,Ng.of hL,zp l1,_,rfl,rfl,_,rfl,qR h3 h3⟩
  ·have h4:L[p+i]=ah:=x1K h3;refine AG (λ σ' H'=>σ'=[Bm,Dh,xOI,oi,xBM i]/\H'=H2) (λ σ' H' z=>⟨m-(i+1),xSB h2,i+1,rfl,i6,CE, sP,Q1⟩)
   ·by_cases e:j=i
    ·subst e;rw [hgd,h4]
    ·exact NC j (Hm (HI hj) e)
   ·exact ZW _ _ rfl rfl rfl
  ·refine xGb;have h4:XA (xEi)[i]? ah:=by
    rw [hgd];intro z;exact h3 x2K
   rw [xnO NC h4,HY (xNp h2 (W4 ZH DN))] at k;exact k
 ·refine aV xGb;have h2:i=m:=by
   have PJ:¬(SB (vB rT uf)):=h1;have:¬(rT<uf):=Re (PJ xAp)
   exact FA hi (Hg (Re (this (WW z))))
  subst h2;have h5:=xtS NC;have e:xzA ah p=i:=FA (d4 (xZm ⟨DN,xL4 (hl▸T9)⟩) ZH.symm) (xZm ⟨W4 ZH DN,h5⟩);show ρ e k k
def xg2:∀P,xyy P≤9*P.length:=by
 intro P;have e:xyy P=xZ3 Itm.cost:=xpW P;rw [e];clear e
 induction P with
 |nil=>simp
 |cons x P ih=>
  have:x.cost≤9:=by cases x<;>simp [Itm.cost]
  simp;exact(Fp [_,_,_] 1 LE (CF (pN 9) 9) P3 (.m 9 yr) ih this)
inductive xjf (C:MV) (vs:NE) (H:Hp) (Q:VK) (Nf:XK):Prop
 |mk (p d a:MV) (N0 T0:Nat) (L:Id) (h0:vs=we) (h1:Np C H p d N0 T0) (h2:xGT) (h3:XL=vt) (h4:tX) (h5:(Rv L 6)) (h6:a≠d) (h7:tU Pp qJ b Nat Hp (xWA 0 0 Pp 272 b->gN C H' x0Y N0 (T0+xBe)->Fu (∀c o,W1=IO->Γ->wx->AE=IO))):xjf C vs H Q Nf
def xvL:Uf ["bits","lengths","place","ahead","again"] xVs xq6:=Sc
def xc9 (F:Ζ "put_table" xq6 xVs)(NT:Dv "need_table" xsA Jag fN Ul)(AF:Dv "again_from" xyg xLX fA fdA)(B:xHn C):rA xVs (xjf C):=by
 have X:=B.R.X;show ZV W B.R.whole S B.needsize;show vO O B.ones Pu B.put M B.move;have T:=B.T;have GP:=xQn P w S W O M T X;show CQ tm hm X.many ta hag X.again;show xV tl hle X.leastA xvL (λ M7 A outer st H vs Q E hr h=>?_) _;obtain⟨p,d,a,N0,T0,L,rfl,hB,TJ,ha,hl,h6,nad,k⟩:=h;have Pe:Dg:=UF;have nap:DO a:=by
  obtain⟨dx,_,_,_,hp,_⟩:=hB;exact xQ ha (by show Τ)
 show xZ (u9 (lJ (xeS NT B.R) Pe NT PP) (Cg 2 xvL.nd aj (pX 3 xvL.nd aj (zX (CZ dZ Ty xM0) (pX 4 xvL.nd (il (xf7 AF X) hr AF PP Ty π) (xvx (o7 xwT xHu)
    (xBw (xN SZ T.cl Pu GP Pe (xzG (DT 7 hag ta))) (xN SZ T.cl Pu GP Pe (xzG (xo Ν xHu))) (xBa xvL.nd (xVe Ν)))
    (vP 3 xvL.nd (gM PP Ty) (xN SZ T.cl Pu GP Pe (xzG π)) (af (xBa xvL.nd xT8))))))))) (aN _ a L rfl ha hl h6 A3);show xAA;show xHQ (AG (λ n σ H2=>∃q ah Pp v4,n=272-q/\σ=[Qg,Bm,xIi,xOI,v4]/\q≤272/\xWA 0 0 Pp q ah/\gN C H2 x0Y N0 (T0+xBe)/\(∀c o,W1=IO->Γ->wx->yf=IO)) ⟨272,0,0,[],none,rfl,rfl,Z9,vf,hB,λ c o e _ _=>e⟩)
 rintro n σ H2 ⟨q,ah,Pp,v4,rfl,rfl,hq,hw,Pw,kp⟩;refine mO _ _ _ _ (qR hc hc)
 ·have Sf:q<272:=by show AY xOu xzk
  have hqL:Dc:=FZ Sf hl.symm;refine AG (λ σ' H'=>∃q' ah Pp v4,q<q'/\σ'=[Qg,Bm,Χ q',xOI,v4]/\q'≤272/\xWA 0 0 Pp q' ah/\gN C H' x0Y N0 (T0+xBe)/\(∀c o,W1=IO->Γ->wx->AE=IO)) (λ σ' H' z9=>by obtain⟨q',ah,Pp,v4,M8,z1,z2,z⟩:=z9;exact⟨272-q',Ie (FN M8 z2) M8,q',ah,Pp,v4,rfl,z1,z2,z⟩)
  have Yd:=dj hw;have ZP:=xg2 Pp;have Su:=B1 ha nap nad;have hws:=xvr hw hqL;have hsz:=xm9 (a:=ah) hqL;show ij g2 ⟨_,rfl,_,rfl,_,rfl,a,L,q,ah,rfl,Su,hl, sP,Zw⟩ g2;obtain⟨dx,B2,r2,k2,NB,hd2,br2,Uc⟩:=id Pw;have no:∀r k,WF (ZA Wf "put"):=λ r k=>RJ
  refine mO _ _ _ _ (qR h3 h3)
  ·have h4:3≤xPK:=by show AY (FQ h3) (Mp.mp this)
   have est:T2 q ah=.rep xPK:=by show CS stAt (F8 h4)
   rw [est] at hws hsz;show DR hr66 (xPK≤66) (GG 66 _) xPK r;refine⟨_,rfl,p,dx,_,rfl,NB,Vd _,p,d,_,_,7,3,rfl,Pw,Cm [_,_,_,_] (xGh 9 (CD 9 (bV Be) Os)) (w6 (zD 9 272 (VM 9 (RA 9)))) P3 4000 TJ (Bb x3o x3p ZP),Z9,Z9,τ H3 SD NJ⟩;obtain⟨PK,B3,r3,k3,N1,hd3,br3,hk3⟩:=id SD;have er:Ps r-3=Ps (r-3):=Z5;refine⟨_,rfl,p,PK,_,rfl,N1,Vd _,_,rfl,_,_,rfl,rfl,?_⟩
   try dsimp only
   show ug er ⟨p,d,_,_,r-3,6,rfl,SD,Cm [_,_,_,_] (xGh 9 (CD 9 (bV Be) Os)) (w6 (zD 9 272 (VM 9 (RA 9)))) (lL 3) 4000 TJ (Bb x3o x3p ZP),Z9,(by show r-3<2^6;lia),τ H4 XZ QR⟩ ⟨_,rfl,_,rfl,_,_,rfl,rfl,q+r,ah,Pp++[.rep r],Χ r,(BX EZ Os On P3 h4),?_,by have:=hsz.2;show q+r≤272;have e:(x0L).size=r:=rfl;exact(Z3 [_,_,_,_] 2 (vA qE) (Br 272 Eo) P3 272 xUc (xEK hsz.2)),hws,?_,λ c o e n1 n2=>US xHq n1 n2⟩
   ·have e2:xIt+Ps r=Ps (q+r):=x5b _
    try dsimp only
    show Af e2
   ·rw [xmZ,xv5,aW];have e5:T0+(xBe+xyy [x0L])=T0+xBe+3+6:=by
     have:xyy [x0L]=9:=rfl;exact uL (By [_,_,_] Tm (.n 9) vF (CF (lL 3) 6) xzt) (.n 9) Tm (CF (lL 3) 6) vF wO
    show LT e5 XZ
  ·have h4:¬3≤xPK:=Re (h3 (FM (xyk (UG EZ EZ z))))
   have est:T2 q ah=.one L[q]:=by show CS stAt (FY h4);show xVq hqL
   rw [est] at hws;have hx6:L[q]≤6:=h6 _ (HU hqL);show E9 ⟨_,rfl,_,rfl,a,_,_,_,rfl,rfl,xEJ,zp hqL,?_⟩ ⟨_,rfl,p,dx,_,rfl,NB,Vd _,_,rfl,p,d,_,_,L[q],3,rfl,Pw,Cm [_,_,_,_] (xGh 9 (CD 9 (bV Be) Os)) (w6 (zD 9 272 (VM 9 (RA 9)))) P3 4000 TJ (Bb x3o x3p ZP),Z9,(by show L[q]<2^3;lia),τ H3 SD NJ⟩ ⟨_,rfl,_,_,rfl,rfl,q+1,L[q],Pp++[.one L[q]],_,Lr _,rfl, sP,hws,?_,λ c o e n1 n2=>xHq⟩;rw [xmZ,xv5,aW];have e5:T0+(xBe+xyy [Itm.one L[q]])=T0+xBe+3:=by
    have:xyy [Itm.one L[q]]=3:=rfl;exact uL (By [_,_,_] Tm (.n 3) vF (lL 3) xzt) EZ Tm (lL 3) vF wO
   show LT e5 SD
 ·have Sf:q=272:=by
   have h1:¬(SB (vB xIt 272)):=hc;have:¬(xIt<272):=Re (h1 xAp)
   lia
  show DI Sf (k Pp ah H2 hw Pw kp)
universe K25.Tb
namespace C9
def ed (L:Id):Cs
 |0=>0
 |j+1=>2*ic+L.count (j+1)
def cdAt (L:Id) (q s:Nat):Nat:=2*PF (s-1)+xuK q s
def itm (L:Id) (j p q:Nat):xYr:=xWJ (xBm/\(O2 xr\/(xr=j+1/\q<p))) (xAc xr,xr) none
def row (L:Id)(j p:Nat):x3D:=xC0 L.length (itm L j p)
def codes (L:Id):x3D:=QV 12 0
def bC (L:Id)(j p:Nat):B4 xGm L.length:=by simp [row]
def dG {L:Id}{j p q:Nat}(h:Dc):Aq (xGm) q (itm L j p q):=by simp [row,h]
def xhy (L:Id):QV 0 0=xKm L.length:=by
 apply Ix;intro q;by_cases h:Dc
 ·rw [dG h,Kj,Qp];congr 1;show CS itm (FY Z5)
 ·rw [GZ (by show Qr bC h),GZ (by show Qr Gy h)]
def xhg (L:Id)(j:Nat):QV j L.length=QV (j+1) 0:=by
 apply Ix;intro q;by_cases h:Dc
 ·rw [dG h,dG h];congr 1;unfold itm;by_cases c:xBm/\(O2 xr\/(xr=j+1/\Dc))
  ·rw [xH7,xGD]
  ·rw [uQ,FY Z5]
 ·rw [GZ (by show Qr bC h),GZ (by show Qr bC h)]
def xam {L:Id}{j p:Nat}(h:x6 p (j+1)):QV j (p+1)=(xGm).set p (some (ud,j+1)):=by
 have hp:kc p:=Fg h;have hg:jP p=j+1:=by rw [Gu,h];rfl
 apply Ix;intro q;by_cases e:p=q
 ·subst e;rw [dG hp,IB (by show LT bC hp)];congr 1;unfold itm;rw [hg,xGD]
 ·rw [Jy e];by_cases hq:Dc
  ·rw [dG hq,dG hq];congr 1;unfold itm;by_cases c:xBm/\(O2 xr\/(xr=j+1/\q<p))
   ·rw [xH7,xGD]
   ·rw [uQ,FY Z5]
  ·rw [GZ (by show Qr bC hq),GZ (by show Qr bC hq)]
def xhw {L:Id}{j p:Nat}(h:XA L[p]? (j+1)):QV j (p+1)=xGm:=by
 apply Ix;intro q;by_cases hq:Dc
 ·rw [dG hq,dG hq];congr 1;unfold itm;have OZ:q=p->xr≠j+1:=by
   rintro rfl e;apply h;rw [Gu,FL hq] at e;show LT (FL hq) (xyP e)
  by_cases c:xBm/\(O2 xr\/(xr=j+1/\q<p))
  ·rw [xH7,F8 Z4]
  ·rw [uQ,FY (by
    intro z;apply c;refine Fh i6;rcases CE with z|⟨z1,z2⟩
    ·show BB z
    ·refine .inr (Fh z1);have:DO q:=λ e=>OZ e z1
     lia)]
 ·rw [GZ (by show Qr bC hq),GZ (by show Qr bC hq)]
def xoa (L:Id)(j p:Nat):ud=2*ic+xuK p (j+1):=rfl
def xl7 {L:Id}{j p:Nat}(h:x6 p (j+1)):uk (p+1)=ud+1:=by
 unfold cdAt;rw [HC,h,J7];simp;exact EN [_,_] (O5 Ψ) (AJ xz0) [_,_] (AJ xz0) (O5 Ψ)
def xgH {L:Id}{j p:Nat}(h:XA L[p]? (j+1)):uk (p+1)=ud:=by
 unfold cdAt;rw [HC,J7];cases e:L[p]? with
 |none=>simp
 |some z=>
  rw [e] at h;have:z≠j+1:=λ q=>h (by rw [q])
  simp [List.count_singleton,this]
def xlD (L:Id)(j:Nat):uk L.length=PF (j+1):=by
 rw [xoa,Hc];rfl
theorem xnz (L:Id)(a:Nat):∀d,2^d*PF a≤PF (a+d)
 |0=>by simp
 |d+1=>by
  have:=xnz L a d;show _≤2*PF (a+d)+_;rw [Iq];have:2^d*2*PF a=2*(2^d*PF a):=by rw [HM (2^d) 2,HQ]
  omega
theorem xiK (L:Id):∀j,ic+L.length≤L.length*2^j
 |0=>by simp [ed]
 |j+1=>by
  have:=xiK L j;have:=x5G (j+1) (l:=L);rw [ed,Iq,<-HQ];lia
def xoO {L:Id}{q s:Nat}(h:CG)(hs:se):WC<PF s:=by
 show x5 j j (s=j+1) ⟨s-1,xUF hs rfl⟩;have h1:=xl7 (j:=j) h;have h2:uk (q+1)≤PF (j+1):=by
  rw [<-xlD];unfold cdAt;have:List.count (j+1) (List.take (q+1) L)≤List.count (j+1) (List.take L.length L):=by
   show LT Hc (x42 xH4)
  exact IV.mpr this
 exact FN (Fz h1.symm) h2
def xcC {L:Id}{q1 q2 s1 s2:Nat}(h1:x6 q1 s1)(p1:AK s1)(lt:s1<s2):jR q2 s2/2^(s2-s1)≠jR q1 s1:=by
 have a:=xoO h1 p1;have b:2^(s2-s1)*PF s1≤jR q2 s2:=by
  show SK (xnz L s1 (s2-1-s1)) (show s1+(s2-1-s1)=s2-1 by exact uL (bM DD Tm P3 Tm (gu [_,_,_] On Tm (CN Ψ) LE Os lt Ω)) Tm DD Tm P3 Ω);rw [show s2-s1=(s2-1-s1)+1 by exact BC (yL [_,_,_,_,_] 4 (DX Dz) (tV Θ 4 Be) LE Ψ (xb Ω [_,_] On Os LE Os lt)) (yL [_,_,_,_,_] 3 (kn 4 Θ) (.a Dz yE) Ψ LE (Fx (Zi [_,_] On AU lt) (gu [_,_,_] On Os W7 LE Tm lt Ω))),Iq];unfold cdAt;have e:2^(s2-1-s1)*2*PF s1=2*(2^(s2-1-s1)*PF s1):=by rw [HM (2^(s2-1-s1)) 2,HQ]
  exact(qe [_,_,_,_] (xIB LE) (xIC xAf) (xIC Tm) (bh this) xFD)
 have c:PF s1≤jR q2 s2/2^(s2-s1):=(Nat.le_div_iff_mul_le jo).mpr (by show LT HM b);omega
def krf (m:Nat)(L:Id):Nat:=(rq (wI l (0<l)) l (2^(m-l))).sum
def xoX (m:Nat)(L M:Id):krf m (L++M)=krf m L+krf m M:=by
 unfold krf;rw [Gw,FV,JF]
theorem xnf {m:Nat}(hm:qo m):∀L:Id,(∀l∈L,l≤m)->QG L=2^(12-m)*krf m L
 | [],_=>rfl
 |a::L,h=>by
  have ih:=xnf hm L λ l z=>QC l z
  have ha:=aw a;unfold krf at ih ⊢;by_cases c:0<a
  ·simp only [MJ,c,decide_true,if_true,HH,KG];rw [ih,JH,<-Ji];congr 2;exact JG (Nat.sub_add_sub_cancel hm ha)
  ·simp only [MJ,c,decide_false,IJ,K1];exact ih
structure Good (L:Id):Prop where
 ne:RC 1
 le:xWu
 most:∀l∈L,qo l
 some:∃l∈L,0<l
 room:QG L≤4096
universe C9
namespace C10
open BP C9
def kle (L:Id)(j:Nat):Nat:=QG (wI l (O2 l))
theorem xml (p:x3y):∀L:Id,QG (L.filter p)≤QG L
 | []=>UV
 |a::L=>by
  have ih:=xml p L;have e:∀M:Id,QG (a::M)=QG sW+QG M:=λ M=>xoX 12 sW M
  by_cases h:SB (p a)
  ·rw [Gm h,e (L.filter p),e L];exact IV.mpr ih
  ·rw [Gx h,e L];exact Lu ih
def xhs (L:Id)(j:Nat):kle L (j+1)=kle L j+L.count (j+1)*2^(12-(j+1)):=by
 induction L with
 |nil=>simp [kle]
 |cons a L ih=>
  have e:∀M:Id,QG (a::M)=QG sW+QG M:=λ M=>xoX 12 sW M
  unfold kle at ih ⊢;rw [K0];by_cases h1:O2 a
  ·rw [Gm (by simp;exact HL h1),Gm (by show yn),e (wI l (l≤j+1)),e (wI l (O2 l)),ih,FY (by simp;lia)];simp only [Jn];exact JG (Hj _ _ (_*2^(12-_)))
  ·by_cases h2:a=j+1
   ·subst h2;rw [Gm Z6,Gx Z6,e (wI l (l≤j+1)),ih,F8 Z6];have:QG [j+1]=2^(12-(j+1)):=by
     unfold krf;simp
    rw [this,Ju,Nat.one_mul];exact EN [_,_,_] vF (Aw qA) [_,_,_] (Aw qA) vF
   ·rw [Gx (by simp;exact Hm (x4h h1) λ a=>h2 (id (JG a))),Gx (by show yn),ih,FY (by show xXk)];simp only [Jn]
theorem xnP (L:Id):∀j,qo j->ic*2^(12-j)=kle L j
 |0,_=>by
  unfold kle krf;have:(xzo (wI l (l≤0)) l (0<l))=[]:=by
   rw [List.filter_filter,IA];intro a _;simp;lia
  rw [this];simp [ed]
 |j+1,h=>by
  have ih:=xnP L j (Jj h);rw [xhs,<-ih];show(2*ic+L.count (j+1))*2^(12-(j+1))=_;rw [Ju,show 12-j=(12-(j+1))+1 by exact BC (qe [_,_,_] (xOJ Dz) (CF W7 12) Ψ Ω (Dq AV On xTY LE xTY h)) (Bu [_,_,_] (xOJ W7) (CF Dz 12) Ψ LE Ω (Dq AV On xTY On xTY h)),Iq];congr 1;rw [HM 2,HQ,HM 2]
def xck {L:Id}(g:tZ){j:Nat}(hj:qo j):ic≤2^j:=by
 have h:=xnP L j hj;have h1:kle L j≤4096:=FK (xml _ L) g.room;have h2:2^j*2^(12-j)=4096:=by rw [<-Ji,AI (j+(12-j)) 12 (Hh hj)]
 rw [<-h,<-h2] at h1;exact Nat.le_of_mul_le_mul_right h1 jo
def xtR {L:Id}(g:tZ){q s:Nat}(h:CG):qo s:=g.most s (Hi h)
def xqX {L:Id}(g:tZ){q s:Nat}(h:CG)(hs:se):WC<2^s:=
 FN (xoO h hs) (xck g (xtR g h))
def xnC {L:Id}{q r s:Nat}(h1:CG)(h2:x6 r s)(e:WC=jR r s):q=r:=by
 have key:∀q r:Nat,CG->q<r->xuK q s<xuK r s:=λ q r h1 h=>by
  have e1:xFA q 1=L.take q++[s]:=by rw [HC,h1];rfl
  have e2:xuK (q+1) s=xuK q s+1:=by rw [e1,J7];simp
  have e3:xuK (q+1) s≤xuK r s:=by
   have:xFA q 1=(L.take r).take (q+1):=by rw [Ms,G2 Z4]
   show LT this (x42 xH4)
  exact(B7 [_,_,_] On Tm DC On Os (Fz e2.symm) e3)
 unfold cdAt at e;rcases Mv q r with h|h|h
 ·show AY (key q r h1 h) (BC (xI5 h) (U5 [_,_,_] (xV1 Tm Ψ) (pV xz0) (Vt xu2)))
 ·exact h
 ·show AY (key r q h2 h) (BC (U5 [_,_,_] (.a xz0 yr) (vA (O5 Tm)) (Vt xFD)) (BX Ψ LE Os LE h))
def xd6 (L:Id)(u:Av)(q:Nat):Prop:=x6 q u.length/\AK u.length/\xAc u.length=xGK
def Beg (L:Id)(u:Av):Prop:=∃q s,CG/\u.length<s/\WC/2^(s-u.length)=xGK
def xpu {L:Id}{u:Av}{q:Nat}(h:tJ u q)(b:xPj u):False:=by
 obtain⟨h1,h2,h3⟩:=h;show Cc q2 s2 b1 b2 b3 b (xcC h1 h2 b2 (b3.trans h3.symm))
def xfk {L:Id}{u:Av}{q r:Nat}(h:tJ u q)(h':tJ u r):q=r:=xnC DJ h'.1 ((ir).trans (CJ h').symm)
inductive Res where
 |thing (q s:Nat)
 |bad
 |none
def Due (L:Id)(rest:Av):ZU Res
 | .thing q s=>s≤rest.length/\tJ x6Z q/\∀j<s,xRB L j
 | .bad=>∃s,s≤rest.length/\(∀j<s,xRB L j)/\¬xRB L s/\∀q,¬tJ x6Z q
 | .none=>∀j≤rest.length,xRB L j
def Due.uniq {L:Id}{rest:Av}{a b:Res}(ha:xJk a)(hb:xJk b):a=b:=by
 have tt:∀{q s q' s'},xu9 L rest q s->xu9 L rest q' s'->s≤s':=λ {q s q' s'} h h'=>by
  show CM s' s c c
  ·show UO (xpu (A4 h') (ir s' c))
  ·exact c
 have tb:∀{q s},xu9 L rest q s->xJk .bad->False:=λ {q s} h ⟨r,h1,h2,h3,h4⟩=>by
  rcases Mv s r with c|c|c
  ·exact xpu gv (h2 s c)
  ·show DI c (h4 q gv)
  ·exact h3 (ir r c)
 have tn:∀{q s},xu9 L rest q s->xJk .none->False:=λ {q s} h h'=>xpu gv (h' s DJ)
 have bn:xJk .bad->xJk .none->False:=λ z9 h'=>by show Cc r h1 h2 h3 h4 z9 (h3 (h' r h1))
 cases a with
 |thing q s=>
  cases b with
  |thing q' s'=>
   have e:s=s':=FA (tt ha hb) (tt hb ha);subst e;rw [xfk (A4 ha) (A4 hb)]
  |bad=>show UO (tb ha hb)
  |none=>show UO (tn ha hb)
 |bad=>
  cases b with
  |thing q' s'=>show UO (tb hb ha)
  |bad=>rfl
  |none=>show UO (bn ha hb)
 |none=>
  cases b with
  |thing q' s'=>show UO (tn hb ha)
  |bad=>show UO (bn hb ha)
  |none=>rfl
theorem xky:∀{a b:Av},a.length=b.length->num a=num b->a=b
 | [],[],_,_=>rfl
 |x::a,y::b,h,e=>by
  have hl:a.length=b.length:=by show kY
  rw [xrX,xrX,hl] at e;have h1:=xvI a;show Ay h2 (xvI b) hl h1;have exy:x=y:=by
   cases x<;>cases y<;>first|rfl|(exfalso;simp at e;omega)
  subst exy;rw [xky hl (FA (bM qA DC LE Os xFD) (bM DC qA Os LE xu2))]
def xlx (u:Av){k:Nat}(h:k≤u.length):num xZ6=xGK/2^(xE9 k):=by
 have e:xGK=num xZ6*2^(xE9 k)+num xZ7:=by
  show xP9 (xx5 xZ6 xZ7) Gf FU
 show Ay M8 (xvI xZ7) FU M8;rw [e,HM,LU jo,LG M8];rfl
def xnW (c:oK):Av:=dig SV Rd
def wd_num {L:Id}(g:tZ){q s:Nat}(h:CG)(hs:se):num (xnW (WC,s))=WC:=by
 show Rq xnW xvh (Jv (xqX g h hs))
def xmF {L:Id}{q:Nat}(g:tZ):(dO)[q]?=xWJ Dc (xWJ xBm (xAc xr,xr) none) none:=by
 unfold codes;by_cases h:Dc
 ·rw [dG h,Qp];congr 1;unfold itm;have:qo xr:=by
   rw [Gu,FL h];exact g.most _ (HU h)
  by_cases c:xBm
  ·rw [F8 ⟨c,.inl this⟩,xH7]
  ·rw [FY (Re (c i6)),uQ]
 ·rw [Qo,GZ (by show Qr bC h)]
def xfV {L:Id}(g:tZ){q:Nat}{c:oK}(h:Aq (dO) q (some c)):x6 q Rd/\AK Rd/\SV=xAc Rd:=by
 rw [xmF g] at h
 split at h
 ·rename_i hq
  show xPZ h
  split at h
  ·rename_i h1
   cases h;refine kq ?_ h1;rw [Gu,FL hq];rfl
  ·cases h
 ·cases h
def xjk {L:Id}(g:tZ){q s:Nat}(h:CG)(hs:se):Aq (dO) q (some (WC,s)):=by
 have hq:=Fg h;have e:xr=s:=by rw [Gu,h];rfl
 rw [xmF g,F8 hq,e,F8 hs]
universe C10
namespace L2
open PySem PySem.Spec PyProof.Rows QQ
section
variable {κ:Type}[DecidableEq κ]
def cF (Nj:rO)(k:κ):BV:=(Nj.find? (xF kv (tj=k))).map (·.2)
def putK (Nj:rO)(k:κ)(v:V):rO:=
 E1 (xLZ kv (tj=k)) (xWY kv (EK tj k (tj,v) kv)) (Nj++[(k,v)])
def xqO {k:κ}(e:Ab=k):SL (cF (p::r) k) zO:=by simp [cF,KC,e]
def xqP {k:κ}(e:¬Ab=k):cF (p::r) k=cF r k:=by simp [cF,KC,e]
theorem xrW (k:κ):∀Nj:rO,(xLZ kv (tj=k))=(iI).isSome
 | []=>rfl
 |p::r=>by
  rw [List.any_cons];by_cases e:Ab=k
  ·simp only [tE,FM e,Bool.true_or,Option.isSome_some]
  ·rw [tD,Ik e,Bool.false_or];exact xrW k r
theorem xoz (k j:κ)(y):∀Nj:rO,cF (xWY kv (EK tj k (tj,y) kv)) j=rq xWx x (EK j k y x)
 | []=>rfl
 |p::r=>by
  have ih:=xoz k j y r;rw [HH];by_cases h:Ab=k
  ·rw [Qp];by_cases e:Ab=j
   ·rw [xqO (p:=(Ab,y)) e,tE,JJ,F8 (e.symm.trans h)]
   ·rw [xqP (p:=(Ab,y)) e,tD,ih]
  ·rw [Qo];by_cases e:Ab=j
   ·rw [tE,tE,JJ,FY (Re (h (e.trans z)))]
   ·rw [tD,tD,ih]
theorem xlV (k j:κ)(y):∀Nj:rO,WF iI->cF (Nj++[(k,y)]) j=xAm j k y xWx
 | [],_=>by
  by_cases e:k=j
  ·show rz e.symm tE
  ·show iL (Re (e z.symm)) tD
 |p::r,hn=>by
  rw [Jw];have hk:¬Ab=k:=Re (by show Μ (xqO z) hn hn)
  rw [xqP hk] at hn;have ih:=xlV k j y r hn;by_cases e:Ab=j
  ·rw [tE,tE,FY (Re (hk (e.trans z)))]
  ·rw [tD,tD,ih]
def xpE (Nj:rO)(k j:κ)(y):cF x3N j=xAm j k y xWx:=by
 unfold putK;by_cases a:SB (xLZ kv (tj=k))
 ·rw [F8 a,xoz];rw [xrW] at a;by_cases e:j=k
  ·obtain⟨x,hx⟩:=Option.isSome_iff_exists.mp a;rw [F8 e,e,hx,JJ,AD]
  ·rw [uO];cases xWx with
   |none=>rfl
   |some x=>rw [JJ,uO]
 ·show xBH a (xlV k j y Nj ?_);rw [xrW] at a;cases q:iI with
  |none=>rfl
  |some x=>show ρ q a (a rfl).elim
def xsC (Nj:rO)(k:κ)(v):El xGy (xUI 1):=by
 unfold putK
 split
 ·show Ai (xV4)
 ·rw [FD,F2,K6];exact(Qa (A9 DW))
def Ph.isSome_eq (r:Ph o u):o.isSome=u.isSome:=by
 cases o with
 |none=>cases u with
  |none=>rfl
  |some _=>show UO xSj
 |some _=>cases u with
  |none=>show UO xSj
  |some _=>rfl
def KV.val (r:rM)(k:κ):Ph iI (xUJ vs):=by
 unfold KV at r
 induction r with
 |nil=>exact True.intro
 | @cons p q ps qs h t ih=>
  show xQh h1 h2;by_cases e:Ab=k
  ·have e':C4=k:=xQ0;have b:SL (xUJ (q::qs)) EU:=by simp [valueAt,KC,e']
   rw [tE,b];exact h2
  ·have e':¬C4=k:=xV5
   have b:xUJ (q::qs)=xUJ qs:=by simp [valueAt,KC,e']
   rw [tD,b];exact ih
theorem KV.any (r:rM)(k:κ):(xLZ kv (tj=k))=vs.any (xF kv (tj=k)):=by
 unfold KV at r
 induction r with
 |nil=>rfl
 |cons h t ih=>rw [List.any_cons,List.any_cons,ih,DJ]
def KV.repl (r:rM)(k:κ)(ry:RV):
  KV (xWY kv (EK tj k (tj,y) kv)) (vs.map λ kv=>EK tj k (tj,u) kv):=by
 unfold KV at r ⊢
 induction r with
 |nil=>show yQ
 | @cons p q ps qs h t ih=>
  rw [HH,HH];show Ey (Qd ?_) h1 h2 h;by_cases e:Ab=k
  ·rw [F8 e,F8 xQ0];show A5 h1 ry
  ·rw [uO,FY xV5];show A5 h1 h2
def KV.put (r:rM)(k:κ)(ry:RV):KV x3N (stored vs k u):=by
 unfold putK stored;rw [r.any k];by_cases e:SB (vs.any (xF kv (tj=k)))
 ·rw [F8 e,F8 e];exact r.repl k ry
 ·rw [uO,uO];exact x7L (qN ry)
theorem KV.length {vs:yx κ MW}(r:rM):Nj.length=vs.length:=KH r
universe s
def xoo (r:RelV (kV k) u):SB ((xv3 P w).is k u):=by
 cases k with
 |inl i=>show xH0 t (xzF (∃t,u=xzg i));show Fs (pp P w i t)
 |inr x=>show xH0 t (xzF (∃t,u=xLL x));show Fs (xeL P w x t)
theorem xmJ:∀{ks} {us},ko xZG->ItemsAre (xv3 P w) ks us
 | [],_,r=>by show zL Mm r r .nil
 |k::ks,_,r=>by
  rw [HH] at r;cases r with
  |cons h t=>exact .cons (xoo h) (xmJ t)
abbrev KT (H:Hp):NK xG9 (yx xKQ (MV×MW)):=Paired λ p q=>Ab=C4/\Fm (H (A4 q)) (xNW Ab)/\x3G (CJ q)
def KT.val (r:xHs)(k):Ph iI ((atKey xs k).map (·.2)):=by
 induction r with
 |nil=>exact True.intro
 | @cons p q ps qs h t ih=>
  obtain⟨h1,_,h2⟩:=h;by_cases e:Ab=k
  ·have e':C4=k:=xQ0;have b:SL (xNZ (q::qs)) EU:=by simp [atKey,KC,e']
   rw [tE,b];exact h2
  ·have e':¬C4=k:=xV5
   have b:xNZ (q::qs)=xNZ qs:=by simp [atKey,KC,e']
   rw [tD,b];exact ih
def KT.repl (r:xHs)(k)(ry:RV):
  KT H (xWY kv (EK tj k (tj,y) kv)) (xs.map (putAt k u)):=by
 induction r with
 |nil=>show yQ
 | @cons p q ps qs h t ih=>
  rw [HH,HH];show wF (Qd ?_) h1 h2 h3 h;unfold putAt;by_cases e:Ab=k
  ·rw [F8 e,F8 xQ0];exact⟨h1,h2,ry⟩
  ·rw [uO,FY xV5];exact⟨h1,h2,h3⟩
def KT.put (r:xHs)(k)(hb:xPJ)(ry:RV):
  KT H x3N (storedH xs k b u):=by
 have e:(xLZ kv (tj=k))=(xNZ xs).isSome:=by
  rw [xrW,(r.val k).isSome_eq,Mz]
 unfold putK storedH;rw [e];by_cases q:mr (xNZ xs)
 ·rw [F8 q,F8 q];exact r.repl k ry
 ·rw [FY q,FY q];exact x7L (Wr hb ry)
def KT.keeps (r:xHs)(ht:∀b ys,xHM ys->Fm yC ys):KT H' Nj xs:=
 x7v (xQx ⟨i6,ht _ _ (A4 z),CJ z⟩)
def xiG (ok:RK)(e:P4 u):BY u:=e.ok ok
def xom (ok:RK)(e:P4 Od):xyW/\xCQ/\∃vs,rM/\x0D P w a vs:=
 show BY Od from xiG ok e
def xcH (ok:RK)(e:uT Od):xyW/\xCQ/\∃vs,rM/\x0D P w a vs:=xom ok xTv
def xmT (ok:RK)(e:Fm XL xZG):(xK3 P w).is h ks a:=by
 obtain⟨_,its,r,o,h1,h2,n,h3⟩:=(show BY (.tup xZG) from ok a _ e);exact⟨o,its.toArray,n,h1,h2,h3,by simpa using xmJ r⟩
def xpk (ok:RK)(e:P4 jz):xyW/\xCQ/\
  ∃xs,xHs/\h.DictOfH (xK3 P w) a xs:=by
 obtain⟨z,y,xs,r,o,es,ep,h1,h2,h3,h4,h5⟩:=(show BY jz from xiG ok e);refine⟨z,y,xs,r,o,es,ep,h1,h2,h3,h4,xQl,h5⟩;have all:∀{l} {m},KT H l m->yT m ((xK3 P w).is h ze (A4 x)):=by
  intro l m q
  induction q with
  |nil=>intro x hx;exact nomatch hx
  | @cons p q ps qs hq t ih=>
   intro x hx;show WX hx e hx
   ·show Fs (xmT ok (by show Bg hq.1 (A4 hq)))
   ·exact ih x hx
 exact all r x hx
def xbV (ok:RK)(e:xPt):xyW/\xCQ/\
  ∃xs,xHs/\h.DictOfH (xK3 P w) a xs:=xpk ok xTv
def QX (H:Hp)(a:MV)(y:V)(r:BV):Prop:=
 (∃Nj k,P4 Od/\y=kV k/\r=iI)\/∃Nj k b,P4 jz/\y=EY/\xPJ/\r=iI
def xw1 (H:Hp)(a:MV)(y v:V)(H':Hp):Prop:=
 (∃Nj k,uT Od/\y=kV k/\xZN/\H'=xAe (.dK xGy))\/
 ∃Nj k b,xPt/\y=EY/\xPJ/\xZN/\H'=xAe (.dT xGy)
def QX.t {k:xKQ}(e:xPt)(eb:xPJ):QX H a EY iI:=.inr (Qc Nj k b xTv eb rfl)
def xw1.t {k:xKQ}(e:xPt)(eb:xPJ)(hl:xZN):
  xw1 H a EY v (xAe (.dT xGy)):=.inr (Fb Nj k b e eb hl rfl)
def Inv.big {σ:St}(I:ST):x7S:=by
 have h:x7l:=(xYe).lt;exact JU Z9 h
def xgO {σ:St}(hu:xFR 1)(I:ST)(g:QX H a y wA)(ry:RV)(h:∀w' s',xBb->RelV v w'->Q w' s'):
  uJ (getItem ω u) Q E s:=by
 rcases g with⟨Nj,k,e,ey,l⟩|⟨Nj,k,b,e,ey,eb,l⟩
 ·subst ey;show uM z hd vs dd (xTA e);show B8 w' hw rw' (Ph.some_of (by show LT l (rel.val k))) (wpAny_getItem_of xTR dd.mapOf hw (h w' _ sI rw'))
 ·subst ey;cases uy xDF ry;show uM z hd xs dd (xTB e);obtain⟨w',hw,rw'⟩:=Ph.some_of (by show LT l (rel.val k));show Bq p hp NB (Lj.mp hw) (wpAny_getItem_heap xTS xUA dd hp ?_);show LT NB (h w' _ sI rw')
def xc4 {σ:St}(hu:xFR 1)(I:ST)(g:QX H a y o)(ry:RV)(h:∀s',xBb->xTj o.isSome s'):
  uJ (compareOp .In u ω) Q E s:=by
 rcases g with⟨Nj,k,e,ey,l⟩|⟨Nj,k,b,e,ey,eb,l⟩
 ·subst ey;show uM z hd vs dd (xTA e);refine wpAny_in_of xTR hd dd.mapOf ?_;rw [<-xXv,<-l];exact vZ sI
 ·subst ey;cases uy xDF ry;show uM z hd xs dd (xTB e);refine wpAny_in_heap xTS xUA hd dd ?_;show Ay q xXv Mz q;rw [<-q,<-l];exact vZ sI
def xab {σ:St}(hu:xFR 1)(I:ST)(g:QX H a y o)(ry:RV)(h:∀s',xBb->xTj (! o.isSome) s'):
  uJ (compareOp .NotIn u ω) Q E s:=by
 rcases g with⟨Nj,k,e,ey,l⟩|⟨Nj,k,b,e,ey,eb,l⟩
 ·subst ey;show uM z hd vs dd (xTA e);refine wpAny_notIn_of xTR hd dd.mapOf ?_;rw [<-xXv,<-l];exact vZ sI
 ·subst ey;cases uy xDF ry;show uM z hd xs dd (xTB e);refine wpAny_notIn_heap xTS xUA hd dd ?_;show Ay q xXv Mz q;rw [<-q,<-l];exact vZ sI
def xoF {σ:St}(I:ST)(mu:Mut XL)(hs:xKF a h')(he:∃q,Ts a q)(new:xEj (xAe ob) h' a ob):
  lu (xAe ob) TZ:=
 x24 mu (λ b q hb z=>xB2 hb z) he new
def xaU (z:xyW)(hd:xCQ)(rel:rM)(dd:h'.DictOf (xv3 P w) a vs):
  xEQ H' h' a Od:=⟨z,hd,vs,rel,dd⟩
def xfJ {σ:St}(hu:xFR 1)(I:ST)(g:xw1 H a y v H')(ry:RV)(rv:RelV v r)(h:∀s',Wg->xPl):
  uJ (setItem ω u r) Q E s:=by
 rcases g with⟨Nj,k,e,ey,l,eH⟩|⟨Nj,k,b,e,ey,eb,l,eH⟩
 ·subst ey eH;show uM z hd vs dd (xcH I.hok e);have hz:nL vs.length:=by show Bg rel.length z
  have hl:x23 xGy:=by show AY (xsC Nj k v) (B7 [_,_,_] yr LE W7 LE Os l this)
  refine wpAny_setItem_pairs xTR dd λ h' dd' hs=>xW7
  have he:∃q,Ts a q:=let⟨q,_,_,hq,_⟩:=dd';⟨q,hq⟩;exact xoF I (by show x1S) hs he (xaU hl hd (rel.put k rv) dd')
 ·subst ey eH;cases uy xDF ry;show uM z hd xs dd (xbV I.hok e);have hz:kP:=by show Bg (KH rel) z
  have hl:x23 xGy:=by show AY (xsC Nj k v) (B7 [_,_,_] yr LE W7 LE Os l this)
  refine wpAny_setItem_heap xTS xUA dd λ h' dd' hs=>xW7
  obtain⟨q,es,ep,hq,h2,h3,h4,_,h5⟩:=dd';refine xoF I (by show x1S) hs ⟨q,hq⟩ ⟨hl,hd,_,(rel.put k eb rv).keeps (τ c ys ec),q,es,ep,hq,h2,h3,h4,h5⟩;show XV (aF ec e BQ) ec
def xhV (i:M3):Prop:=∀ov iv,xQ8 i ov iv=xZU [ov,iv] ov iv
def xbf {T id:String}
  (hl:x5l xSC=pure (xKH id)) (hs:xhV slice)
  (h:xK (zt value) (λ o s₁=>xK (zt slice) (λ i s₂=>s₂.TypeIs o T/\xzw (getItem o i) s₂) E s₁) E s):
  qk (zt (xyT value slice)):=by
 show Ey (Subscript_ (Z0 h (λ o s₁ h₁=>Z0 h₁ (τ i s₂ h₂) x x) x x)) hT h₂ h₂;show Ej subscriptTail ?_;show xAv (getitemInPython_of_ne hT.not_modules) (wpAny_specialOf hT hl ?_);have fin:xK (xQ8 slice o i) (λ r s₃=>xzw (letTemporaryGo value o r>>= λ _=>pure r) s₃) E s₂:=by
  show LT (hs o i) (wpAny_operating (Z0 h₂ (λ r s₃ h₃=>FG (wpAny_letTemporaryGo (F3 h₃))) x x))
 first
  |exact xz7 fin
  |exact FG (xz7 fin)
  |exact FG fin
def xfy {σ:St}(I:ST)(g:QX H a y o):s.TypeIs ω "dict":=by
 rcases g with⟨Nj,k,e,_,_⟩|⟨Nj,k,b,e,_,_,_⟩
 ·obtain⟨_,_,vs,_,dd⟩:=xTA e;exact dd.typeIs
 ·obtain⟨_,_,xs,_,dd⟩:=xTB e;exact dd.typeIs
def xcM (td ty:TE):TE:=λ σ H Q=>td σ H λ x H1=>ty σ H1 λ y H2=>∃a v,x=ω/\QX H2 a y wA/\Q v H2
def Fr (ty td:TE):TE:=λ σ H Q=>ty σ H λ y H1=>td σ H1 λ x H2=>∃a o,x=ω/\QX H2 a y o/\xyp o.isSome H2
def xit (ty td:TE):TE:=λ σ H Q=>ty σ H λ y H1=>td σ H1 λ x H2=>∃a o,x=ω/\QX H2 a y o/\xyp (! o.isSome) H2
def xcN (td ty tv:TE):TS:=λ D σ H=>tv σ H λ v H1=>td σ H1 λ x H2=>ty σ H2 λ y H3=>∃a H4,x=ω/\xw1 H3 a y v H4/\xKD H4
def xic (hu:xMU 1)(ho:xCo td)(hi:Am i ty)(hs:xhV i):Am (xyT o i) (xcM td ty):=by
 intro M6 s σ H Q I h;refine xbf PySem.F.slot_dict_getitem.lookup hs (thn (kj s H _ I h) λ u s1 ⟨x,H1,I1,rx,q1⟩=>EJ (xB1 s1 H1 _ I1 q1) iv s2);obtain⟨y,H2,I2,ry,a,v,ex,g,q2⟩:=z9;subst ex;obtain rfl:u=tF:=rx;show A5 (xfy I2 g) (xgO hu I2 g ry λ w' s3 I3 rw'=>⟨v,H2,I3,rw',q2⟩)
def Db (hu:xMU 1)(hi:Am i ty)(ho:xCo td):PC X .In i o (Fr ty td):=by
 intro M6 s σ H Q I h;refine thn (xB1 s H _ I h) λ iv s1 ⟨y,H1,I1,ry,q1⟩=>EJ (kj s1 H1 _ I1 q1) u s2
 obtain⟨x,H2,I2,rx,a,ov,ex,g,q2⟩:=z9;subst ex;obtain rfl:u=tF:=rx;exact xc4 hu I2 g ry λ s3 I3=>Ef ov.isSome H2 I3 q2
def xgn (hu:xMU 1)(hi:Am i ty)(ho:xCo td):PC X .NotIn i o (xit ty td):=by
 intro M6 s σ H Q I h;refine thn (xB1 s H _ I h) λ iv s1 ⟨y,H1,I1,ry,q1⟩=>EJ (kj s1 H1 _ I1 q1) u s2
 obtain⟨x,H2,I2,rx,a,ov,ex,g,q2⟩:=z9;subst ex;obtain rfl:u=tF:=rx;exact xab hu I2 g ry λ s3 I3=>Ef (! ov.isSome) H2 I3 q2
def xo8 (hu:xMU 1)(ho:xCo td)(hi:Am i ty)(hv:Am value tv)(hs:xUb value (some (x8D i pos'))=xLI):
  xEl X [x8D i pos'] value pos (xcN td ty tv):=by
 intro M6 s σ H D I h;refine wpAny_Assign_Subscript (thn (hv M6 s σ H _ I h) λ r s1 ⟨v,H1,I1,rv,q1⟩=>thn (kj s1 H1 _ I1 q1) λ u s2 ⟨x,H2,I2,rx,q2⟩=>EJ (xB1 s2 H2 _ I2 q2) iv s3) hs;obtain⟨y,H3,I3,ry,a,H4,ex,g,q3⟩:=z9;subst ex;obtain rfl:u=tF:=rx;exact xfJ hu I3 g ry rv λ s4 I4=>uW H4 I4 q3
def xgW (h:M2)(hb:x1X sysModules):xEQ H (h.push (xyj "dict" (.dict #[]))) h.objs.size kI:=
 ⟨AM,JK.mpr (Kc (Hf hb)),[],.nil,_,#[],0,vq,xNg rfl,rfl,rfl,List.nodup_nil⟩
def xbG:TE:=λ _ H Q=>∀p,RT->tB (wJ p kI)
def xpj:Am (.Dict [] [] pos) xbG:=λ M6 s σ H Q I h=>
 wpAny_Dict_empty (Vj jX _ (I.laid x2G UV (xgW s.heap I.big)) (vZ pD))
def EqG (K:Frag)(H:Hp)(x y:V):Prop:=(x=y/\(xLT x\/∃a,x=ω))\/∃(a b:MV) (xs:NE),x=ω/\y=EY/\xBY a/\xBY b/\SB x8c
def xn4 (K:Frag)(H:Hp)(p q:MV):Prop:=∃xs ys:NE,TX H p/\xCP q ys/\xEN ys.length/\∀(i:Nat) (x y:V),xk->A7 ys y->EqG K H x y
def xfR {X:Cx}{M6:χ}{σ:St}{H:Hp}{s:MX}(I:ST){p q:MV}(h:xn4 X.K H p q){A:M1}(hu:x07):∃its N2:B5,x7q/\s.heap.IsList q N2.toArray/\its.toArray.size=N2.toArray.size/\∀j (h1:j<its.toArray.size) (h2:j<N2.toArray.size),xRH s (xSE j) (xS9 j) true:=by
 show iP xs ys h1 h2 hl hi;show xNh rv pl h1;obtain⟨N2,Vk,Vv,Sm⟩:=x1o;show AO l1;have l2:=Vk.length;refine⟨its,N2,pl.isList,Vv.isList,by rw [F1,F1];exact BC (rS [_,_,_,_] 2 qE (DX DC) LE Os hl (d8 (Fz l1.symm) l2)) (Fp [_,_,_,_] 3 DC (CN qE) Os LE U3 (d8 (Fz l1) l2.symm)),τ j j1 j2⟩;have k1:xCi:=by show vW j1 (rS [_,_,_] 2 On Θ On Os l1.symm j1)
 have k2:j<ys.length:=(rS [_,_,_] 2 On Θ On Os hl k1);show pB u1 e1 r1 (xHP j xs[j] (by simp [k1])) u2 e2 r2 (x1Z j (x:=ys[j]) (by simp [k2]));have g1:xSE j=u1:=by
  show xFZ z e1 z
 have g2:xS9 j=u2:=by
  show xFZ z e2 z
 rw [g1,g2];rcases hi j xs[j] ys[j] (by simp [k1]) (by simp [k2]) with⟨z1,f|⟨a,z2⟩⟩|⟨a,b,zs,z1,z2,q1,q2,fl⟩
 ·rw [<-z1] at r2;show Bg (xlO _ f) (xtP r1 r2 f f)
 ·rw [<-z1] at r2;rw [z2] at r1 r2;show vS r1 r2;exact x5O
 ·rw [z1] at r1;show Μ z2 r2 r1;cases r2;exact xhI I q1 q2 fl hu
inductive rNeGs (K:Frag) (x:V) (y:V) (H:Hp) (Q:VK):Prop
 |mk (p q:MV) (h0:x=Bw) (h1:y=Y5) (h2:xn4 K H p q) (h3:xTL):rNeGs K x y H Q
def xim {X:Cx}(hu:xPv):xEB (rNeGs X.K):=by
 intro M6 s σ H x y v u Q I rx ry h;show Zj p q rfl h k;show vS rx ry;obtain⟨its,N2,pl,Vv,hz,he⟩:=xfR (A:=X.A.in1) I h (by show X.A.units+1<_;exact(yI xUi cW hu));show Wp (SeqAt.RcNeAt.lists (e:=xSa) pl Vv hz (yI xUi On hu) he _ _ _ _ ?_) (BO xR5 I ?_ k);show xuT=xuT;simp
def xsl.either {X:Cx}{f:MW->MW->xAn}{r t:R2}(h:xJV r)(g:xJV t):xJV (λ x y H Q=>Td y H Q\/t x y H Q):=by
 intro M6 s σ H x y v u Q I rx ry z;show Ed z
 ·exact xCS x y v u Q I rx ry z
 ·exact g M6 s σ H x y v u Q I rx ry z
def xnA {K:Frag}{g:TG}{tb:TS}{D:Ends}(Pv:xO1)(h0:iV 0)(hl:∀i σ H,kJ->Cj->yV)
  (hs:∀i x p σ H,xk->RT->Cj->g Bw σ (qU p [xVg,x]) λ σ2 H2=>tu D wc wc H2) (hd:∀σ H,x8L->DF):
  ∃W:xO2,(∃m,xPr H)/\∀i m σ H,xPq H->
   (xK6 xAI H/\DF)\/((xAI).go i H/\∃N,(∀σ' H',xHm->Fq (m'<m/\xP5 (i+1) H'))/\∀x H',xLN xAI H x H'->xPb λ σ2 H2=>tu D N N H2):=by
 refine AG (λ i m σ H=>m=xIA/\kJ/\Cj) ⟨xs.length,Z6,AM,h0⟩;rintro i m σ H ⟨rfl,hi,p⟩;have q:=tM σ H hi p;by_cases M8:oQ
 ·refine .inr ⟨⟨xs,xs[i],q,by simp [M8]⟩,wc,λ σ' H' p'=>EE (WL (i+1)) aJ M8 p',nK⟩;obtain⟨p1,x1,NX,e1,e2,y⟩:=y;subst e1 e2;exact tK x1 p1 σ _ xH3 NX p
 ·have e:xIH:=CC;show rU e ⟨xJ0,hd σ H p⟩
universe L2
namespace K25.C
open PySem L2 QQ C9 C10
seal PE PA PS PSs PT PW PG PI
def gL (R:Id):pG=xZ5 xBV V.int:=by show Af Ii
def IsL (H:Hp)(x:V)(L:Id):Prop:=∃a,x=ω/\XL=vt/\∀l∈L,qo l
def xwB (H:Hp)(x:V):ZU xYr
 |none=>qj x
 |some c=>∃t,x=wG/\Ob [vN SV,vN Rd]
def xvO (H:Hp)(xs:NE)(cs:x3D):Prop:=xEN cs.length/\∀(i:Nat) x c,xk->xIp c->xwB H x c
def xwB.keep {H H':Hp}(h:xwB H x c)(k:∀t ys,Ob ys->kz t ys):xwB H' x c:=by
 cases c with
 |none=>exact h
 |some c=>show B8 t e z h ⟨t,e,zf z⟩
theorem xvO.keep (h:og H cs)(k:∀t ys,Ob ys->kz t ys):og H' cs:=⟨DJ,λ i x c h1 h2=>(fG i x c h1 h2).keep k⟩
theorem xvO.set {H:Hp}(h:og H cs)(hy:xwB H y d):xvO H (xs.set p y) (cs.set p d):=by
 refine⟨by rw [LX,LX];exact DJ,λ i x c h1 h2=>?_⟩;by_cases e:p=i
 ·subst e;have hp:xyu p:=by
   have:=xW0
   rwa [LX] at this
  rw [IB hp] at h1;show Μ (IB (by show Bg DJ hp)) h2 h1;cases h2;exact hy
 ·rw [Jy e] at h1 h2;exact fG i x c h1 h2
theorem xvO.none (H:Hp)(n:Nat):xvO H (List.replicate n .non) (xKm n):=by
 refine⟨by rw [Gy,Gy],λ i x c h1 h2=>?_⟩;rw [Kj] at h1 h2
 split at h1
 ·cases h1;show Μ (F8 (by assumption)) h2 h2;rfl
 ·cases h1
def ndL:xE ["length"]:=Z8
inductive xkD (vs:NE) (H:Hp) (Q:VK) (Nf:XK):Prop
 |mk (a:MV) (L:Id) (h0:vs=CV) (h1:XL=vt) (h2:(∀l∈L,qo l)) (h3:xWu) (h4:Ft (Ι->mI (QG L))):xkD vs H Q Nf
def xbK:Uf Jag Jag xt2:=Sc
abbrev xn2:TE:=Xc (xBF xh3 (i*2^j.toNat)) (xuX (.int 1)) (xFm (xUQ (i-j)) (xuX (.int 12)) fh)
abbrev xnX:TT:=xvQ (xFm (λ i j=>xFB j i) fh xTU)
def xap (F:Ζ "room_taken" xt2 Jag)(T:Bz):gW Jag xkD:=by
 show xV tm hm T.mlen xbK (λ M7 A outer s H vs Q E hr h=>?_) _;show dS a L rfl hL hb hl300 k;have hn:=xD;show E9 (XC (xvB (xhb hn) Z7 T.sum PyProof.Rows.boot_sum (Bx (xXm ["length"] (g:=UT) (tt:=xnX) (te:=xn2) rfl rfl Z8 Z8 Z8 (bP SZ) (λ fp s H=>xCp ndL) (λ fp s H=>oU SZ aj) (λ fp s H=>ap dQ aj (xo xM1 SZ)))))) (xor _ a hL zR) (xXn K (a:=a) (l:=l) (xs:=gU) (n:=1) (g:=UT) (tt:=xnX) (te:=xn2) (λ i ys H'=>ys=Ο (rq (xzo (L.take i) b (0<b)) b (2^(12-b)))/\AL=gm/\Ι) (Wr ad P6) (λ i ys H' _ z9=>by show xDP sm;exact xzq hL) ?_ ?_ ?_ ?_ ?_)
 ·rintro i x ys σ H' hx ⟨rfl,hl,sm⟩ hσ;show Vf b N8 (cZ hx);have hb12:=zP xTO;have OL:kc i:=Fg N8;show x5 u0 u0 (σ=[u0]) (match σ,hσ with| [u0],_=>Ex u0)
  have hlen:xGP (xzo (L.take i) b (0<b)):=FK (Ky _ _) (by show UK (xL4 hl300));refine mO _ _ _ _ ?_;rw [cK N8,Gw]
  try dsimp only
  by_cases h0:0<b
  ·show Η (F8 (xHI (Gl<xc) x1p)) ⟨_,rfl,_,_,rfl,rfl,_,_,rfl,rfl,⟨Z5,Z5,Z9⟩,hl,bx (by rw [Fy,Fy];exact gQ hlen),rfl,?_,ad,xBG⟩
   ·rw [Gm (by show xNL),FV,FV];have e1:E7*2^kW (Ε 12) xc=Ps (2^(12-b)):=by
     rw [show kW (Ε 12) xc=12-b by lia,Int.one_mul];simp
    try dsimp only
    show Af e1
   ·show PH bL
  ·show xBH (vh z (FQ z) Z5) (ql ?_ ?_ sm)
   ·show CR (Gx (by show xNL))
   ·exact hl
 ·rintro ys H' ⟨rfl,hl,sm⟩;rw [Fy,Hc,gL] at hl;refine EE l _ xL7 ?_;have e:(rq (rq (wI b (0<b)) b (2^(12-b))) b xc).sum=Ps (QG L):=by
   unfold krf;generalize rq (wI b (0<b)) b (2^(12-b))=Y
   induction Y with
   |nil=>rfl
   |cons y Y ih=>simp only [HH,KG];show CR ih
  show vU (iE sm)
 ·exact λ x σ H A B h z=>tN
 ·exact λ σ H A B h z9=>by obtain⟨v,e1,i,j,e2,e3,c,e4,z⟩:=z9;exact⟨v,e1,i,j,e2,e3,c,e4,tN⟩
 ·exact λ σ H A B h z9=>by obtain⟨v,e1,i,j,e2,e3,i2,j2,e4,e5,c,z⟩:=z9;exact⟨v,e1,i,j,e2,e3,i2,j2,e4,e5,c,tN⟩
inductive xj5 (vs:NE) (H:Hp) (Q:VK) (Nf:XK):Prop
 |mk (x:V) (L:Id) (h0:vs=DM) (h1:IsL H x L) (h2:tZ) (h3:xBt):xj5 vs H Q Nf
def wr:Uf Jag Jag xwp:=Sc
structure Lns (K:Frag)(mg:Β):Prop where
 X:Bz
 whole:xP4
 arewhole:x1E cv Jaa
 things:Δ "are_of_things" xvf xuV
 room:Δ "room_taken" xt2 Jag
def xfW {P:MY}{w:MZ}(F:Ζ "need_lengths" xwp Jag)(Y:Lns K mg):rA Jag xj5:=by
 show x6d T W AW Th Ro;show xV tm hm T.mlen wr (λ M7 A outer s H vs Q E hr h=>?_) _;obtain⟨x,L,rfl,⟨a,rfl,hB,hb⟩,G,k⟩:=h;show xZ (Tg (lB (UC (S.xiS Th AW W T) Th SZ xM1)) (af (QF cL (g9 (xap Ro T) Ro SZ) (ap dQ aj xM1)))) ⟨_,rfl,a,L,12,rfl,hB,hb,G.ne,G.le,G.some,_,rfl,xOd⟩;show Wp (aN _ a L rfl hB hb G.le (SC H' s1)) ⟨_,_,rfl,rfl,⟨Z9,Z9,Z9⟩,_,_,rfl,rfl,_,rfl,xMZ (iE s1)⟩;exfalso;have:=DQ;have g:=G.room;have e:E7*2^(Ε 12).toNat=4096:=Z9;show jC e (WT AV (xz9 (.n 4096) LE) (D7 4096) (Fx PO g))
def xkY {α:Type}(x:α)(k):Zg k DM=x6t x:=by
 induction k with
 |zero=>rfl
 |succ k ih=>rw [Hv,HJ,ih,Hv];rfl
def xhh (hl:xWu)(hj:qo j):ic≤1228800:=by
 have h:=xiK L j;have h1:2^j≤2^12:=xA4 hj;have h2:L.length*2^j≤300*4096:=Nat.mul_le_mul hl h1;exact(B7 [_,_,_] P3 Tm (CN (.m 300 (.n 4096))) LE (.n 1228800) h h2)
def xaM (L)(j):uk 0=2*ic:=by show CR xoa
def ixN_nat (h:i<n):SL (ixN n cS) i:=by
 show CS ixN xGD;show kY
inductive xj2 (vs:NE) (H:Hp) (Q:VK) (Nf:XK):Prop
 |mk (x:V) (L:Id) (h0:vs=DM) (h1:IsL H x L) (h2:tZ) (h3:∀l xs H',Ξ->Ι->AL=Ar->og H' dO->AS):xj2 vs H Q Nf
def NV:Uf ["lengths","codes","code","size","place","length"] Jag xrS:=Sc
def xjR {P:MY}{w:MZ}{mg:Β}{base:M2}{f fN:MV}{fd Ul:M0}(F:Ζ "codes_of" xrS Jag)(N:Dv "need_lengths" xwp Jag fN Ul)(Y:Lns K mg):sD Jag xj2:=by
 have T:=Y.X;show xV tm hm T.mlen NV (λ M7 A outer st H vs Q E hr h=>?_) _;obtain⟨x,L,rfl,⟨a,rfl,hB,hb⟩,G,k⟩:=h;show xZ (u9 (g9 (xfW N Y) N SZ) (Zq 1 NV.nd (xNG cz zu) 2 NV.nd aj (Wt (x2Z Z7 (xH aj (zk xM1))) 3 NV.nd (pX 2 NV.nd (pW dQ Ty) (xsK Gd rfl (xul Z7 T.enum Ew) (xHR 4 NV.nd (xzm 5 NV.nd xve)) (af (mX (xa C8 π) (sQ (xtN (Y4 Ty π) (xto PP Ν xp9)) (xBa NV.nd xT8))))))) PP)) (ZW _ L (SU a hB hb) G (BU H1 s1));have Ou:=G.le;refine Z2 (Bh (by show qa) l0 n0)
 have s2:=Az xAr n0;show DE ⟨_,rfl,a,_,rfl,AN (xVX hB),l0,_,_,rfl,rfl,ad,Ka (2^63) _,by show Ai (xNE Ou),(by rw [Fy,Gr];exact bG (by show 1*_≤_;exact(P9 300 (yk 1) 2000 Ou))),BU l nl⟩;have s3:=xBU xLK;have ez:xNr (zB gU) [V.non]=xLK:=by rw [Fy,Gr,xkY]
 try dsimp only
 rw [ez];have ON:(qO (E4 H1 l0 xAr) xLK) l=Φ xLK:=ad;have nlH:Ξ:=xm dn;have VX:=xEr s3;show EI (E4 H1 l0 xAr) l xLK H3 (eK g1 A3)
 clear g1;refine Z2 ⟨_,_,rfl,rfl,1,13,rfl,⟨Z5,Z5,Z5,Z5⟩,?_⟩
 have en:kW (Ε 13) 1=12:=Z9
 try dsimp only
 show Η en (oR 1 12 (λ j σ H2=>∃v3 v4 v5:BV,∃xs:NE,σ=[Bm,ye,Χ ic,v3,v4,v5]/\RZ=Ar/\og H2 (QV j 0)/\SR) (Fb none none none _ ON (by show LT xhy (xvO.none _ _)) VX) ?_ ?_)
 ·clear g1 ON VX s3 nl;rintro j σ H2 hj ⟨v3,v4,v5,xs,rfl,NH,hC,sm⟩;have eb:E7+Ps j=jm j:=(BJ bq On On bq)
  try dsimp only
  rw [eb];have hes:=xhh Ou (show qo j from Jj hj);show ij g2 (ZW _ _ rfl ⟨xO (vQ [] Cy AU),xO (vQ [] AU (.n 1000000)),Z5⟩ Zw) g2;have ec:Ps ic*2^xS3=Ps (uk 0):=by
   rw [xaM,Sd (xS3) 1];lia
  try dsimp only
  show Η ec (UJ a (xzq hB) (xnA (D:=Wo) (K:=K) (a:=a) (xs:=gU) (λ p σ H'=>∃v4 v5:BV,∃xs:NE,σ=[Bm,ye,Χ ud,xHW,v4,v5]/\AL=Ar/\og H' xGm/\Ι)
   (U8 v4 v5 xs NH hC sm) (λ i σ H' _ z9=>by obtain⟨_,_,_,_,_,_,e⟩:=z9;exact Ng.of (e _ _ hB)) ?_ ?_))
  ·rintro p y t σ H' hp ht ⟨v4,v5,xs,rfl,NH,hC,sm⟩;show Vf b N8 (cZ hp);have OE:kc p:=Fg N8;show rF st (zG [xIj,fb] ht) ⟨t,_,rfl,jh,rfl,_,_,rfl,_,_,rfl,rfl,?_⟩ (ZW _ rfl _ rfl Za)
   ·have e1:b=j+1:=x2z;rw [e1] at N8 st ⊢;refine kL g3 (wY _ _ (by show b8) (SC q nq))
    have sq:=zG [vN ud,vN (j+1)] nq;have hlq:=sq _ _ xV0;have hCq:og _ xGm:=hC.keep λ t ys e=>sq _ _ (xT e)
    show Z1 ⟨_,rfl,_,rfl,l,xs,_,p,rfl,rfl,hlq,ixN_nat (by rw [hC.1,bC];exact OE),g3 _ _ ?_⟩ g3;refine vc;have ec2:Ps ud+1=Ps (uk (p+1)):=by show LT (xl7 N8) (BJ On On On On)
    try dsimp only
    show Η ec2 (U8 Dh xHW (xs.set p Y5) ad ?_ xBG)
    ·show Η (xam N8) ((hCq.set (y:=Y5) (d:=some (ud,j+1)) (lM q ad)).keep (Fw t2 ys))
     show Sa (cD hlq (by show Τ))
    ·show pQ nlH (sq _ _ (xT bL))
   ·have e1:XA L[p]? (j+1):=by
     rw [N8];show Τ;exact h1 QN
    refine⟨Dh,RW,xs,?_,xV0,?_,sm.trans st⟩
    ·show Af (xgH e1)
    ·show LT (xhw e1) (hC.keep λ t ys e=>xT e)
  ·rintro σ H' ⟨v4,v5,xs,rfl,NH,hC,sm⟩;rw [Fy] at hC ⊢;rw [xlD];show ρ xhg hC (Fb _ _ _ xs NH hC sm)
 ·rintro σ H2 ⟨v3,v4,v5,xs,rfl,NH,hC,sm⟩;exact xFJ (qb xs H2 nlH sm NH hC)
def u1 (r:xCz):xFR 1:=by show AY r.un (cY x2U Os cW Os)
abbrev kk (a b:Nat):xKQ:=[.inl (Ps a),.inl xc]
def xxR:xI6=kk c d<->a=c/\b=d:=by
 constructor
 ·intro h;injection h with h1 h2
  show xB6 h2 h2
  injection h1 with h1
  injection h2 with h2
  show A5 (oz (xCX (Fz (xyF h1))) LE LE (xV3 (xyF h1))) (oz (xCX (Fz (xyF h2))) LE LE (xV3 (xyF h2)))
 ·rintro⟨rfl,rfl⟩;rfl
def xiC:¬(xZQ="beginnings"):=Z8
def fC (d e:MV):qw:=[("things",VO),("beginnings",DZ)]
def iM (d e):pj "beginnings" e xIZ=sR:=by
 show(gs "things" "beginnings" (Y9 xZQ d) [Y9 "beginnings" e])=_;show Af (FY xiC)
def xrm (d e):ZA sR "things"=uZ:=by
 rw [<-iM,ar,FY xiC,ar,AD]
def xhW (d e):ZA sR "beginnings"=TD e:=by
 rw [<-iM,ar,AD]
def fC_no (d e){m:Str}(h1:Zs "beginnings")(h2:Zs "things"):yS sR m:=by
 rw [<-iM,ar,gi,ar,rI];rfl
def pi (L:Id)(n:Nat)(Nj:xG9):Prop:=wa Nj.length/\∀a b,(∀q,q<n->x6 q b->bO->xAc b=a->xzO a b=xIi)/\((∀q,q<n->x6 q b->bO->xAc b≠a)->WF (xzO a b))
def xeJ (L:Id)(n:Nat)(Nj:xG9):Prop:=Nj.length≤12*n/\∀a b,mr (xzO a b)<->∃q s,q<n/\CG/\b<s/\WC/2^(s-b)=a
structure xwC (C:MV)(H:Hp)(p d e:MV)(L:Id):Prop where
 ob:∃dx,CI=VQ d e
 th:∃Nj,wQ d jz/\tS L.length Nj
 bg:∃Nj,wQ e jz/\ou L.length Nj
structure CRc (K:Frag)(mg:Β)(C:MV):Prop where
 cl:yZ
 nT:fj "things"
 nB:fj "beginnings"
inductive xk0 (C:MV) (vs:NE) (H:Hp) (Q:VK) (Nf:XK):Prop
 |mk (p d e dx:MV) (c s:Nat) (Nj:xG9) (h0:vs=[Bw,Vb,Zx]) (h1:CI=VQ d e) (h2:wQ e jz) (h3:Nj.length≤5000) (h4:qo s) (h5:∀H' QU,SL (H' e) (.dT QU)->QU.length≤xUI s->(∀a b:Nat,mr (cF QU xI6)<->mr (xzO a b)\/(b<s/\c/2^(s-b)=a))->Fu (∀x o,BM=IO->x≠e->H' x=IO)):xk0 C vs H Q Nf
def xnj:Uf ["self","code","length","size"] x18 xt4:=Sc
def xis (F:Aj "keep_beginnings" "CodeReader.keep_beginnings" xt4)(T:CRc K mg C)(X:Bz):fV x18 (xk0 C):=by
 show AQ xnj (λ M7 A outer st H vs Q E hr h=>?_);obtain⟨p,d,e,dx,c,s,Nj,rfl,hp,he,hl,hs,q⟩:=h;have npe:p≠e:=xOs he (by show Τ);show Qt (Wt (xBn Rl) 3 xnj.nd (af (xo8 xMn Α (Y4 (ap xvW PP (xo Ty π)) π) cf rfl))) (U8 _ rfl (Ps s) Z4 Z4 ?_)
 try dsimp only
 show Η Gr (oR 0 s (λ i σ H2=>∃v QU,σ=[Qg,Χ c,Vc,v]/\SL (H2 e) (.dT QU)/\QU.length≤xUI i/\
   (∀a b,mr (cF QU xI6)<->mr (xzO a b)\/(b<i/\c/2^(s-b)=a))/\∀x o,BM=IO->x≠e->H2 x=IO) ⟨none,Nj,rfl,he,(RE LE xFz),λ a b=>⟨.inl,Re (z.elim id (vh z i6 (xOU Cy LE)))⟩,λ x o e _=>e⟩ ?_ ?_)
 ·rintro i σ H2 hi ⟨v,QU,rfl,Ud,NH,hv,QY⟩;have ei:Gl+cS=cS:=(BJ xAd LE LE xAd)
  try dsimp only
  rw [ei];show rF NB (QY _ _ hp npe) ⟨_,rfl,p,C,dx,_,_,rfl,NB,T.cl,T.nB,xhW _ _,?_⟩ ⟨_,rfl,_,rfl,_,rfl,_,_,rfl,rfl,_,_,rfl,rfl,(by show Gl≤Ps s-cS;lia),_,rfl,(by show b8),SC t nt⟩;have e1:Ps c/2^kW (Ps s) cS=Ps (c/2^(s-i)):=by
   show CR (show kW (Ps s) cS=s-i by lia)
  try dsimp only
  rw [e1];have net:e≠t:=ae Ud nt;show Wp (EE e _ (xw1.t (b:=t) (k:=kk (c/2^(s-i)) i) (by show XV net Ud) ad (Tn (show _≤6000 from(Z3 [_,_,_,_] 1 (CN (xI1 LE)) (Br 5000 (xOJ (CN zo))) LE 6000 hl (Bb hs hi NH))))) ?_) ⟨_,_,rfl,ad,FK (xsC _ _ _) (bM LE Θ On W7 NH),SC a b,λ x o ex hx=>?_⟩
  ·rw [xpE];by_cases c1:xI6=kk (c/2^(s-i)) i
   ·rw [F8 c1];show uN (xxR.mp c1) ⟨λ _=>xTK (Qa On),E2⟩
   ·rw [FY c1,hv];constructor
    ·rintro(z|⟨z1,z2⟩)
     ·show BB z
     ·exact qG (mH On On z1) z2
    ·rintro(z|⟨z1,z2⟩)
     ·show BB z
     ·refine qG ?_ z2;show CM b i h h
      ·exact h
      ·show wX (b=i) (xCR On Os z1 h);show AX (xxR.mpr (Ex z2.symm)) c1
  ·have h1:=QY x o ex hx;rw [ai hx,Tt h1 nt];exact h1
 ·rintro σ H2 ⟨v,QU,rfl,Ud,NH,hv,QY⟩;exact q _ _ Ud NH hv QY
def xaq (L):tS 0 []:=vV UV a b ⟨px q hq hq (xOU Cy LE),E2⟩
def xaz (L):ou 0 []:=by
 refine vV AM a b ⟨o6 h,λ z9=>by obtain⟨q,s,hq,_⟩:=z9;show AX hq (xOU Cy LE)⟩;cases h
def xbg (h:tS n Nj)(h0:∀s,x6 n s->¬se):tS (n+1) Nj:=by
 refine vV (FK DJ yu) a b ⟨λ q hq hb h1 hc=>?_,λ hn=>(fG a b).2 λ q hq=>hn q (mH On On hq)⟩;show CM q n z z
 ·exact(fG a b).1 q z hb h1 hc
 ·show wX (q=n) (xCR On Os hq z);show AX h1 (h0 b hb)
def xbl (h:ou n Nj)(h0:∀s,x6 n s->¬se):ou (n+1) Nj:=by
 refine vV (FK DJ (RE (yk 12) (.m 12 On))) a b (vL h a b ⟨λ z9=>by show Bj q s hq r z9 ⟨q,s,(mH On On hq),r⟩,o6 z9⟩);obtain⟨q,s,hq,h1,h2,h3⟩:=z9;show CM q n z z
 ·exact⟨q,s,z,h1,h2,h3⟩
 ·show wX (q=n) (xCR On Os hq z);show AX Z4 (h0 s h1)
def xb0 (h:tS n Nj)(hs:x6 n s)(h1:se):tS (n+1) (putK Nj (kk (jR n s) s) Qh):=by
 refine vV (FK (xsC _ _ _) (by show AY DJ (mH LE On this))) a b ⟨λ q hq hb N8 hc=>?_,o6 hn⟩
 ·rw [xpE];by_cases c:xI6=kk (jR n s) s
  ·show WY (xxR.mp c);rw [AD,xnC hb hs hc]
  ·rw [uQ];show CM q n z z
   ·exact(fG a b).1 q z hb N8 hc
   ·have:q=n:=xCR On Os hq z;show D5 this hs hb hb;show AX (xxR.mpr (Ex hc.symm)) c
 ·rw [xpE,FY]
  ·exact(fG a b).2 λ q hq=>hn q (mH On On hq)
  ·intro c;show uN (xxR.mp c) (hn n (Qa On) hs h1 rfl)
def xb5 (h:ou n Nj)(hs:x6 n s)(hs12:qo s)(hl:QU.length≤xUI s)
  (hv:∀a b:Nat,mr (cF QU xI6)<->mr (xzO a b)\/(b<s/\jR n s/2^(s-b)=a)):ou (n+1) QU:=by
 refine vV (by show AY DJ (Fp [_,_,_,_] 2 qE (xOJ (.a ml (ER 12))) LE (.m 12 Ψ) hs12 (Vt hl))) a b ((hv a b).trans ?_);rw [fG a b];constructor
 ·rintro(⟨q,r,hq,z⟩|⟨z1,z2⟩)
  ·exact⟨q,r,(mH On On hq),z⟩
  ·exact⟨n,s,(Qa On),hs,z1,z2⟩
 ·rintro⟨q,r,hq,z1,z2,z3⟩;show CM q n z z
  ·show BB ⟨q,r,z,z1,z2,z3⟩
  ·have:q=n:=xCR On Os hq z;show D5 this hs z1 z1;exact qG z2 z3
inductive spCInit (C:MV) (vs:NE) (H:Hp) (Q:VK) (Nf:XK):Prop
 |mk (p dx a:MV) (L:Id) (h0:vs=we) (h1:CI=xBf) (h2:XL=vt) (h3:tZ) (h4:∀(d e:MV) (H':Hp),A1 d->A1 e->Fn H'->Fu (∀b o,E5=IO->yW->yC=IO)):xSm vs H Q Nf
def scCInit:Uf ["self","lengths","place","pair"] xYX sCInit:=Sc
structure Mks (K:Frag)(mg:Β)(C:MV):Prop where
 X:Bz
 Y:Lns K mg
 need:x8Q xwp
 cof:Δ "codes_of" xrS Jag
def bt (R:Id):Av:=BP.dig eg A6
def xvM (R):B4 xuA A6:=BP.Nq _ _
theorem xoY (n):∀m i,i<m->A7 (BP.dig n m) (Dy (n/2^(m-1-i)%2) 1)
 |m+1,0,_=>by
  show SL (some _) _;rfl
 |m+1,i+1,h=>by
  show(BP.dig n m)[i]?=_;rw [xoY n m i (BX cW Ψ On Os h),show m+1-1-(i+1)=m-1-i by exact BC (yL [_,_,_,_,_,_] 5 (DX (kn 4 xzS)) (tV Θ 5 (xI1 qS)) LE Os (Bb Ω (NL.J' (Qa AU)) (gu [_,_,_] cW Ψ (xBh yr) On Tm h Ω))) (yL [_,_,_,_,_,_] 4 (xI1 (kn 5 Θ)) (tV xzS 4 (DX vI)) Os LE (Bb Ω (Dq [_,_] cW Ψ AU Os h) (gu [_,_,_] cW Os (xBh yr) LE Tm h Ω)))]
def xaY (h:t+s<A6):∃b,xTh (s+1)=pY++BH/\eg/2^(A6-(t+s+1))%2^1=b.toNat:=by
 refine AG (Dy (eg/2^(A6-1-(t+s))%2) 1) ?_
 ·rw [HC,Js];show CS bt (xoY _ _ _ h);rfl
 ·rw [show A6-(t+s+1)=A6-1-(t+s) by exact BC (yL [_,_,_,_,_,_] 5 (xHj (A9 xTV)) (tV xzT 5 (kx qS)) LE Os (xb Ω [_,_,_] qH Cv qH Cv h)) (Bu [_,_,_,_,_,_] (xHj (kn 5 xzT)) (.a (A9 xTV) (xHj vI)) Os LE Ω (Fx (Dq [_,_,_] qH Cv AU Cv h) (gu [_,_,_,_] qH Cv (wy Y2) P3 Be h Ω))),Nat.pow_one];have h2:=Iw (eg/2^(A6-1-(t+s))) (show 0<2 from Z9);by_cases c:eg/2^(A6-1-(t+s))%2=1
  ·rw [FM c,c];rfl
  ·rw [Ik c];show _=0;lia
def xc6:¬(xZQ="held"):=Z8
def xwC.keep (h:Fn H)(s:∀c o,W1=IO->(c=p\/c=d\/c=e)->AE=IO):Fn H':=by
 obtain⟨⟨dx,h1⟩,⟨k1,h2,T6⟩,⟨k2,h3,h3'⟩⟩:=h;exact Dp (E6 h1 Dm) ⟨k1,yw h2 Dm,T6⟩ ⟨k2,yw h3 xj,h3'⟩
def xwC.same (h:Fn H)(s:Ι):Fn H':=h.keep λ c o e _=>E6 e
def xae (h:ou L.length Nj)(u):mr x3T<->xPj u:=by
 rw [fG];constructor
 ·rintro⟨q,s,_,h1,h2,h3⟩;exact⟨q,s,h1,h2,h3⟩
 ·rintro⟨q,s,h1,h2,h3⟩;exact⟨q,s,xW0,h1,h2,h3⟩
def xal (h:tS L.length Nj)(u):(∀q,tJ u q->x3T=xIi)/\((∀q,¬tJ u q)->WF x3T):=by
 refine⟨λ q ⟨h1,h2,h3⟩=>(fG _ _).1 q xW0 h1 h2 h3,λ hn=>(fG _ _).2 λ q _ h1 h2 h3=>hn q ⟨h1,h2,h3⟩⟩
def xwH:Uf ["self","reader","begin","code","size"] xY8 xta:=Sc
universe K25.C
namespace K25
open PySem L2 QQ W17 W16 BP
def th:qi Pc
 | .sg s=>s
 | .cp _ z=>xOg
def cP (L:Id):Pc->Bo
 | .sg s=>[(xyG s xAL,xAL)]
 | .cp b z=>[(xyG xOg xPH,xPH),(b,8)]
def hP (L:Id)(P:sE):Bo:=P.flatMap (cP L)
def cn (Q:Id):Id:=zV 272 q xEn
def xga (L)(P Q:sE):X4 (P++Q)=X4 P++X4 Q:=by simp [hP]
def xo2 (L)(x)(P):X4 (x::P)=cP L x++X4 P:=by simp [hP]
def xci (L)(x:Pc):X4 DM=cP L x:=by simp [hP]
def xvq (Q:Id):B4 D9 272:=by simp [cn]
theorem GR.all:∀{P} {B},GR B P->yT P (∃B',xux B' x)
 |y::P,B,h,x,hx=>by
  show sH hx hx
  ·show A5 B DJ
  ·exact GR.all fG x hx
def xss (h:xux B x):th x<272:=by
 cases x with
 |sg s=>have:EB s:=h;show s<272;exact Tn (Gi this)
 |cp b z=>
  obtain⟨_,_,_,_,h5⟩:bO/\xAw/\yz b/\mY/\P5:=h;show xOg<272;exact(P9 18 (AJ (U6 253)) 272 h5)
structure TOk (L:Id)(Pp:sE):Prop where
 good:xzx
 len:tX
 six:Rv L 6
 has:yT Pp (AK (zm x))
def TOk.at (h:xHo)(hx:x∈Pp)(g:xux B x):x6 (th x) (zm x)/\AK (zm x)/\zm x≤6:=by
 have hl:kc (th x):=by show LT h.len (xss g)
 have e:x6 (th x) (zm x):=by rw [Gu,FL hl];rfl
 exact⟨e,h.has x hx,h.six _ (Hi e)⟩
def xax (h:xHo)(g:GR W Pp):Good gy:=λ q hq=>by
 obtain⟨x,hx,hq⟩:=MK.mp hq;obtain⟨B',gx⟩:=g.all x hx;show Y3 e1 e2 e3 (h.at hx gx) cl (C10.xqX h.good e1 e2);cases x with
 |sg s=>
  show Qe (jr q [(xyG s xAL,xAL)] hq) cl
 |cp b z=>
  show sH (jr q [(xyG xOg xPH,xPH),(b,8)] hq) hq
  ·exact cl
  ·rw [Ge.mp hq];obtain⟨_,h2,_,_,_⟩:bO/\xAw/\xS B'.length/\mY/\P5:=gx;show b<2^8;exact IT h2
def xg7 (six:Rv L 6)(x):xMo L x≤14:=by
 have six:∀n,jP n≤6:=λ n=>by
  rw [Gu];cases e:L[n]? with
  |none=>exact AM
  |some y=>exact six y (Hi e)
 cases x with
 |sg s=>have:=six s;show xAL+0≤14;exact gQ this
 |cp b z=>have:=six xOg;show xPH+(8+0)≤14;exact Nat.add_le_of_le_sub Z9 this
theorem xp4 (six:Rv L 6):∀P:sE,tots (X4 P)≤14*P.length
 | []=>UV
 |x::P=>by
  rw [xo2,aW,F2];have:=xp4 six P;have:=xg7 six x;lia
theorem xr4:∀{It:xuU} (a:Nat),(xTi It x)->fD≤3*xLl a
 | [],_,_=>UV
 |x::It,a,h=>by
  have hx:=h x Z6;have e:W13.puts (x::It)=x.puts++pT:=by simp [W13.puts]
  rw [e,aW];cases x with
  |one y=>
   have ih:=xr4 (It:=It) y λ z hz=>h z (by simp [hz])
   show(3+0)+fD≤3*(xLl y+1);exact(BX LE (ER 3) (.a (Zr EZ) LE) (.m 3 Ψ) ih)
  |rep r=>
   have ih:=xr4 (It:=It) a λ z hz=>h z (by simp [hz])
   have hr:3≤r/\r≤66:=hx;show(3+(6+0))+fD≤3*Vg (xuJ r) (xuR a);rw [FD,Gy];exact(Bu [_,_,_] (A9 (.m 3 EZ)) (VM 3 (ER 3)) (.a (aS (Y6 6 0)) LE) (.m 3 Θ) ih (FE 3 hr.1))
def xnr (hl:tX){It:xuU}(h:xD8 0 0 It 272 b):xuR 0=L:=by
 have:=W13.xqt h;rw [JA,Hl,<-hl,Hc] at this;exact this.symm
theorem xoJ:∀{P P':xuU} {p a b b':Nat},xD8 p a P L.length b->xD8 p a P' L.length b'->P=P'
 | [],[],_,_,_,_,_,_=>rfl
 | [],x::P',p,a,b,b',h,h'=>by have:=DJ;have:=h'.1;lia
 |x::P,[],p,a,b,b',h,h'=>by have:=h'.1;have:=DJ;lia
 |x::P,x'::P',p,a,b,b',h,h'=>by
  obtain⟨_,e,h⟩:=h;obtain⟨_,e',h'⟩:=h';subst e;subst e';rw [xoJ h h']
theorem xm4 (a)(Q):∀n,xFE n q (xFe (a::Q))=xFE n q xEn+xO3 (a<n) 1
 |0=>rfl
 |n+1=>by
  rw [K2,FV,JF,FV,JF,xm4 a Q n];simp only [HH,Mm,KG,List.sum_nil,K0];by_cases e:a=n
  ·subst e;rw [FY Xa,F8 (HW _)];simp;exact EN [_,_] EA qH [_,_] qH EA
  ·have:Ρ (a==n):=by simp [e]
   rw [this];by_cases l:a<n
   ·have l2:a<n+1:=J9 l;rw [F8 l,F8 l2];simp;exact EN [_,_] xzW qH [_,_] qH xzW
   ·have l2:¬a<n+1:=Re (e (xVA z (Mw.mp l)))
    rw [FY l,FY l2];simp
def xbE (Q){q:Nat}(h:q<272):xEn∈D9:=by
 show wU cn (IK.mpr (kq q (Kr.mpr h)))
def wS (h:b∈D9):∃q,b=xEn:=by
 unfold cn at h;obtain⟨q,_,e⟩:=IK.mp h;show A5 q e.symm
theorem xn1:∀Q:Id,(D9).sum≤Q.length
 | []=>by
  have:∀n,xFE n q (xFe ([]:Id))=0:=λ n=>by
   induction n with
   |zero=>rfl
   |succ n ih=>rw [K2,FV,JF,ih];rfl
  show xFE 272 q (xFe ([]:Id))≤0;show LT this UV
 |a::Q=>by
  have ih:=xn1 Q;have e:=xm4 a Q 272;have ih':xFE 272 q xEn≤Q.length:=ih;show xFE 272 q (xFe (a::Q))≤Q.length+1;rw [e]
  split<;>omega
theorem xpl:∀C:Id,El (x1D b (0<b)) C.sum
 | []=>UV
 |a::C=>by
  have ih:=xpl C;rw [MJ,KG];by_cases h:0<a
  ·rw [F8 (FM h),F2];exact(Bu [_,_,_] (A9 DW) DC On Θ ih h)
  ·show iL (by show kY) (Lu ih)
def xhN (C):x1D b (0<b)=(S.pos C).map (S.xv4 C):=by
 have e:C=xDc (S.xv4 C):=by
  apply Ix;intro i;rw [Gs];by_cases h:xNc i
  ·rw [JI h,FL h];simp [S.xv4,Gu,h]
  ·rw [GZ (Hg h),GZ (by simp;exact Hg h)];rfl
 conv=>lhs;rw [e]
 show Af LW
def xz (Q){q:Nat}(h:q<272):xT1 q=xEn:=by
 simp [S.xv4,cn,Gu,h]
seal cn
def xcA {Q:Id}(hq:∀q∈Q,q<272)(h1:AK Q.length)(NM:Zu Q.length):(x3c D9)/\xTq D9/\xGP D9/\(∃b∈D9,0<b)/\AK 6/\qo 6/\El (xzo D9 b (0<b)) (2^6)/\xGP Q5/\xTq Q5/\El Q5 (2^6):=by
 have hf:=xpl D9;have hs:=xn1 Q;have hp:B4 Q5 (xzo D9 b (0<b)).length:=by rw [xhN,Fy]
 have h0:∃b∈D9,0<b:=by
  show De a ha (LI h1) (Ax (xbE Q (hq a ha)) (K3.mpr ha))
 refine⟨rK,by show oN xvq,by show oN xvq,h0,Z9,Z9,Z4,(Z3 [_,_,_,_] 1 xT5 (iU (DX Θ)) LE 300 NM (Bb hf hs (Fz hp))),?_,Z4⟩
 ·show o4 q (wS hb);show AY (x5G q (l:=Q)) (Z3 [_,_] 1 LE (Zz 64) LE 1000000 NM this)
 ·rw [hp];show B8 b hb Xi h0 (List.length_pos_iff.mpr (List.ne_nil_of_mem (IW.mpr ⟨hb,FM Xi⟩)))
def Xm (Q:Id)(L:Id):Prop:=∃ln:Cs,S.xw2 D9 6 ln/\L=xM9/\PM.xvC Q5 xT1 6 ln
theorem Xm.uniq {Q L L':Id}(h:Xm Q L)(h':Xm Q L'):L=L':=by
 obtain⟨ln,h1,rfl,_⟩:=h;obtain⟨ln',h2,rfl,_⟩:=h';rw [h1.uniq h2]
def xkx:q∈Q5<->q<272/\q∈Q:=by
 unfold S.pos;rw [IW,Kr,xvq];constructor
 ·rintro⟨h1,h2⟩;show ρ (xz Q h1) h2 ⟨h1,K3.mp (FQ h2)⟩
 ·rintro⟨h1,h2⟩;show p9 ⟨h1,FM ?_⟩ (xz Q h1) (K3.mpr h2)
def Xm.ok (hq:∀q∈Q,q<272)(h1:AK Q.length)(h:Xm Q L):xzx/\tX/\(Rv L 6)/\∀q∈Q,xBm:=by
 obtain⟨ln,_,rfl,b1,b2,b3⟩:=h;have get:∀q,q<272->(xM9).getD q 0=ln q:=λ q hq=>by simp [Gu,hq]
 have le6:∀q,ln q≤6:=λ q=>by
  by_cases m:q∈Q5
  ·exact(b1 q m).2
  ·show oN (b2 q m)
 have six:Rv xM9 6:=BA (by
  obtain⟨q,_,rfl⟩:=xTz;exact le6 q)
 have Pf:∀q∈Q,AK (ln q):=λ q m=>(b1 q (xkx.mpr ⟨hq q m,m⟩)).1
 have ek:C9.krf 6 xM9=(rq Q5 p (2^(6-xBL))).sum:=by
  unfold C9.krf S.pos;rw [LW,Ii,xvq];have:xDe 272 ((xF l (0<l))∘ln)=xDe 272 (xF p (0<xT1 p)):=by
   refine List.filter_congr (SC q Sr)
   have Sf:=Kr.mp Sr;show vB 0 (ln q)=vB 0 (xT1 q);rw [xz Q Sf];by_cases m:q∈Q
   ·rw [xHI (0<ln q) (Pf q m),FM (K3.mpr m)]
   ·have z:=b2 q (Re (m (xkx.mp z).2));rw [z,List.count_eq_zero.mpr m]
  show Af this
 refine⟨⟨Z6,Z6,λ l hl=>gQ (six l hl),?_,?_⟩,Z6,six,λ q m=>by show LT (get q (hq q m)) (Pf q m)⟩
 ·show De a ha (LI h1) ⟨ln a,IK.mpr (kq a (Kr.mpr (hq a ha))),Pf a ha⟩
 ·rw [C9.xnf (m:=6) Z9 _ six,ek];have:2^(12-6)*(rq Q5 p (2^(6-xBL))).sum≤2^(12-6)*2^6:=uP b3;exact this
def Xm.tok (g:GR W Pp)(h1:xRM)(h:Xm xLq L):xHo:=by
 have hq:∀q∈xLq,q<272:=λ q hq=>by
  show Vf x hx (IK.mp hq);obtain⟨_,gx⟩:=g.all x hx;exact xss gx
 show Bj a b c d (h.ok hq (by show Ai h1)) ⟨a,b,c,λ x hx=>d _ (IK.mpr (kq x hx))⟩
universe K25
namespace K25
open PySem L2 QQ W17 W16 BP
seal PE PA PS PSs PT PW PG PI
def xsx {pos:Pos}(h:∃t,SL W0 (VU c))(hg:tR)(hd:sS):cw eM xLS:=by
 show De t h h (xsO hg h (Ex t) hd)
structure Shs (K:Frag)(mg:Β):Prop where
 X:Bz
 whole:xP4
 arewhole:x1E cv Jaa
 things:Δ "are_of_things" xvf xuV
 need:Δ "need_shares" xxm Jak
 weight:Δ "weight_of" xwk xzl
 pairs:Δ "in_pairs" xwc xDS
 light:Δ "lightest_bundles" xxu xKS
 lengths:∃f fd,S.FnL K mg "lengths_of" xpN Jak f fd
inductive xqx (vs:NE) (H:Hp) (Q:VK) (Nf:XK):Prop
 |mk (t:MV) (x:Pc) (h0:vs=[wG]) (h1:Ob (itm x)) (h2:uq (th x)):xqx vs H Q Nf
def xfS:Uf xzy xzy xpJ:=Sc
def xfm (F:Ζ "thing_of" xpJ xzy)(T:Bz):fV xzy xqx:=by
 show Al xfS (λ M7 A outer s H vs Q E hr h=>?_);show dD t x ht k h;refine xBy (xa xT3 cm) xT3 (f9 (xo (E8 (xsx T.first Z7) xT3) (xsx T.least Z7)))
 cases x with
 |sg s=>
  refine⟨_,rfl,t,_,_,_,rfl,rfl,x9,tO,rfl,_,rfl,xAG QN h⟩;exact⟨_,rfl,t,_,_,_,rfl,rfl,x9,wu,k⟩
 |cp b z=>
  show Wp ⟨_,rfl,t,_,_,_,rfl,rfl,x9,tO,rfl,_,rfl,xGu DQ xt6 EH⟩ ⟨_,rfl,t,_,_,_,rfl,rfl,x9,xC4 2,_,_,rfl,rfl,_,_,rfl,rfl,?_⟩;have e:Ε 256+Ps z-3=Ps (253+z):=Z5
  try dsimp only
  show vU k
inductive xlp (vs:NE) (H:Hp) (Q:VK) (Nf:XK):Prop
 |mk (a:MV) (Qs:Id) (h0:vs=CV) (h1:XL=Φ (Qs.map vN)) (h2:(∀q∈Qs,q<272)) (h3:AK Qs.length) (h4:Zu Qs.length) (h5:tU l MV L Id Hp (Ξ->Ι->AL=vt->Xm Qs L->AS)):xlp vs H Q Nf
def xrA:Uf ["things","counts","thing"] xSw xpm:=Sc
def xbw {Qs:Id}(h:A7 Qs q)(hq:q<272):(Ο (xLc i)).set q (vN (xXu+1))=Ο (xLc (i+1)):=by
 have e1:∀A,Ο (cn A)=zV 272 p (vN (A.count p)):=λ A=>by show CS cn Ii;rfl
 rw [e1,e1];refine S.set_range (f:=λ p=>xKr i p) (f':=λ p=>xKr (i+1) p) (o6 p)
 show xKr (i+1) p=xKr i p+ VJ [q];rw [xwY h,J7]
def xcl:Zg 272 sO=Ο (cn []):=by
 have e1:Ο (cn [])=xC0 272 (λ _=>mq):=by show CS cn Ii;rfl
 rw [e1,MR,Im];generalize 272=n
 induction n with
 |zero=>rfl
 |succ n ih=>rw [Hv,HJ,ih,Hv];rfl
inductive xjo (a:MV) (Qs:Id) (l5:MV) (H5:Hp) (i:Nat) (σ:St) (H7:Hp):Prop
 |mk (v:BV) (h0:σ=[Bm,xOF,v]) (h1:H7 l5=Au (xLc i)) (h2:∀c o,EC l5->H5 c=IO->H7 c=IO):xjo a Qs l5 H5 i σ H7
def xfz (F:Ζ "shares_of" xpm xSw)(Y:Shs K mg):AH 34 xSw xlp:=by
 obtain⟨T,⟨_,_,Wh⟩,⟨_,_,AW⟩,⟨_,_,Th⟩,⟨_,_,Ne⟩,⟨_,_,We⟩,⟨_,_,Pa⟩,⟨_,_,Li⟩,⟨_,_,Le⟩⟩:=Y;show xV t6 B6 Le.d xrA (λ M7 A outer st H vs Q E hr h=>?_) _;show jx a Qs rfl ha hq h1 NM k;show yy (Fc 1 xrA.nd (ap xqE (aK my) (xsx T.many Z7)) (rJ SZ 2 xrA.nd (xtN (zk (gM PP Ty)) (xto PP Ty xp9))) (bv (S.xdc Le Ne Th AW Wh Li Pa We T) hr Z7 Le.m Le.kp B6 (xVp (a:=V.int 6) CY) a7 m8)) (Z2 (Bh (by show qa) l4 n4))
 have s4:=xIx xIR;have Uj:Du H l4 xIR l4=Φ sO:=ad;show EI H l4 xIR H4 ⟨l4,_,_,rfl,rfl,Uj,Z9,Z9,(by show jy (1*272)),BU l5 n5⟩;clear g1;have s5:=xIW (Zg 272 sO);have h55:ni l5 (xNr xMq sO) l5=Au (xLc 0):=by
  show LT ad (xzi z (some (HO.lst z)) xcl)
 have n05:A1 l5:=xL2 s4;have ZD:ZC (E4 H4 l5 (xNr xMq sO)):=xRO;show vo H4 l5 (xNr xMq sO) H5;clear s5 s4 Uj;have T5:a≠l5:=ae ha n05;refine Z2 (xor _ a (ZD _ _ ha) (rB Wo K a (Qs.map vN) (xjo a Qs l5 H5) (SU none h55 xVx) (λ i σ H7 _ z9=>by show iN kp z9 (Ng.of (B1 T5 (ZD _ _ ha)))) ?_ ?_))
 ·clear g1;rintro i y σ H7 hi ⟨v,rfl,h7,kp⟩;show Vf q hqi (cZ hi);have hqn:=hq q (Hi hqi);have hg:(Ο (xLc i))[q]?=Χ xXu:=by
   unfold cn;rw [Gs,Gs,JI hqn];rfl
  have e2:Ps xXu+1=jm xXu:=Lv _;refine⟨_,rfl,_,rfl,l5,_,_,_,rfl,rfl,Ng.of h7,aD hg,_,_,rfl,rfl,?_⟩
  try dsimp only
  show Η e2 ⟨_,rfl,_,rfl,l5,_,_,q,rfl,rfl,h7,S.ixN_nat (by rw [Fy,xvq];exact hqn),xIi,rfl,?_,λ c o n e=>?_⟩
  ·rw [ad,xbw hqi hqn]
  ·show XV n (B1 n e)
 ·rintro σ H7 ⟨v,rfl,h7,kp⟩;rw [Fy,Hc] at h7;show DE A3;have s07:ZC H7:=λ c o e=>B1 (W2 n05) (ZD _ _ e)
  obtain⟨q1,q2,q3,q4,q5,q6,q7,q8,q9,q10⟩:=xcA hq h1 NM;show Wp ⟨_,rfl,l5,cn Qs,6,rfl,h7,q1,q2,q3,q4,q5,q6,q7,q8,q9,q10,λ l ln H8 nl s8 hl hb hln=>?_⟩ (qb xM9 H8 (xm s07) (s07.trans s8) ?_ (VT ln hln hb));rw [hl,xvq,Ii];rfl
structure Cds (K:Frag)(mg:Β)(D C:MV):Prop where
 M:xPd C
def xfM:Uf WG WG xpF:=Sc
def xgb:Uf xNy xNy xp8:=Sc
structure Shw (K:Frag)(mg:Β)(B D C:MV):Prop where
 Y:Wys K mg
 Zb:xHn B
 Sh:Shs K mg
 Cd:Cds K mg D C
 thingof:Δ "thing_of" xpJ xzy
 sharesof:Δ "shares_of" xpm xSw
 needtab:Δ "need_table" xsA Jag
 again:Δ "again_from" xyg xLX
 puttab:Δ "put_table" xq6 xVs
inductive xln (B:MV) (vs:NE) (H:Hp) (Q:VK) (Nf:XK):Prop
 |mk (o p d a:MV) (x:V) (T W:Id) (Pp:sE) (N T0:Nat) (h0:vs=[y9,Bw,ω,x]) (h1:xHk B T0) (h2:xGT) (h3:XL=EX) (h4:xIL) (h5:mn 1) (h6:OT) (h7:RI) (h8:xCn) (h9:Rx) (V5:WH (W++T) Pp W T) (Qy:∀(L:Id) (It:xuU) (b:Nat) (H':Hp),Xm xLq L->xD8 0 0 It 272 b->gN B H' (pT++gy) N (T0+tots (pT++gy))->Fu (∀c o,W1=IO->Γ->wx->AE=IO)):xln B vs H Q Nf
def xwF:Uf ["self","bits","text","before","pieces","lengths","codes","piece","pair"] Jac xup:=Sc
def xc7:xE xzy:=Z8
def xhZ:TE:=xwW xqx [] E0 (xIf fh)
def xtr (h:YQ Pp q)(XQ:p<q):xRM:=by
 cases Pp with
 |nil=>have:p=q:=h;exact(B7 [_,_,_] Ψ Tm DC AU LE XQ wO)
 |cons x Pp=>simp
def xgl (F:xW4 "ShareWay.tell" xup)(A0:xJ5 C):AH 35 Jac (xln B):=by
 obtain⟨⟨Vi,⟨_,_,Po⟩,⟨_,_,Na⟩,⟨_,_,Ns⟩⟩,Z,Sh,Cd,⟨_,_,To⟩,⟨_,_,So⟩,⟨_,_,Nt⟩,⟨_,_,Ag⟩,⟨_,_,Pt⟩⟩:=A0;show ZV Nr Vi.needrow Nw Vi.needwin;have X:=Vi.R.X;have GTh:=xfm (P:=P) (w:=w) (base:=base) To X;show ZV Nl Cd.M.need Co Cd.M.cof;have GC:=K25.C.xjR (P:=P) (w:=w) (base:=base) Co Nl Cd.M.Y;show xXs Wh Sz;show vO O Z.ones Pu Z.put M Z.move;have TB:=Z.T;have GP:=xQn P w Sz Wh O M TB X;show AQ xwF (λ M7 A outer st H vs Q E hr h=>?_);obtain⟨o,p,d,a,x,T,W,Pp,N,T0,rfl,hB,TJ,ha,Pm,h1,NM,hx,Yk,hWl,hwk,k⟩:=h;have NA:Bv:=UF;have Pe:Dg:=UF;have Ye:xIq:=UF;have hr32:ED 32:=UF;have Ra:xON:=UF;show xZ (u9 (sh (xsF Ns Na Nw Nr Vi.R) Ye Ns Ty π) (Cg 4 xwF.nd (BI (xme Po Vi) hr32 Po.m Po.kp Po.b (xH Ty π)) (Cg 5 xwF.nd (g9 (xfz So Sh) So (xaR (N:=xzy) (g:=UT) (te:=xhZ) rfl rfl Z8 Z8 Z8 (bP Ν) (λ fp s H=>xCp xc7) (λ fp s H=>mJ GTh To SZ))) (vP 6 xwF.nd (lJ GC Ra Co C8) (aB (sh (Tb.xc9 Pt Nt Ag Z) hr32 Pt PP C8)) (af (Wt (bP Ν) 7 xwF.nd (vP 8 xwF.nd (gM bu (mJ GTh To cb)) (xN PP TB.cl Pu GP Pe (xH (kF VP) (kF VP))) (af (zF (xa (kF cb) cm) (tP PP Pu GP Pe (kF cb))))))))))) ⟨_,rfl,_,rfl,a,x,T,W,rfl,ha,Pm,h1,NM,hx,Yk,hWl,λ l0 H0 s0 n0 Vq=>A3⟩;show Ff ⟨_,rfl,_,rfl,a,x,W,T,rfl,xW8,x0J,Yk,Pm,gQ hWl,gQ NM,λ l P' H1 s01 X' ⟨ts,hl,PU⟩ hwk'=>A3⟩;have eP:P'=Pp:=xww hwk' hwk;subst eP;have s1:=xZH;have nl:Ξ:=EF X';show Zy gr YG VB (xqM Yk Pm hwk) hP1 (AK P'.length) (xtr hwk (by show mQ (Iu h1)));clear s0 s01 Vq X' hwk';show Wp (Z2 (xor _ l hl (SC l2 nl2))) (xbu (g:=UT) (te:=xhZ) (K:=K) (a:=l) (l:=l2) (xs:=Fl) (n:=1) (λ i ys H2=>ys=Ο ((xyt).map th)/\H2 l2=gm/\xA0 H2)
  (Wr ad (ak nl2)) (λ i ys H2 _ z9=>by show xDP sm;exact xzq hl) ?_ ?_ ?_ ?_)
 ·clear g1;rintro i y ys σ H2 hi ⟨rfl,Uk,sm⟩ hσ;show Vf t ht (xrR hi);show x5 u0 u0 (σ=[u0]) (match σ,hσ with| [u0],_=>Ex u0)
  have OL:i<P'.length:=by show Bg eF (Fg ht)
  have ZQ:A7 P' P'[i]:=i';refine⟨_,rfl,t,P'[i],rfl,yA (PU.2 i t _ ht ZQ),Uk,bx (by rw [Fy,Fy,FW];exact xGa VB (gQ NM)),rfl,?_,ad,xBG⟩
  ·rw [xwY ZQ,FV,FV];rfl
  ·show pQ nl2 bL
 rotate_left
 ·exact λ x σ H A B h z=>tN
 ·rintro σ H A B h ⟨v,e1,t,x,e2,e3,z⟩;exact⟨v,e1,t,x,e2,e3,tN⟩
 rintro ys H2 ⟨rfl,Uk,Pj⟩;rw [Fy,eF,Hc] at Uk;have hq:∀q∈P'.map th,q<272:=λ q hq=>by
  show Vf x hx (IK.mp hq);obtain⟨_,gx⟩:=gr.all x hx;exact xss gx
 show DE ⟨l2,P'.map th,rfl,Uk,hq,by show Ai hP1,by show Ai (FK VB NM),λ l3 L H3 nl3 s23 h33 hsh=>A3⟩;have tok:=hsh.tok gr hP1;have XE:=Pj.trans s23;have nl31:vz l3:=none_of Pj nl3;show Ff (ZW _ L (SU l3 h33 (BA (gQ (tok.six b hb)))) tok.good (λ l4 xs H4 nl4 s34 Uj ZP=>A3));have Vu:=x8f;have XZ:=hB.keep λ c o e _=>xCL D4
 show rm h43 (s34 _ _ h33) dxp rp kp' hpp XZ.ob;obtain⟨dxd,Bd,rd,kd,_,hdd,_⟩:=id XZ;have nl3p:DO l3:=aF h43 hpp (by show Τ);have nl3d:l3≠d:=(xqL ((xEI).imp (λ _ e=>D4)) nl31).symm;have nl4p:DO l4:=aF Uj hpp (by show Τ);have nl4d:l4≠d:=(xqL ((xEI).imp (λ _ e=>XE _ _ D4)) nl4).symm;have OV:DP:=LB xTC;have QP:uB:=LB xEI;show Ff ⟨_,rfl,_,rfl,p,d,l3,N,T0,L,rfl,XZ,TJ,h43,tok.len,tok.six,nl3d,λ It b H5 hit hB5 Q8=>A3⟩;have YL:=xnr tok.len hit;have Xe:=xr4 0 (x7c hit);rw [YL,tok.len] at Xe;have h5l:=mf (xCL hl) OV QP;have h54:=mf Uj nl4p nl4d;have Uq:∀t ys,Fm (H4 t) ys->Fm (H5 t) ys:=λ t ys e=>mf e (cD hpp (by show Τ)) (cD hdd (by show Τ))
 have hcl5:=ZP.keep Uq;show rm hts5 ((PU.keep λ a xs e=>xCL e).keep Uq) dxp5 rp5 kp5' hpp5 hB5.ob;obtain⟨dxd5,Bd5,rd5,kd5,_,hdd5,_⟩:=id hB5;refine xor _ l h5l (rB Wo K l Fl (λ i σ H6=>∃v7 v8,σ=[xCb,Qg,Bm,xAs,ye,xOG,TD l4,v7,v8]/\gN B H6 (X4 xyt) (cT pT N) (T0+fD+xPi)/\∀c o,H5 c=IO->Γ->wx->Di=IO) (EE none none hB5 (λ c o e _ _=>e)) (λ i σ H6 _ z9=>by show xK1 kp z9 (xVt h5l OV QP)) ?_ ?_)
 ·rintro i y σ H6 hi ⟨v7,v8,rfl,hB6,kp⟩;show Vf t ht (xrR hi);have OL:i<P'.length:=by show Bg eF (Fg ht)
  have ZQ:A7 P' P'[i]:=i';have Vl:=hts5.2 i t _ ht ZQ;have hga:=gr.at ZQ;have hmem:P'[i]∈P':=HU OL;have ntp:DO t:=xGL hpp5 (by show Τ);have ntd:t≠d:=xGL hdd5 (by show Τ);have htt6:=B1 Vl ntp ntd;have h64':=B1 h54 nl4p nl4d;show Y3 e1 e2 e3 (tok.at hmem hga) Qi (C10.xjk tok.good e1 e2);have hlx:xyu (th P'[i]):=by show LT hcl5.1 (Fg Qi)
  have hxi:Aq xs (th P'[i]) xs[th P'[i]]:=FL hlx;obtain⟨tc,etc,htc⟩:K25.C.xwB H5 xs[th P'[i]] (some (xyG (th P'[i]) (zm P'[i]),zm P'[i])):=hcl5.2 _ _ _ hxi Qi;rw [etc] at hxi;have ntcp:DO tc:=aF htc hpp5 (by show Τ);have ntcd:tc≠d:=aF htc hdd5 (by show Τ);have htc6:=B1 htc ntcp ntcd;show Ay hto2 (xp4 tok.six xyt) FW hto2;show rm hcl2 (C10.xqX tok.good e1 e2) dx r kk Xf hB6.ob;rw [xwY ZQ,xga,xv5,aW,xci];show ij g2 ⟨_,rfl,_,rfl,t,P'[i],rfl,htt6,l4,_,_,_,rfl,rfl,Ng.of h64',aD hxi,Zw⟩ g2;show ij g2 ⟨_,rfl,p,dx,_,rfl,Xf,RJ,_,rfl,tc,_,_,_,rfl,rfl,ND.of htc6,tO,_,rfl,tc,_,_,_,rfl,rfl,ND.of htc6,wu,p,d,_,_,_,_,rfl,hB6,Cm [_,_,_,_,_,_] (A9 (xGS (CD 14 qS (Aw (CN (.m 14 vI)))))) (w6 (xHc (xGS (zD 3 272 (CD 14 vI (.m 14 qS)))))) xD6 4000 TJ (Bb (bE NM) (bE VB) (Bb Xe hto2 (bE rV))),Z5,hcl2,λ H7 hB7 kp7=>Zw⟩ g2;show rm htt7 (xJB htt6 ntp ntd) dx7 r7 kk7 hp7 hB7.ob;generalize P'[i]=xx at*;cases xx with
  |sg s=>
   show Wp ⟨_,rfl,t,_,_,_,rfl,rfl,x0M,tO,rfl,_,rfl,xGu DQ (Re (xt6 z.symm)) EH⟩ (EE _ _ ?_ (λ c o e n1 n2=>xJB xZv n1 n2));have e5:T0+fD+(xPi+xMo L P7)=T0+fD+xPi+zm P7:=by
    have:xMo L P7=zm P7:=rfl;exact BC (By [_,_,_,_,_] Be qS xUu xUm xzt) (By [_,_,_,_,_] qS Be xUm xUu wO)
   show LT e5 hB7
  |cp bk z=>
   obtain⟨g1,g2,g3,g4,g5⟩:AK bk/\bk≤255/\bk≤_/\mY/\P5:=hga;show E9 ⟨_,rfl,t,_,_,_,rfl,rfl,x0M,tO,rfl,_,rfl,xAG QN h⟩ ⟨_,rfl,p,dx7,_,rfl,hp7,RJ,_,rfl,t,_,_,_,rfl,rfl,x0M,wu,p,d,_,_,bk,8,rfl,hB7,Z5,Z9,(by show bk<2^8;exact IT g2),τ H8 hB8 Yc⟩ (EE _ _ ?_ (λ c o e n1 n2=>xJS (xJB xZv n1 n2) n1 n2));have e5:T0+fD+(xPi+xMo L xWl)=T0+fD+xPi+zm xWl+8:=by
    have:xMo L xWl=zm xWl+8:=rfl;exact BC (By [_,_,_,_,_] Be (Vh 4 8) xUu (QJ xUm) xzt) (By [_,_,_,_,_] (Vh 4 8) Be (QJ xUm) xUu wO)
   show LT e5 hB8
 ·rintro σ H6 ⟨v7,v8,rfl,hB6,kp⟩;rw [Fy,eF,Hc] at hB6;refine k L It b H6 hsh hit ?_ λ c o e n1 n2=>B1 (mf (xCL D4) n1 n2) n1 n2
  rw [xv5,aW,<-Hj];exact hB6
def xbc:Sp:=λ vs H Q _=>∃o,vs=[y9]/\Zv 3
def xaG:bS xpT:=Sc
def xhD (F:xT0 "ShareWay.number" xpT):ya xbc:=by
 show AQ xaG (λ M7 A outer st H vs Q E hr h=>?_);show B8 o rfl k h (Ax xMr k)
def xvJ:Uf ["self","reader","count","before","signs","begin","end","codes","thing","back"] Jad xp1:=Sc
def xeE (T)(s):xQA (T++[s])=Xy++[(s,8)]:=by simp [xuY]
inductive xlm (vs:NE) (H:Hp) (Q:VK) (Nf:XK):Prop
 |mk (a:MV) (T:Id) (h0:vs=CV) (h1:XL=EX) (h2:OT) (h3:∀l ts H',Ι->Ξ->AL=ay->Q2 H' ts pz->AS):xlm vs H Q Nf
def xxb:Uf ["signs","runs","begin","place"] xEo xwh:=Sc
def xgx (F:Ζ "runs_of" xwh xEo)(T:Bz):fV xEo xlm:=by
 show Al xxb (λ M7 A outer st H vs Q E hr h=>?_);show Zj a S ha NM k;show xZ (ju 1 xxb.nd d5 (Fc 2 xxb.nd aj (Wt (x2Z Z7 (xH aj (zk zu))) 3 xxb.nd (af (mX (PW.pt (xvk (xa π zu) (xsE (CZ xvR (TP π) xUk)))) (sQ (U9 PP (Y4 xUk (xo π Ty))) (xBa xxb.nd π))))) PP)) xJg;have s0:=xG2;show xHQ D2
 have en:me (kW (xOc+1) 1):=by rw [Fy];lia
 show rE ⟨_,rfl,a,_,rfl,AN xW8,_,_,rfl,rfl,1,_,rfl,⟨Z5,Z5,by rw [Fy];lia,by rw [Fy];lia⟩,?_⟩ en (oR 1 S.length (λ i σ H2=>∃b rs ts v3,σ=[Bm,ye,RW,v3]/\SR/\RZ=ay/\Q2 H2 ts rs/\rs++rl (S.drop b)=rl S/\xS i/\x2Y i/\(me i->me b)/\∀j,xS j->j≤i->RF j->S[j]?=S[b]?) ⟨0,[],[],none,rfl,s0,ad,.nil,rfl,UV,UV,Re z,λ j h1 h2 _=>by rw [Nat.le_zero.mp h2]⟩ ?_ ?_)
 ·clear g1;rintro i σ H2 hi ⟨b,rs,ts,v3,rfl,sm,NH,TQ,T9,hbi,hri,hend,T5⟩;have hbS:RF b:=GQ hbi hi;have Su:=yA ha;have ep:E7+cS=zM:=(BJ bq On On bq);have Sn:=TQ.len;have Sb:Aq S b S[b]:=FL hbS;have J:(XA S[i+1]? S[b])->∀t,WF (H2 t)->∃b' rs ts' v3,[xLd a,xLd l,xBM i,xBM i]=[xLd a,xLd l,Χ b',v3]/\ZC (qO (nV [vN S[b],vN (i+1-b)]) (xGx [t]))/\(qO (nV [vN S[b],vN (i+1-b)]) (xGx [t])) l=Φ (ts'.map V.ref)/\Q2 (qO (nV [vN S[b],vN (i+1-b)]) (xGx [t])) ts' rs/\rs++rl (S.drop b')=rl S/\b'≤i+1/\x2Y (i+1)/\(me (i+1)->me b')/\∀j,O2 b'->j≤i+1->RF j->S[j]?=S[b']?:=by
   intro OZ t nt;have st:=OD [vN S[b],vN (i+1-b)];have nlt:t≠l:=DH NH nt;refine⟨i+1,rs++[(S[b],i+1-b)],ts++[t],xBM i,rfl,xBG,ad,?_,?_,UV,by rw [FD];show rs.length+1≤i+1;exact HN hri 1,Re z,λ j h1 h2 _=>by rw [AI j (i+1) (JG (FA h1 h2))]⟩
   ·show PH (xT bL)
   ·refine xVP ((TQ.mono st).keep (Fw c xs)) ?_
    ·show Sa (Re (by show B0 xV0 e e))
    ·rw [ai nlt,ad]
   ·rw [FJ,<-T9,xg1 (b:=b) (e:=i+1) (a:=S[b]) (IT hbi) sP (λ j h1 h2=>by rw [T5 j h1 (HI h2) (FN h2 hi),Sb]) OZ];rfl
  show Η ep ⟨_,rfl,_,rfl,a,_,rfl,AN Su,rfl,_,rfl,qR h h⟩
  ·have he:me (i+1):=by
    have:=DQ;injection this with this
    show jC Fy (ME.mp this)
   refine cy ⟨_,rfl,oI NH,_,rfl,_,rfl,a,_,_,_,rfl,rfl,xEJ,zp hbS,_,rfl,_,rfl,_,_,rfl,rfl,(by show b8),SC t nt⟩;have e2:zM-xc=Ps (i+1-b):=jH (HL hbi)
   try dsimp only at nt
   try dsimp only
   show Η e2 ⟨l,_,_,rfl,rfl,xVK _ _ NH,bx (by show Ai (ow [_,_,_,_] 1 (pO xJ) (iU xzT) LE NM (Bb hi hri xEX))),_,rfl,?_⟩;have z:=J (by rw [he,GZ UV];exact BQ) t nt;show ρ FV z z
  ·have he:RF (i+1):=by
    have h':¬(SB (Dy (V.int zM) (V.int xOc))):=h;show CM (i+1) S.length q q
    ·exact q
    ·show Wv (by rw [Fy,AI (i+1) S.length (FA hi q)]) h'
   refine⟨_,rfl,_,rfl,a,_,_,_,rfl,rfl,xEJ,zp he,_,rfl,_,rfl,a,_,_,_,rfl,rfl,xEJ,zp hbS,rfl,_,rfl,?_⟩;by_cases OZ:S[i+1]=S[b]
   ·rw [OZ,QN];refine aV ⟨b,rs,ts,_,rfl,sm,NH,TQ,T9,HL hbi,(mH LE LE hri),Re (BC (xI5 hbS) (Fp [_,_,_] 1 (Qv xzR U0) (iU (xMR (bD yr))) Os LE NM (Fx (Wu he) (Es 64 z.symm)))),λ j h1 h2 h3=>?_⟩;show CM i j q q
    ·rw [show j=i+1 by exact BC (BX LE Ψ LE Ψ h2) (BX Ψ LE Ψ LE q),FL he,Sb,OZ]
    ·exact T5 j h1 q h3
   ·show Η (Ik (Re (OZ (xwK.mp z)))) (cy ⟨_,rfl,oI NH,_,rfl,_,rfl,a,_,_,_,rfl,rfl,xEJ,zp hbS,_,rfl,_,rfl,_,_,rfl,rfl,(by show b8),SC t nt⟩);have e2:zM-xc=Ps (i+1-b):=jH (HL hbi)
    try dsimp only at nt
    try dsimp only
    show Η e2 ⟨l,_,_,rfl,rfl,xVK _ _ NH,bx (by show Ai (ow [_,_,_,_] 1 (pO xJ) (iU xzT) LE NM (Bb hi hri xEX))),_,rfl,?_⟩;have z:=J (by show LT (FL he) (Re (OZ (Gg z)))) t nt;show ρ FV z z
 ·rintro σ H2 ⟨b,rs,ts,v3,rfl,sm,NH,TQ,T9,_,_,hend,_⟩;rw [hend rfl,LH,Cl,GU] at T9;show ρ T9 TQ (xFJ (qb ts H2 sm nl NH TQ))
def xcv (u:Bool):Int:=xO3 u 1
def xph (u:Bool):Sp:=λ vs H Q _=>∃o:MV,vs=[y9]/\Zv (xcv u)
def xft:bS xqG:=Sc
def xeP:bS xq0:=Sc
def xef (F:xT0 "RawWay.number" xqG):ya (xph false):=by
 show AQ xft (λ M7 A outer st H vs Q E hr h=>?_);show B8 o rfl k h (Ax xMr k)
def xez (F:xT0 "RunWay.number" xq0):ya (xph true):=by
 show AQ xeP (λ M7 A outer st H vs Q E hr h=>?_);show B8 o rfl k h (Ax xMr k)
inductive xqd (u:Bool) (B:MV) (vs:NE) (H:Hp) (Q:VK) (Nf:XK):Prop
 |mk (o p d a:MV) (x:V) (T W:Id) (N T0:Nat) (h0:vs=[y9,Bw,ω,x]) (h1:xHk B T0) (h2:xGT) (h3:XL=EX) (h4:xIL) (h5:mn 1) (h6:OT) (h7:RI) (h8:xCn) (h9:Rx) (V5:Ft (gN B H' (xuY u T) N (T0+tots (xuY u T))->Fu (∀c o,W1=IO->Γ->wx->AE=IO))):xqd u B vs H Q Nf
def xiW:Uf ["self","bits","text","before","sign"] Jac xpv:=Sc
inductive xjN (B:MV) (o:MV) (p:MV) (d:MV) (a:MV) (x:V) (T:Id) (N:Nat) (T0:Nat) (H1:Hp) (i:Nat) (σ:St) (H2:Hp):Prop
 |mk (v4:BV) (h0:σ=[xCb,Qg,Bm,xAs,v4]) (h1:gN B H2 (xQA xZ8) N (T0+tots (xQA xZ8))) (h2:∀c o,xCk=IO->Γ->wx->yf=IO):xjN B o p d a x T N T0 H1 i σ H2
def xe5 (F:xW4 "RawWay.tell" xpv)(Y:Wys K mg)(Z:xHn B):AH 8 Jac (xqd false B):=by
 have R:=Y.V.R;show jf Nr Y.V.needrow Nw Y.V.needwin Na Y.needahead Ns Y.needsigns;have X:=R.X;show xXs W S;show vO O Z.ones Pu Z.put M Z.move;have TB:=Z.T;have GP:=xQn P w S W O M TB X;show AQ xiW (λ M7 A outer st H vs Q E hr h=>?_);obtain⟨o,p,d,a,x,T,W,N,T0,rfl,hB,TJ,ha,Pm,h1,NM,hx,Yk,hWl,k⟩:=h;have Pe:Dg:=UF;show Qt (rJ (UC (xsF Ns Na Nw Nr R) Ns Ty π) 4 xiW.nd (tP PP Pu GP Pe Ν)) ⟨_,rfl,_,rfl,a,x,T,W,rfl,ha,Pm,h1,NM,hx,Yk,hWl,λ l H1 s1 nl hl=>?_⟩;have hB1:=hB.keep λ c o e _=>D4
 have OV:DP:=LB xTC;have QP:uB:=LB xEI;refine xHV l hl (rB Wo K l pZ (xjN B o p d a x T N T0 H1) (SU none hB1 (λ c o e _ _=>e)) (λ i σ H2 _ z9=>by show iN kp z9 (xVt hl OV QP)) ?_ ?_)
 ·rintro i y σ H2 hi ⟨v4,rfl,Pw,kp⟩;show Vf b hb (cZ hi);have OL:xNY i:=Fg hb;obtain⟨dx,r,kk,NB⟩:=Pw.ob;show Ay Vl (xv2 xZ8) FW Vl;show Wp ⟨_,rfl,p,dx,_,rfl,NB,RJ,_,rfl,p,d,_,_,b,8,rfl,Pw,Cm [_,_,_,_] (A9 (wy (Aw bW))) (w6 (xFc 8 (lK Cv))) P3 4000 TJ (Wz (DV NM) Vl (DV rV)),Z9,Pm b (Hi hb),τ H3 SD NJ⟩ (oC ?_ (λ c o e n1 n2=>xHq));rw [cK hb,xeE,xv5,aW,<-Hj];exact SD
 ·rintro σ H2 ⟨v4,rfl,Pw,kp⟩;rw [Fy,Hc] at Pw;exact k H2 Pw λ c o e n1 n2=>B1 D4 n1 n2
def xqv:Uf ["self","bits","text","before","sign","size"] Jac xpC:=Sc
inductive xjO (B:MV) (o:MV) (p:MV) (d:MV) (a:MV) (x:V) (T:Id) (N:Nat) (T0:Nat) (H1:Hp) (i:Nat) (σ:St) (H2:Hp):Prop
 |mk (v4:BV) (v5:BV) (h0:σ=[xCb,Qg,Bm,xAs,v4,v5]) (h1:gN B H2 (pR xNv) N (T0+xW xNv)) (h2:∀c o,xCk=IO->Γ->wx->yf=IO):xjO B o p d a x T N T0 H1 i σ H2
def xfr {fR:MV}(F:xW4 "RunWay.tell" xpC)(Ro:x8z xwh xEo fR fdR)(Y:Wys K mg)(Z:xHn B):AH 8 Jac (xqd true B):=by
 have R:=Y.V.R;show jf Nr Y.V.needrow Nw Y.V.needwin Na Y.needahead Ns Y.needsigns;have X:=R.X;show xXs W S;show vO O Z.ones Pu Z.put M Z.move;have TB:=Z.T;have GP:=xQn P w S W O M TB X;show AQ xqv (λ M7 A outer st H vs Q E hr h=>?_);obtain⟨o,p,d,a,x,T,W,N,T0,rfl,hB,TJ,ha,Pm,h1,NM,hx,Yk,hWl,k⟩:=h;have Pe:Dg:=UF;have NA:Bv:=UF;show E9 (lE (xsK Gd rfl (bP (mJ (xgx Ro X) Ro (UC (xsF Ns Na Nw Nr R) Ns Ty π))) (xHR 4 xqv.nd (xzm 5 xqv.nd xve)) (sQ (tP PP Pu GP Pe (oa C8)) (tP PP Pu GP Pe Ν)))) ⟨_,rfl,_,rfl,a,x,T,W,rfl,ha,Pm,h1,NM,hx,Yk,hWl,λ l0 H0 s0 n0 Vq=>?_⟩ ⟨l0,T,rfl,Vq,NM,λ l ts H1 s01 X' hl TQ=>?_⟩;have s1:=xZH;have nl:Ξ:=EF X';have hB1:=hB.keep λ c o e _=>D4
 have OV:DP:=LB xTC;have QP:uB:=LB xEI;have Sn:=TQ.len;have hok:=xtD NM Pm;have hlen:El pz 64:=by
  show wB (xqF (rs:=pz) λ q hq=>(xtV hq).1) xye (FK this NM)
 obtain⟨dxp,rp,kp',hpp⟩:=hB1.ob;obtain⟨dxd,Bd,rd,kd,_,hdd,_⟩:=id hB1;refine xHV l hl (rB Wo K l Fl (xjO B o p d a x T N T0 H1) (EE none none hB1 (λ c o e _ _=>e)) (λ i σ H2 _ z9=>by show xK1 kp z9 (xVt hl OV QP)) ?_ ?_)
 ·rintro i y σ H2 hi ⟨v4,v5,rfl,Pw,kp⟩;show Vf t ht (xrR hi);show Zy q hq Vl (TQ.at ht) OL (i<(pz).length) (Fg hq);show Zy q1 q2 q3 (hok q (Hi hq)) ntp (DO t) (xGL hpp (by show Τ));have ntd:t≠d:=xGL hdd (by show Τ);show rm Xq (B1 Vl ntp ntd) dx r kk NB Pw.ob;show Ay Xe (xr9 xNv) FW Xe;refine⟨t,_,rfl,x2p,rfl,_,_,rfl,_,_,rfl,rfl,?_⟩;have e1:Ps EU-1=Ps (EU-1):=jH q1;refine kL g2 ⟨_,rfl,p,dx,_,rfl,NB,RJ,_,rfl,_,_,rfl,rfl,?_⟩
  try dsimp only
  rw [e1];show xI ⟨p,d,_,_,EU-1,6,rfl,Pw,Cm [_,_,_,_] (xGh 14 (Aw (RA 14))) (w6 (xHc (xGS (pN 14)))) P3 4000 TJ (Wz (bE hlen) Xe (bE rV)),Z9,(by show EU-1<2^6;lia),λ H3 SD NJ=>Zw⟩;obtain⟨PK,r3,kk3,N1⟩:=SD.ob;show Wp ⟨_,rfl,p,PK,_,rfl,N1,RJ,_,rfl,p,d,_,_,C4,8,rfl,SD,Cm [_,_,_,_] (xGh 14 (Aw (RA 14))) (w6 (xHc (xGS (pN 14)))) (lL 6) 4000 TJ (Wz (bE hlen) Xe (bE rV)),Z9,(by show C4<2^8;assumption),τ H4 XZ QR⟩ (EE _ _ ?_ (λ c o e n1 n2=>US xHq n1 n2));rw [xwY hq,xgE,xv5,aW];have e5:T0+(xW xNv+xW [q])=T0+xW xNv+6+8:=by
   have:xW [q]=14:=by show Af xr9
   exact uL (By [_,_,_] Tm (.n 14) vF (QJ (lL 6)) xzt) (.n 14) Tm (QJ (lL 6)) vF wO
  show LT e5 XZ
 ·rintro σ H2 ⟨v4,v5,rfl,Pw,kp⟩;rw [Fy,Sn,Hc] at Pw;exact k H2 Pw λ c o e n1 n2=>B1 D4 n1 n2
def xaJ:Sp:=λ vs H Q _=>∃o,vs=[y9]/\Zv 2
def xaQ:bS xqB:=Sc
def xhH (F:xT0 "CopyWay.number" xqB):ya xaJ:=by
 show AQ xaQ (λ M7 A outer st H vs Q E hr h=>?_);show B8 o rfl k h (Ax xMr k)
inductive xi2 (B:MV) (vs:NE) (H:Hp) (Q:VK) (Nf:XK):Prop
 |mk (o p d a:MV) (x:V) (T W:Id) (Pp:sE) (N T0:Nat) (h0:vs=[y9,Bw,ω,x]) (h1:xHk B T0) (h2:xGT) (h3:XL=EX) (h4:xIL) (h5:mn 1) (h6:OT) (h7:RI) (h8:xCn) (h9:Rx) (V5:WH (W++T) Pp W T) (Qy:Ft (gN B H' (pP Pp) N (T0+xBg)->Fu (∀c o,W1=IO->Γ->wx->AE=IO))):xi2 B vs H Q Nf
def xly:Uf ["self","bits","text","before","piece"] Jac xpn:=Sc
def xf2 (F:xW4 "CopyWay.tell" xpn)(Y:Wys K mg)(Z:xHn B):sD Jac (xi2 B):=by
 obtain⟨Vi,⟨_,_,Po⟩,⟨_,_,Na⟩,⟨_,_,Ns⟩⟩:=Y;show ZV Nr Vi.needrow Nw Vi.needwin;have X:=Vi.R.X;show xXs W S;show vO O Z.ones Pu Z.put M Z.move;have TB:=Z.T;have GP:=xQn P w S W O M TB X;show DG tl hle X.least (F.ok xly λ M7 A outer st H vs Q E hr h=>?_)
 intro _;obtain⟨o,p,d,a,x,T,W,Pp,N,T0,rfl,hB,TJ,ha,Pm,h1,NM,hx,Yk,hWl,hwk,k⟩:=h;have Pe:Dg:=UF;have Ye:xIq:=UF;show xZ (u9 (sh (xsF Ns Na Nw Nr Vi.R) Ye Ns Ty π) (af (rJ (BI (xme Po Vi) hr Po.m Po.kp Po.b (xH Ty π)) 4 xly.nd (xvx (xa xzV cm)
    (sQ (tP PP Pu GP Pe aj) (tP PP Pu GP Pe xzV))
    (xBw (tP PP Pu GP Pe aj) (tP PP Pu GP Pe xzV) (tP PP Pu GP Pe (xo xzV xHu))))))) ⟨_,rfl,_,rfl,a,x,T,W,rfl,ha,Pm,h1,NM,hx,Yk,hWl,λ l0 H0 s0 n0 Vq=>A3⟩;show wF ⟨_,rfl,_,rfl,a,x,W,T,rfl,xW8,x0J,Yk,Pm,(xU 192 255 hWl),(xU 64 500 NM),λ l P' H1 s01 X' z9 hwk'=>?_⟩ ts hl PU z9;have eP:P'=Pp:=xww hwk' hwk;subst eP;have s1:=xZH;have nl:Ξ:=EF X';have hB1:=hB.keep λ c o e _=>D4
 have OV:DP:=LB xTC;have QP:uB:=LB xEI;obtain⟨gr,YG,VB⟩:=xqM Yk Pm hwk;obtain⟨dxp,rp,kp',hpp⟩:=hB1.ob;obtain⟨dxd,Bd,rd,kd,_,hdd,_⟩:=id hB1;refine xHV l hl (rB Wo K l Fl (λ i σ H2=>∃v4,σ=[xCb,Qg,Bm,xAs,v4]/\gN B H2 (pP xyt) N (T0+xOV)/\∀c o,xCk=IO->Γ->wx->yf=IO) (SU none hB1 (λ c o e _ _=>e)) (λ i σ H2 _ z9=>by show iN kp z9 (xVt hl OV QP)) ?_ ?_)
 ·rintro i y σ H2 hi ⟨v4,rfl,Pw,kp⟩;show Vf t ht (xrR hi);have OL:i<P'.length:=by show Bg eF (Fg ht)
  have ZQ:A7 P' P'[i]:=i';have Vl:=PU.2 i t _ ht ZQ;have hga:=gr.at ZQ;have ntp:DO t:=xGL hpp (by show Τ);have ntd:t≠d:=xGL hdd (by show Τ);show rm Xq (B1 Vl ntp ntd) dx r kk NB Pw.ob;show Ay Xe (xtu xyt) FW Xe;rw [xwY ZQ,xgt,xv5,aW,xb1];generalize P'[i]=xx at*;cases xx with
  |sg s=>
   have hs:EB s:=hga;refine⟨_,rfl,t,_,_,_,rfl,rfl,x2p,tO,rfl,_,rfl,xAG QN h⟩;show ij g2 ⟨_,rfl,p,dx,_,rfl,NB,RJ,p,d,_,_,0,1,rfl,Pw,gQ (Fx TJ (FK Xe (uP (xGa VB NM)))),Z9,Z9,λ H3 SD NJ=>Zw⟩ g2;show rm htt3 (Cz Xq ntp ntd) PK r3 kk3 N1 SD.ob;show Wp ⟨_,rfl,p,PK,_,rfl,N1,RJ,_,rfl,t,_,_,_,rfl,rfl,ND.of htt3,wu,p,d,_,_,s,8,rfl,SD,gQ (Je (Fx TJ (FK Xe (uP (xGa VB NM))))),Z9,hs,τ H4 XZ QR⟩ (oC ?_ (λ c o e n1 n2=>US xHq n1 n2));have e5:T0+(xOV+xW6)=T0+xOV+1+8:=by
    have:xW6=9:=rfl;exact uL (By [_,_,_] Tm (.n 9) vF xMD xzt) (.n 9) Tm xMD vF wO
   show LT e5 XZ
  |cp b z=>
   obtain⟨g1,g2,g3,g4,g5⟩:bO/\xAw/\xS _/\mY/\P5:=hga;refine⟨_,rfl,t,_,_,_,rfl,rfl,x2p,tO,rfl,_,rfl,xGu DQ xt6 EH⟩;show ij q2 ⟨_,rfl,p,dx,_,rfl,NB,RJ,p,d,_,_,1,1,rfl,Pw,gQ (Fx TJ (FK Xe (uP (xGa VB NM)))),Z9,Z9,λ H3 SD NJ=>q2 _ _ ?_⟩ q2;show rm htt3 (Cz Xq ntp ntd) PK r3 kk3 N1 SD.ob;show ij q2 ⟨_,rfl,p,PK,_,rfl,N1,RJ,_,rfl,t,_,_,_,rfl,rfl,ND.of htt3,wu,p,d,_,_,b,8,rfl,SD,gQ (Je (Fx TJ (FK Xe (uP (xGa VB NM))))),Z9,(by show b<2^8;exact IT g2),λ H4 XZ QR=>q2 _ _ ?_⟩ q2;show rm htt4 (US htt3 ntp ntd) dx4 r4 kk4 V1 XZ.ob;have e1:Ps z-3=Ps (z-3):=jH g4;refine⟨_,rfl,p,dx4,_,rfl,V1,RJ,_,rfl,t,_,_,_,rfl,rfl,ND.of htt4,xC4 2,_,_,rfl,rfl,?_⟩
   try dsimp only
   show ug e1 ⟨p,d,_,_,z-3,4,rfl,XZ,Cm [_,_,_,_,_] (xGh 13 (Tv 13 (Aw (.m 13 qS)))) (w6 (xFc 13 (VM 13 (CD 13 qS (RA 13))))) xMD 4000 TJ (Bb (xOx NM) (xOx VB) (Fx Xe (xOx rV))),Z9,(by show z-3<2^4;lia),τ H5 hB5 Q8⟩ (oC ?_ (λ c o e n1 n2=>mf (US xHq n1 n2) n1 n2));have e5:T0+(xOV+xyM (xA1 z))=T0+xOV+1+8+4:=by
    have:xyM (xA1 z)=13:=rfl;exact uL (By [_,_,_] Tm (.n 13) vF (CF xMD 4) xzt) (.n 13) Tm (CF xMD 4) vF wO
   show LT e5 hB5
 ·rintro σ H2 ⟨v4,rfl,Pw,kp⟩;rw [Fy,eF,Hc] at Pw;exact k H2 Pw λ c o e n1 n2=>B1 D4 n1 n2
universe K25
namespace L2
open PySem PySem.Spec PySem.Calls PyProof.Rows QQ PySem.W
def Inv.grown {σ:St}{P c':MV}(I:ST)(hP:wQ P jg)(k:xXS P h')(hc:xyA c')
  (Q0:Ts c' oc) (hP':Ts P (tabObj (ps++more))):lu (upd (wJ P xOi) c' (ET oc c')) TZ:=by
 have hn:A1 c':=I.hok.fresh hc;have nPc:P≠c':=ae hP hn;have at_:∀{b} {u},xJf->qZ P->UI ((upd (wJ P xOi) c' (ET oc c')) b):=λ {b u} e n=>by
  rw [yH hn,sM];exact e
 refine x1b [] (jJ z z) (λ b o _ _ _ e n=>Vs (DH hP n) e) (λ b o _ _ _ e n=>xLM (Vs (DH hP n) e)) (λ b o _ e n=>?_) (λ b o _ e=>?_) (λ b xs e=>at_ e (cD hP (by show Τ))) (λ b o u e=>at_ e (cD hP (by show Τ))) (Fw b qs) (SC m hm) (Fw b u) I.bare
 ·rw [ai (gH a8 hc),ai (DH hP n)];exact n
 ·by_cases z:b=P
  ·show DI z (Bt hP')
  ·show A5 o (Vs z e)
 ·by_cases z:b=P
  ·show D5 z hP e e;show A5 more (by rw [ai nPc,ad])
  ·show A5 #[] (by show CR (at_ e z))
 ·show Cc o es ep ho r hm ⟨o,es,ep,iE o (DH hP I.free) ho,r⟩
 ·by_cases z:b=c'
  ·show D5 z ad e e;exact⟨Q0,oc,Q0⟩
  ·rw [ai z] at e;by_cases y:b=P
   ·show D5 y ad e e;exact hP'
   ·rw [ai y] at e;refine xy3 b u e (λ c v hcb q=>k c v ?_ q) (λ c q=>at_ q (aF q hP (by show Τ))) (λ c xs q=>at_ q (aF q hP (by show Τ)))
    rcases hcb with hcb|hcb
    ·show LT hcb y
    ·exact aF hcb hP (by show Τ)
def xvT (P:MV)(H H':Hp):Prop:=∀c o,EC P->W1=IO->AE=IO
def xvH (P:MV)(pos:Pos)(qual:Str)(H:Hp):Prop:=∃ps,wQ P jg/\(ps=#[]\/∃c' oc vs t,ps=#[x6K,x7d,gF]/\wQ c' (ET oc c')/\oc.data=xKz/\Aq vs 1 (.str qual t))
def xvH.same (h:xXE H)(s:Ι):xXE H':=by
 show Bq ps e h h (AG ps (E6 e));rcases h with h|⟨c',oc,vs,t,a,b,r⟩
 ·show BB h
 ·show CU ⟨c',oc,vs,t,a,E6 b,r⟩
def xej (pos)(v):aU (codeAmong pos [x6K,x7d,v]):=by
 have:=codeAmong_snoc (c:=v) (pos:=pos) [] trivial rfl;show jk
def xie {M6:χ}{σ:St}(I:ST)(T:x3O yU H)
  (V9:X.env.code=qI) (C:xVQ X.base P) (hbm:∃bm o,x5r=TD bm/\x1c bm/\x0w bm/\x7e=IO/\o.cls=xY5/\x1V/\x1R)
  (hdef:x5X X.env=([],[])) (ZP:x2D=pure clos)
  (h:∀(f c':MV) (pm X3:MW) (H':Hp) (s':MX),Wg->xBp f->iu f (xXD yU clos pm c' X3)->s'.heap.CodeRec gF yU->
   (∃oc vs t,SL (H' c') (ET oc c')/\oc.data=xKz/\Aq vs 1 (.str yU t))->x3O yU H'->xvT P H H'->Q yv s'):
  pM (Zh (x7f body scope pos)) Q E s:=by
 show wF (kla_eval hdef ?_) ps hP T T;have hPo:wR P (tabObj ps):=qK P hP;have M:=I.ok.mod;have hg:s.heap.Ns mainGlobals X.mg:=M.glob.keeps I.bk;have hgP:mainGlobals≠P:=Re (by
  obtain⟨o,es,ep,e,hd,_⟩:=hg;show B0 hPo e e;cases hd)
 have hb:s.heap.BuiltinsAt X.mg P:=by
  obtain⟨bm,o,b1,b2,b3,b4,b5,b6,b7⟩:=hbm;refine⟨bm,o,b1,b2,b3,xw,I.bk _ _ b4,b5,b6,b7⟩;show xCx (I.bk _ _ b4) hPo;cases b5
 rcases T with rfl|⟨c',oc,vs,t,rfl,hc',d1,d2⟩
 ·refine kla_makeFunction ZP I.ok.glob hg V9 x6h hPo trivial rfl hgP hb λ c' X3 h' tk hx OO M8 hrec htb=>?_
  obtain⟨c2,oc,vs,t,e2,Q0,d1,d2⟩:=hrec;cases e2;have I1:=I.grown (t':=tk) hP hx OO Q0 htb;have hn:A1 c':=I.hok.fresh OO;have nPc:P≠c':=ae hP hn;have I2:=xK9 tk (h':=h'.push (xXD yU clos x2Q c' X3)) (λ b u e=>rR)
  have hoc2:wH (h'.push (xXD yU clos x2Q c' X3)) c' oc:=Qz Q0;refine x7g c' _ X3 _ _ I2 x2M vq (Fb c' oc vs t hoc2 d1 d2) ⟨oc,vs,t,ad,d1,d2⟩ (Ax (by rw [ai nPc,ad]) (.inr ⟨c',oc,vs,t,Z6,ad,d1,d2⟩)) λ b o n e=>?_
  rw [yH hn,sM];exact e
 ·have Q0:wR c' oc:=(qK _ hc').1;refine kla_makeFunctionHit ZP I.ok.glob hg V9 x6h hPo (by simp [TriplesOk,rawInt]) (xej pos _) hb λ X3 h' tk hk hsz=>?_
  have I2:=I.kept (t':=tk) (h':=h'.push (xyj "function" (.func (xYG yU params body scope clos x2Q gF X3)))) λ b u e=>Qz (hk b u e)
  refine x7g c' _ X3 _ _ I2 (xQO hsz hsz) vq (Fb c' oc vs t (Qz (hk _ _ Q0)) d1 d2) ⟨oc,vs,t,hc',d1,d2⟩ (Ax hP (.inr (Fb c' oc vs t hc' d1 d2))) λ b o n e=>e
def xwS (X:Cx) (N:An) (qual:Str) (scope:Scope) (cl:fg) (f:MV) (cd:MW) (A:M1) (s:MX) (H:Hp):Cx where
 prog:=X.prog
 w:=X.w
 K:=X.K
 mg:=X.mg
 base:=X.base
 A:=A.deeper (xVU f cd cl)
 N:=N
 s₀:=s
 H₀:=H
 env:=xVU f cd cl
 outer:=X.stack
 stack:=xVU f cd cl::X.stack
 ex:=[]
 calm:=true
 fn:=λ _=>false
 pn:=[]
 xe:=jb
structure xqW (X:Cx)(y:Str)(Nc:An)(scope:Scope)(cl:fg)(js:Id):Prop where
 kind:xDY
 co:Ρ scope.isCoroutine
 gen:Ρ scope.isGenerator
 nocell:xHg
 par:xQX y
 clos:x2D=pure cl
 sub:∀x c,xDJ x c->PX
 has:∀x,(xVL x\/xKa x .free)->∃c,xDJ x c
 len:js.length=Nc.length
 slot:pk i x Str j Nat (vw Nc->A7 js j->yO X.N x/\xXP x .cell/\xKa x .free/\∀c,PX->xDJ x c)
def xsr (js:Id) (σ:St) (v:V):St:=wA::xWU j (xEm (σ[j]?))
def xai {σ:St}(I:ST)(C:xqW X y Nc scope cl js)(r:fZ)
  (hn:x46 (Re (([(y,u)]:gP MW).reverse.lookup z))) (hk:∀b o,Bc=IO->WE=IO):
  t8 (xwS X (y::Nc) qual scope cl f cd X.A.in1 s H) (xsr js σ v) H TZ:=by
 have e0:=I.env0.in1;have noA:∀b,b∉(xwS X (y::Nc) qual scope cl f cd X.A.in1 s H).ex:=px b z (jr b ([]:υ) z) Z6
 have sub:∀{x} {c},SL (x67 (xwS X (y::Nc) qual scope cl f cd X.A.in1 s H)) c->PX:=λ {x c} e=>C.sub x c e
 refine⟨⟨I.ok.mod,C.kind,rfl,rfl,UV,λ x z c e1 e2=>I.ok.inj x z c (sub e1) (sub e2),λ x hx=>C.has x hx,λ x c e _=>(by cases e),e0.qt,x4w,eQ,
  px b z z xFj,I.bs,e0.bsz,λ b _ _=>xFj,px b z z xFj,e0.funs,e0.frf⟩,
  rfl,I.bare,x0G,Ax hn (λ i x v' h1 h2 h3=>?_),Fw x c,pD,λ x c e=>xNn xMl,px p hp (jr p ([]:χ) hp) Z6,x7C,?_⟩
 ·cases i with
  |zero=>
   have PJ:SL (some y) x:=h1;cases PJ;have T6:SL (some wA) x0S:=h2;cases T6;refine⟨u,r,x25 C.par⟩;show UI (([(y,u)]:gP MW).reverse.lookup y);simp [List.lookup]
  |succ i=>
   have PJ:vw Nc:=h1;have T6:A7 (xWU j (xEm (σ[j]?))) x0S:=h2;rw [Gs] at T6;cases ej:js[i]? with
   |none=>show Μ ej T6 T6
   |some j=>
    rw [ej] at T6;have h3':SL (xEm (σ[j]?)) v':=Gg T6;obtain⟨hj1,ZM,Uc,hc⟩:=C.slot i x j PJ ej;have Sg:yO σ x0S:=by
     cases e:σ[j]? with
     |none=>show vR h3' h3'
     |some w'=>show ρ e h3' (xyP h3')
    obtain⟨mo,hno,hl⟩:=I.loc;show Bq u' r' l (hl j x v' hj1 Sg (.inr (.inl ZM))) (AG u' r');rcases l with⟨q,_⟩|⟨_,c,ec,o,ho,hd⟩
    ·have q':xIQ:=q;show Μ ZM q' q'
    ·show CU ⟨.inr Uc,c,hc c ec,o,hk c o ho,hd⟩
 ·show Bj v' o ho hd (xNq xMl) ⟨v',o,hk c o ho,hd⟩
 ·show B4 (wA::xWU j (xEm (σ[j]?))) (y::Nc).length;rw [F2,Fy,C.len,F2]
def xig {X:Cx}{M6:χ}{σ:St}{H:Hp}{s:MX}{y:Str}{Nc:An}{qual:Str}{params:Arguments}{body:M3}{scope:Scope}{cl:fg}{js:Id}{f c':MV}{pm X3:MW}{te:TE}{k:Nat}{v:V}{u:MW}{Q:VK}{E:AB}
  (I:ST) (C:xqW X y Nc scope cl js) (hr:xyL (k+2)) (hf:wR f (xXD qual cl pm c' X3)) (Q9:s.heap.CodeRec gF qual)
  (Uy:∀u,x1H (xYG qual params body scope cl pm gF X3) Zo=pure [(y,u)]) (r:fZ)
  (he:PE (xwS X (y::Nc) qual scope cl f gF X.A.in1 s H) body te) (hq:te (xsr js σ v) H Q):
  x0V xN3 DB E s:=by
 have hd:x0u X.A.in1.depth:=(show M' (k+1) X.A.in1 from hr.in1).depth;show rE (Lp (kla_callFunE hd hf rfl C.co C.gen rfl Q9 ?_)) Uy (F3 (wpAny_newFunctionEnv C.nocell (SC z hz) (λ h₁ hns hsb=>Fh ((I.ok.mod.nolimit.keeps I.bk).fresh _ hsb)) C.kind))
 ·show Qe hz C.par
 show codeAny _ _ (.expr body (xVU f gF cl)) _ _;have hk₁:∀b o,Bc=IO->h₁.get? b=IO:=λ b o e=>x8a o xMz rR
 refine kla_codeExpr (Z0 (he [] _ (xsr js σ v) H Q (xai I C r hns hk₁) hq) (nA w' hs) z xDx);show Cc v' H' J r' q hs (I.after ⟨v',H',J.os,J.bare,J.base,J.hok,r',q⟩)
def xrE.at (f:DA b)(n:Oo):xBp b:=⟨n,f.2⟩
def xgT {X:Cx}{M6:χ}{σ:St}{H:Hp}{l f I S:MV}{xs:NE}{of:M4}{Q:VK}{E:AB}(kf:Ct Int)(hh:xuN)(hq:Ng X.K H l xs)(hf:∀v,of.data≠ xz1)
  (step:∀(N4:χ) (s':MX) (H':Hp) (i:Nat) (v:V) (u:MW),xCH H' s'->iu f of->Ι->TO->fZ->
   x0V xN3 (xxd X N4 σ λ r H''=>r=xDd i/\C' H' H'') jb s')
  (fin:pk i v V H' Hp (TO->(∀j,xCi->iX≤xIh/\(j<i->iX<xIh))->Ι->xCd)) (hSI:S≠I):
  ∀(r j i:Nat) (s':MX) (H':Hp) (vb:V) (ub:MW) (tb:Tok) (c:Nat),WL (j+1)=r->xyq (j+1)->Wg->Ι->xBp I->xBp S->xBp f->f≠I->f≠S->
   iu f of->iu S (jF #[ub,xDd i tb] c)->s'.heap.IsListIter I l (j+1)->A7 xs vb->RelV vb ub->xCB->(∀j',O2 j'->iX≤kf j'/\(j'<i->iX<kf j'))->
   xSz X.A (.builtin "min.loop" (WD [.ref I,yv,.ref S])) (λ r Qj=>match r with| .ok (.ret v)=>DB v Qj| .ok _=>False| .error e=>E e Qj) s':=by
 have Ux:(x7h++x6i:String)="min.loop":=Z9;intro r
 induction r with
 |zero=>
  intro j i s' H' vb ub tb c hr hj J sm fI fS ff nfI nfS hfo hSo hit hvb rb ZO SJ;have hin:xyJ (j+1):=FA hj (xC7 hr);show xyo rv pl hz (J.list (sm.seq hq));show AO OL;have hlI:ZZ I:=Re (by
   obtain⟨o,e,hc,n,hd⟩:=pl.isList;obtain⟨o2,e2,ec,ed⟩:=hit;rw [z,e2] at e;have e':=Gg e;rw [<-e',ed] at hd;cases hd)
  have W:=x1Q (w:=X.w) (A:=X.A.in1) hh I l hlI its.toArray;have hsz:xYt:=F1 ..;refine Lf Lm ?_;rw [LQ IL _];show ur (xEf (.ref S) _);show AR (KN hSo rfl ?_);show ur (xEp (xZO I)>>= _);show AR (KO (W.done _ _ _ ⟨by rw [hsz,<-OL,<-hin];exact hit,pl.isList⟩ (dC tk' ZN)));have J1:jN {s' with heap:=h',toks:=tk'}:=J.turned (it:=I) (λ b o n e=>ZN b o (by simpa using n) e) fI.1 (A4 fI) (kK fI) (YV fI) (iK fI);have hS':=ZN S _ (by simpa using hSI) hSo;show ur (updateSeq S (λ _=>#[])>>= _);show AR ?_;refine xYK hS' (FG (L5 vD));exact⟨vb,H',J1.turn fS,rb,fin i vb H' hvb (λ j' hj'=>SJ j' (rS [_,_,_] 2 On (pV Ψ) LE Os hin.symm hj')) sm⟩
 |succ r ih=>
  intro j i s' H' vb ub tb c hr hj J sm fI fS ff nfI nfS hfo hSo hit hvb rb ZO SJ;have M8:xyu (j+1):=Ly hr;show xyo rv pl hz (J.list (sm.seq hq));show AO OL;have hlI:ZZ I:=Re (by
   obtain⟨o,e,hc,n,hd⟩:=pl.isList;obtain⟨o2,e2,ec,ed⟩:=hit;rw [z,e2] at e;have e':=Gg e;rw [<-e',ed] at hd;cases hd)
  have W:=x1Q (w:=X.w) (A:=X.A.in1) hh I l hlI its.toArray;have hsz:xYt:=F1 ..;refine Lf Lm ?_;rw [LQ IL _];show ur (xEf (.ref S) _);show AR (KN hSo rfl ?_);show ur (xEp (xZO I)>>= _);show AR (KO (W.item (j+1) _ _ _ (by show LT hsz (FZ M8 OL)) ⟨hit,pl.isList⟩ λ u h' tk' hP Sw ZN=>?_));have hu:Aq its (j+1) u:=by simpa using hP
  show aE oI' YJ Q0 hod Sw.1;show SX v hv rvu v (Aq xs (j+1) v/\fZ) (by
   obtain⟨u',e3,r3⟩:=xHP (j+1) xs[j+1] (FL M8);show zL hu e3 e3 (Ax (FL M8) r3))
  have J1:jN {s' with heap:=h',toks:=tk'}:=J.turned (it:=I) (λ b o n e=>ZN b o (by simpa using n) e) fI.1 (A4 fI) (kK fI) (YV fI) (iK fI);have hS':=ZN S _ (by simpa using hSI) hSo;have hf':=ZN f _ (by simpa using nfI) hfo;have Jp:=J1.pinned (fp:=[I,S,f]) (BA (by
   show UN
   ·exact fI
   ·show UN
    ·exact fS
    ·show Qe hb ff)) (BA (by
   show UN
   ·exact Ax YJ (λ v z=>by show Μ hod z z)
   ·show UN
    ·exact Ax hS' xs8
    ·show Qe hb (Ax hf' hf)))
  show ur (xEp (xMQ u xN3)>>= _);show AR (KO (HR (Z0 (step _ _ H' (j+1) v u Jp hf' sm hv rvu) (τ x Qj he) hF hF.elim)));obtain⟨rv',H2,J2p,rr,re,sm2⟩:=he;subst re;show x5 t2 t (x=VU (kf (j+1))) rr;have pin:∀{b:MV} {o:M4},b∈ [I,S,f]->WE=IO->x7i=IO/\WF (H2 b):=λ {b o} hb e=>by
   have:=J2p.pin (b,o) CP;show A5 xMX x3v
  show CQ gI nI (xFS YJ) gS nS (xFS hS');show xHZ gf nf (xFS hf') J2 J2p.unpinned;have sm02:=sm.trans sm2;have YL:Qj.heap.IsListIter I l (j+1+1):=⟨oI',gI,Q0,hod⟩;show ur (xEp (holding [u,oY (j+1)] (richCompare .Lt (oY (j+1)) (xDd i tb)>>= _))>>= _);show lG (KO (HR (FG (CmpOf.ints_lt (prog:=X.prog) (w:=X.w) (A:=X.A.in1) (P:=λ i v=>∃t,v=VU iX) kf (λ i v h=>h) (j+1) i _ _ _ _ _ (Ex t2) (Ex tb) ?_)))) (HR (JD ?_));show AR (L5 vD);by_cases Ow:kf (j+1)<iX
  ·show xyH c2 hc2 c2 (wH (x6q (xQo #[u,oY (j+1)])) S (jF #[u,oY (j+1)] c2)) (Bt (Lb gS λ _=>#[u,oY (j+1)]));simp only [Ow,decide_true,if_true];show AR ?_;refine xYK gS (FG xTQ);rw [Ux];have fS2:=x1q;refine F3 ⟨xQ2 _,ih (j+1) (j+1) _ H2 v u t2 c2 (x5Y hr) M8 x6L sm02 xZ9 fS2 x0a nfI nfS ?_ hc2 ⟨oI',?_,Q0,hod⟩ hv rvu UV (SC j' hj')⟩
   ·show xKy S _ f=_;show OK _ nfS gf
   ·show xKy S _ I=_;show OK _ hSI.symm gI
   ·by_cases e:j'=j+1
    ·subst e;show A5 x7M (rh h Xa)
    ·have:=SJ j' Z5;show A5 (Int.le_trans (MT Ow) xMX) (λ _=>Int.lt_of_lt_of_le Ow xMX)
  ·simp only [Ow,decide_false,IJ,K1];show AR xTQ;show Η Ux (F3 ⟨xQ2 _,ih (j+1) i _ H2 vb ub tb c (x5Y hr) M8 J2 sm02 xZ9 x1q x0a nfI nfS gf gS YL hvb rb (HL ZO) (SC j' hj')⟩);by_cases e:j'=j+1
   ·subst e;show A5 (Int.not_lt.mp Ow) (λ _=>Z5)
   ·exact SJ j' Z4
def xaE {X:Cx}{M6:χ}{σ:St}{H:Hp}{s:MX}{l f:MV}{xs:NE}{of:M4}{Q:VK}{E:AB}(I:ST)(kf:Ct Int)(hh:xuN)(hq:Ng X.K H l xs)(OZ:xyu 0)(hf:∀v,of.data≠ xz1)(ff:DA f)(hfo:wR f of)
  (step:∀(N4:χ) (s':MX) (H':Hp) (i:Nat) (v:V) (u:MW),xCH H' s'->iu f of->Ι->TO->fZ->
   x0V xN3 (xxd X N4 σ λ r H''=>r=xDd i/\C' H' H'') jb s')
  (fin:pk i v V H' Hp (TO->(∀j,xCi->iX≤xIh/\(j<i->iX<xIh))->Ι->xCd)):
  pM (xuL "min" [A8] dP) DB E s:=by
 have Ux:(x7h++x6i:String)="min.loop":=Z9;show qX rv pl;show AO OL;have XT:xuC l:=by show xO5 o e pl.isList a8
 refine kmk_tree PySem.F.kind_min PySem.F.plain_min PySem.F.entry_min (kmk_min_key _ _) ?_;show xKs X.A.in1 (x4t ["key","default"] 0 ⟨[],dP⟩>>= _) s;show lG (xZS (Sd (x4t ["key","default"] 0 ⟨[],dP⟩) (pure [ik,none]))) vD;show lG (x6z pl.isList) (xQQ AM);rw [Ux];have hS:xDH #[A8,UZ]=K':=size_push' ..;have hlI:xyz l:=Hf XT;have hSI:xyz (xDH #[A8,UZ]):=by show LT hS (JB (HW _))
 refine F3 (Fh (xQ2 _));have Qx:∀b o,Bc=IO->lO (xGv #[A8,UZ] 0)=IO:=λ b o e=>Qz rR
 have gI:wH (xGv #[A8,UZ] 0) s.heap.objs.size (xQu "list_iterator" #[A8,UZ]):=
  Qz vq
 have gS:wH (xGv #[A8,UZ] 0) (xDH #[A8,UZ]) (jF #[] 0):=vq;have fI:DA s.heap.objs.size:=I.fpOk UV pD;have fS:DA (xDH #[A8,UZ]):=xQO (by show LT hS xF0) (by show LT hS xF0);have nfI:xyz f:=Hf (Gk hfo);have nfS:f≠xDH #[A8,UZ]:=by show LT hS (Hf (J9 (Gk hfo)))
 have J0:xNB (xGv #[A8,UZ] 0):=xS7 Qx;have ZK:(xGv #[A8,UZ] 0).IsList l its.toArray:=by
  show B8 o e r pl.isList (rH (Qx _ _ e) r)
 have hf0:=Qx _ _ hfo;show xuB (xDH #[A8,UZ]) S (xGv #[A8,UZ] 0) h0;generalize s.heap.objs.size=Ia at*;have W:=x1Q (w:=X.w) (A:=X.A.in1) hh Ia l hlI its.toArray;have hsz:xYt:=F1 ..;refine Lf Lm ?_;rw [LQ IL _];show ur (xEf (.ref _) _);show AR (KN gS rfl ?_);show ur (xEp (xZO Ia)>>= _);show AR (KO (W.item 0 _ _ _ (by show LT hsz (FZ OZ OL)) ⟨Wm _ gI,ZK⟩ λ u h' tk' hP Sw ZN=>?_));have hu:Aq its 0 u:=by simpa using hP
 show aE oI' YJ Q0 hod Sw.1;show SX v hv rvu v (Aq xs 0 v/\fZ) (by
  obtain⟨u',e3,r3⟩:=xHP 0 xs[0] (FL OZ);show zL hu e3 e3 (Ax (FL OZ) r3))
 have J1:xG (vj h' tk'):=Inv.turned (s:=vk h0) (it:=Ia) J0 (λ b o n e=>ZN b o (by simpa using n) e) fI.1 (A4 fI) (kK fI) (YV fI) (iK fI);have hS':=ZN S _ (by simpa using hSI) gS;have hf':=ZN f _ (by simpa using nfI) hf0;have Jp:=J1.pinned (fp:=[Ia,S,f]) (BA (by
  show UN
  ·exact fI
  ·show UN
   ·exact fS
   ·show Qe hb ff)) (BA (by
  show UN
  ·exact Ax YJ (λ v z=>by show Μ hod z z)
  ·show UN
   ·exact Ax hS' xs8
   ·show Qe hb (Ax hf' hf)))
 show ur (xEp (xMQ u xN3)>>= _);show AR (KO (HR (Z0 (step _ _ H 0 v u Jp hf' xzb hv rvu) (τ x Qj he) hF hF.elim)));obtain⟨rv',H2,J2p,rr,re,sm2⟩:=he;subst re;show x5 t2 t (x=VU (kf 0)) rr;have pin:∀{b:MV} {o:M4},b∈ [Ia,S,f]->WE=IO->x7i=IO/\WF (H2 b):=λ {b o} hb e=>by
  have:=J2p.pin (b,o) CP;show A5 xMX x3v
 show CQ gI2 nI (xFS YJ) gS2 nS (xFS hS');show xHZ gf2 nf (xFS hf') J2 J2p.unpinned;show xyH c2 hc2 c2 (wH (x6q (xQo #[u,oY 0])) S (jF #[u,oY 0] c2)) (Bt (Lb gS2 λ _=>#[u,oY 0]));show ur (updateSeq S (λ _=>#[u,oY 0])>>= _);show AR ?_;refine xYK gS2 ?_;rw [Ux];have fS2:=x1q;refine F3 ⟨xQ2 _,xgT kf hh hq hf step fin hSI _ 0 0 _ H2 v u t2 c2 rfl OZ x6L sm2 xZ9 fS2 x0a nfI nfS ?_ hc2 ⟨oI',?_,Q0,hod⟩ hv rvu UV (SC j' hj')⟩
 ·show xKy S _ f=_;show OK _ nfS gf2
 ·show xKy S _ Ia=_;show OK _ hSI.symm gI2
 ·have e:j'=0:=(uv (By AV LE Cy LE Cy hj'));subst e;show A5 x7M (rh h Xa)
inductive xkU (K:Frag) (P:MV) (pos:Pos) (qual:Str) (js:Id) (te:TE) (σ:St) (Q:VK) (zs:NE) (H1:Hp):Prop
 |mk (p:MV) (xs:NE) (kf:Ct Int) (h0:zs=Bf) (h1:TX H1 p) (h2:xyu 0) (h3:xXE H1) (h4:(∀c xs,TX H1 c->EC P)) (h5:∀H2,xvT P H1 H2->xXE H2->(pk i v V H' Hp (TO->dz H'->te (xsr js σ v) H' λ r H''=>r=xDd i/\C' H' H''))/\pk i v V H' Hp (TO->(∀j,xCi->iX≤xIh/\(j<i->iX<xIh))->dz H'->xCd)):xkU K P pos qual js te σ Q zs H1
def xcr (K:Frag)(P:MV)(pos:Pos)(qual:Str)(js:Id)(te:TE)(t:TA):TE:=λ σ H Q=>SY zs (xkU K P pos qual js te σ Q zs H1)
def xaD {X:Cx}{k:Nat}{e:M3}{body:M3}{te:TE}{p:Pos}{kp:Pos}{pos:Pos}{YF:Pos}{y:Str}{Nc:An}{scope:Scope}{params:Arguments}{cl:fg}{js:Id}{P:MV}{c:MV}{t:TA}(hn:xuN)(hr:xyL (k+2))(hg:xze "min")(hm:kH "min")(C:xqW X y Nc scope cl js)(V9:X.env.code=qI)(hC:xVQ X.base P)
  (hbm:∃bm o,x5r=TD bm/\x1c bm/\x0w bm/\x7e=IO/\o.cls=xY5/\x1V/\x1R)
  (hdef:x5X X.env=([],[])) (Uy:∀(pm cd ct u:MW),x1H (xYG yU params body scope cl pm cd ct) Zo=pure [(y,u)])
  (he:∀f c' s H,PE (xwS X (y::Nc) yU scope cl f gF X.A.in1 s H) body te) (ha:iy [e] t)
  (hee:Κ (xzn (e:: [])=wo::xzn [])) (Rp:x4g)
  (NC:Κ ((backToKw pos (keywordEach [⟨some "key",.Lambda params body scope YF,kp⟩] X.env)).all (·.1.isSome)=true))
  (hkw:Κ ((backToKw pos (keywordEach [⟨some "key",.Lambda params body scope YF,kp⟩] X.env)).any (·.1.isNone)=false))
  (hfm:Κ ((backToKw pos (keywordEach [⟨some "key",.Lambda params body scope YF,kp⟩] X.env)).filterMap (·.1)=[("key":Str)])):
  rf "min" p [e] [⟨some "key",x7f body scope YF,kp⟩] (xcr X.K P YF yU js te t):=by
 intro M6 s σ H Q I h;show Wp (IC (xJx (show xDn "min" (.builtin "min") from Z8) ?_)) (x40 e (rest:=[]) xIG hee Rp NC hkw);show xNA vs;obtain⟨l,xs,kf,rfl,hq,OZ,hT,hnP,q⟩:=q1;show ie u ru (xq5 r1);obtain rfl:u=Value.ref l:=ru;refine kws_cons (xie I1 hT V9 hC hbm hdef C.clos λ f c' pm X3 H2 s2 I2 ff hfo Q9 hrec Xj sT=>kws_nil ?_);rw [hfm];obtain⟨qs,qf⟩:=q H2 sT Xj;show qL (xuL "min" [A8] dP) s2;have Sf:Ng X.K H2 l xs:=by
  rcases hq with hq|hq
  ·rcases hq with z|⟨o,z⟩
   ·show BB (.inl (C5 (hnP l xs (.inl (.inl z))) z))
   ·show BB (qG o (C5 (hnP l xs (.inl (qG o z))) z))
  ·show CU hq
 refine xaE I2 kf hn Sf OZ (λ v z=>by cases z) ff hfo (λ N4 s' H' i v u J hfo' sm hv ru=>?_) qf;obtain⟨oc,vs',t,hc,d1,d2⟩:=hrec;have Q0:iu c' oc:=(J.hok _ _ (yA hc)).1;exact xig J C hr hfo' (Fb c' oc vs' t Q0 d1 d2) (λ u=>Uy _ _ _ u) ru (he f c' s' H') (qs i v H' hv sm)
def y'.weak {K:Frag}(F:xJG k sp)(h:∀vs H Q E,sp' vs H Q E->qr):xJG k sp':=
 ⟨λ vs H Q E z=>F.len vs H Q E (jv _ _ z),λ A outer s H args us vs Q E hr e0 hb r z=>xSM A s H args us vs Q E hr e0 hb r (jv _ _ z)⟩
inductive xlw (P:MY) (w:MZ) (K:Frag) (mg:Β) (base:M2) (k:Nat) (m:Str) (t:TA) (σ:St) (Q:VK) (x:V) (H1:Hp):Prop
 |mk (a C dx:MV) (fs:qw) (f:MV) (fd:M0) (ps:An) (sp:Sp) (h0:x=ω) (h1:H1 a=rW) (h2:xZr m) (h3:yZ) (h4:xI3 m f) (h5:xJy k) (h6:de) (h7:t σ H1 λ vs H2=>sp (x::(vs++[])) H2 Q E0):xlw P w K mg base k m t σ Q x H1
def xnR (P:MY)(w:MZ)(K:Frag)(mg:Β)(base:M2)(k:Nat)(m:Str)(ta:TE)(t:TA):TE:=λ σ H Q=>qg (xlw P w K mg base k m t σ Q x H1)
def xow {X:Cx}{o:M3}{e:M3}{es:zq}{m:Str}{apos:Pos}{pos:Pos}{k:Nat}{ta:TE}{t:TA}{P:MY}{w:MZ}{K:Frag}{mg:Β}{base:M2}{pl:cX}(hP:X.prog=P)(hw:X.w=w)(hK:X.K=K)(hmg:X.mg=mg)(Xi:X.base=base)(he:sU)(hr:RS)(ha:uC)
    (OR:Κ (lV=wo::lp)) (OE:ja)
    (ht:Κ (fQ o m Fv=(do
      let ov<-ZT
      xuE
      let(f,first)<-xuG uR ov m pl
      nJ f Fv))):
    fK o m Fv (xnR P w K mg base k m ta t):=by
  subst hP hw hK hmg Xi
  intro M6 s σ H Q I h
  refine xPx (ag H _ I h u) ht
  obtain⟨x,H1,I1,rx,a,C,dx,fs,f,fd,ps,sp,ex,ea,l,c,hm,F,hb,q⟩:=z9
  subst ex
  obtain rfl:u=tF:=rx
  show Wp xJ4 (JX (first:=CV) (h₀:=X.base) I.ok.mod.kin hm.kp (thn (xRt s1 H1 _ I1 q) (xYO us s2 I2.kIn)) OR OE)
  exact xNX (ω::us) (vs:=ω::vs) F hr hb .nil a7 I2 x3L q2
abbrev xsh (mg:Β)(h:M2):Prop:=∃bm o,mg "__builtins__"=TD bm/\x1c bm/\x0w bm/\h.get? bm=IO/\o.cls=xY5/\x1V/\x1R
def xfQ {K:Frag}
  (KX:K.In s₁.heap) (hns:s₁.heap.Ns mainGlobals mg) (hb:s₁.heap.Ns builtinsNs mb) (hbb:∀x:Str,xGg->mb x=x7p) (hlim:s₁.heap.NoLimit) (hg:s₁.gens=#[])
  (ha:xYN a xMG) (hi:xG4) (hl:x8x) (hr:M' k callerA)
  (hT:xYN Tb (tabObj #[])) (hC:xVQ s₁.heap Tb) (hKT:fU) (hbm:xsh mg s₁.heap)
  (F:∀base:M2,x1k->xOW->uA->qm->xKb P K k fa DM sp) (Uy:∀(s:MX) (u:MW),xAE s Zo [(x,u)])
  (Sq:∀H:Hp,xCP a U7->wQ Tb xD5->xJr->sp CV H (λ v _=>v=kX) xQZ):
  xuP x35 callerA x0Q xT4 (λ r s'=>r=.ok x0Z/\x06/\x3j/\xDq) s₁:=by
 have rv:=xfT hi;have lenV:=hi.length;have naT:xJr:=Re (by show B0 hT ha ha)
 have core:∀H,(∀b,qZ Tb->Ee\/∃ob xs,ke (.frz ob xEq))->wQ Tb xD5->xCP a U7->aP H s₁.heap->(∀b,E5≠none->b=a\/b=Tb)->(XL≠none->WF (K.lookup a))->
   xuP x35 callerA x0Q xT4 (λ r s'=>r=.ok x0Z/\x06/\x3j/\xDq) s₁:=by
  intro H hO hHT hS hok hA hK;have base_of:∀{b} {o},xQ3=IO->Ee->lO xAg=IO:=λ e n=>xgY e n
  have noH:∀{b} {o},xQ3=IO->(b=a->False)->(b=Tb->False)->Ee:=λ {b o} e n1 n2=>by
   cases q:E5 with
   |none=>rfl
   |some u=>
    show Ed (hA b (by show CR q))
    ·show UO (n1 z)
    ·show UO (n2 z)
  have noA:∀{b} {o} {es:Array DictEntry} {ep:Nat},xQ3=IO->xAj (xVC es)->Ee:=λ {b o es ep} e d=>noH e (Re (by
   show D5 z ha e e;have d':xYs _=x8g ep:=d;cases d')) (Re (by
   show D5 z hT e e;have d':x6M=x8g ep:=d;cases d'))
  have nsK:∀{b} {m},s₁.heap.Ns b m->(xAg).Ns b m:=λ {b m} ⟨o,es,ep,e,d,r⟩=>⟨o,es,ep,base_of e (noA e d),d,r⟩
  have hKb:K.In xAg:=λ b o e=>base_of (KX b o e) (by
   cases q:E5 with
   |none=>rfl
   |some u=>
    show Ed (hA b (by show CR q))
    ·show D5 z (hK (by show CR q)) e e
    ·show D5 z hKT e e)
  have hM:Mod K mg xAg:=⟨hKb,nsK hns,⟨mb,nsK hb,hbb⟩,let⟨mc,h1,h2⟩:=hlim;⟨mc,nsK h1,h2⟩⟩;have hCb:xVQ xAg Tb:=by
   obtain⟨o,vs',file,tf,flags,tg,inF,text,tt,e1,r1,r2,r3,r4,r5,r6,r7,r8,OZ⟩:=hC;exact⟨o,vs',file,tf,flags,tg,inF,text,tt,base_of e1 (noH e1 (Re (by
    show D5 z ha e1 e1;have r2':xYs _=Data.fields vs':=r2;cases r2')) OZ),r1,r2,r3,r4,r5,r6,r7,r8,OZ⟩
  have hBb:xsh mg xAg:=by
   obtain⟨bm,o,b1,b2,b3,b4,b5,b6,b7⟩:=hbm;exact⟨bm,o,b1,b2,b3,base_of b4 (noH b4 (Re (by
    show D5 z ha b4 b4;have b7':xYs _=Data.plain:=b7;cases b7')) (Re (by
    show D5 z hT b4 b4;have b7':x6M=Data.plain:=b7;cases b7'))),b5,b6,b7⟩
  have e0:xxQ P w K mg xAg callerA [] s₁ H:=⟨rfl,hM,λ b o e=>xa0 e,Fz (xgv _ _),trivial,px b hb (jr b ([]:υ) hb) Z6,hok,.of_eq hg,Dm⟩;refine KU ((F _ hKb (nsK hns) hCb hBb).run callerA [] s₁ H xT4 CV CV _ _ hr e0 (Uy s₁ ω) xTf (Sq H hS hHT naT)) (nA r h)
  cases r with
  |error e=>show pH h
  |ok fl=>
   cases fl with
   |next=>show pH h
   |brk=>show pH h
   |cont=>show pH h
   |ret u=>
    show jx v H' os bare un hok' r' q;have q':v=kX:=q;subst q';obtain rfl:u=Value.bool true:=r';have keep:∀b o,qZ Tb->xQ3=IO->s'.heap.get? b=IO:=λ b o n e=>by
     cases q:E5 with
     |none=>exact un.keep b o e q (by intro z;show AX (jr b ([]:υ) z) Z6) Z6
     |some u=>
      rcases hO b n with z|⟨ob,xs,z⟩
      ·show Μ q z z
      ·have z2:=un.frzs b ob _ z;obtain⟨e1,_⟩:=hok b _ z;obtain⟨e2,_⟩:=hok' b _ z2;show zL e e1 e1 e2
    show S8 more hm (un.tbls Tb #[] hHT) hTo (iu Tb (tabObj (#[]++more))) (hok' Tb _ hm);refine ql ⟨xXA,xXA⟩ os bare
    ·by_cases z:b=Tb
     ·show D5 z hT e e;show CU (.inl (jY (hC.tab hT).isCodeTable #[] more rfl hTo))
     ·show BB (xFP o z e)
    ·by_cases z:b=Tb
     ·show DI z (Bt hTo)
     ·show A5 o (xFP o z e)
 cases hk:x0X with
 |some o=>
  have e:=KX a o hk;show kD ha;refine core (λ b=>xAm b Tb xD5 none) (λ b n=>.inl (FY n)) AD (.inr ⟨_,vs.toArray,_,hk,rfl,rfl,rfl,by rw [F1,lenV];exact hl,by simpa using rv⟩) (τ b u z) (SC b z) (vh z (FY naT) z)
  ·by_cases hb:b=Tb
   ·have z':=xLa (F8 hb);cases z';show nP hT
   ·have z':=xLa xMp;cases z'
  ·by_cases hb:b=Tb
   ·show CU hb
   ·show AX xMp z
 |none=>
  refine core (λ b=>xAm b Tb xD5 (xAm b a (.frz xMG (.lst U7)) none)) (SC b n) AD (.inl (qG xMG (by show(EK a Tb _ _)=_;rw [FY naT,AD]))) (τ b u z) (SC b z) λ _=>hk
  ·by_cases hb:b=a
   ·show CU (Ax _ (xLB n (F8 hb)))
   ·show BB (xLB n xMp)
  ·by_cases hT':b=Tb
   ·have z':=xLa (F8 hT');cases z';show DI hT' hT
   ·by_cases hb:b=a
    ·have z':=xLa (xLB hT' (F8 hb));cases z';show nP ⟨ha,by show Ai hl,vs,_,rv,ha⟩
    ·have z':=xLa (xLB hT' xMp);cases z'
  ·by_cases hT':b=Tb
   ·show CU hT'
   ·by_cases hb:b=a
    ·show BB hb
    ·show AX (xLB hT' xMp) z
def xdG {l:PySem.W.OpenLaw}{K:Params->Frag}{sp:MZ->Sp}
  (hn:xUL n) (Ss:nL n) (hdf:xYZ []) (hr:M' k callerA)
  (hY:∀(w:MZ) (h:M2),YP w h->xFW h/\Tr Tb (tabObj #[])) (hC:∀w:MZ,SB (codeHdIn j8 c Tb)) (hKT:∀w:MZ,yS j8 Tb)
  (F:∀(w:MZ) (mg:Β) (fa:MV) (h:M2),xFW h->OJ->x1m=TD fa->
   ∃fd:M0,(∀(s:MX) (u:MW),xAE s Zo [(x,u)])/\
    ∀base:M2,xFW base->xOW->uA->qm->xKb l.prog j8 k fa DM (sp w))
  (Sq:∀(w:MZ) (H:Hp) (a:MV) (ns:wd),xLO n->Ng j8 H a U7->wQ Tb xD5->xJr->sp w CV H (λ v _=>v=kX) xQZ):
  x6N loose XP YP l.row.toRowW d [] (λ f vs=>xZC vs):=by
 show Ey (Att.xdz hn hdf λ w s₀ s₁ mg mb fa o pm cd doc a vs ns G Y ho hd Q9 hmg hobj hints hlen hg=>?_) KX hT (hY w _ Y);show Zy fd hb hF (F w mg fa _ KX G.T.g hmg) hbm (xsh mg s₁.heap) (by
  obtain⟨bm,ob,b1,b2,b3,b4,b5,b6⟩:=G.T.bmain;refine⟨bm,ob,b1,b2,xw,b3,b4,b5,b6⟩;obtain⟨o,es,ep,e,hd,_⟩:=G.T.g;show B0 e b3 b3;show Μ hd b6 b6)
 exact xfQ KX G.T.g G.T.b G.T.builtins G.T.nolimit hg hobj hints (FK hlen Ss) hr hT (codeHd_of_K KX (hC w)) (hKT w) hbm hF hb λ H hS hHT na=>Sq w H a ns hlen hS hHT na
universe L2
namespace L2
open PySem
def xtL {a b x:Str}{i j k:Nat}(h1: vw [a,b])(h2: A7 [none,some k] (some j)):x=b/\j=k:=by
 rcases i with _|_|i
 ·cases h2
 ·show vS h1 h2;exact vf
 ·cases h1
def slotsL {b c x:Str}{i j k l:Nat}(h1: vw [b,c])(h2: A7 [k,l] j):(x=b/\j=k)\/(x=c/\j=l):=by
 rcases i with _|_|i
 ·show vS h1 h2;show BB vf
 ·show vS h1 h2;show CU vf
 ·cases h1
universe L2
namespace K25
open PySem L2 QQ W17 W16 BP
seal PE PA PS PSs PT PW PG PI
def OX (u:Nat)(W T:Id)(ps:Bo):Prop:=
 match u with
 |0=>ps=Xy
 |1=>ps=x3q T
 |2=>∃Pp,WH (W++T) Pp W T/\ps=pP Pp
 |3=>∃(Pp:sE) (L:Id) (It:xuU) (b:Nat),WH (W++T) Pp W T/\Xm xLq L/\xD8 0 0 It 272 b/\ps=pT++gy
 |_=>False
structure TW (T W:Id):Prop where
 tb:wL T
 one:mn 1
 le:OT
 wb:wL W
 wl:Rx
def Xm.len (h:Xm Q L):tX:=by
 obtain⟨ln,_,rfl,_⟩:=h;simp
theorem OX.uniq {u:Nat}(h:C6)(h':OX u W T ps'):ps=ps':=by
 show xLz u
 ·exact MU h (JG h')
 ·exact MU h (JG h')
 ·show pB P w e h P' w' e' h';rw [e,e',xww w w']
 ·show jx P L It b w sl wi e;obtain⟨P',L',It',b',w',sl',wi',e'⟩:=h';have eP:=xww w w';subst eP;have eL:=sl.uniq sl';subst eL;have hl:=sl.len;rw [<-hl] at wi wi';rw [e,e',xoJ wi wi']
 ·show pH h
def xpd (t:mh){It:xuU}(w:WH (W++T) Pp W T)(sl:Xm xLq L)(wi:xD8 0 0 It 272 b):
  GR W Pp/\xN2 W=W++T/\mn Pp.length/\xRM/\xHo/\(xTi It x)/\xuR 0=L:=by
 show Y3 gr YG VB xXF h1 t.one;have hP1:=xtr w (by show mQ (Iu h1));have tok:=sl.tok gr hP1;exact⟨gr,YG,VB,hP1,tok,x7c wi,xnr tok.len wi⟩
def OX.good {u:Nat}(h:C6)(t:mh):xU1/\Sj≤1712:=by
 have hl:=t.le;show xLz u
 ·have h:ps=Xy:=h;have:=xoQ false T;show LT h ⟨xoE false hl t.tb,Cm [_,_] (WJ 14 LE) (xHc (ER 14)) LE 1712 (bE hl) this⟩
 ·have h:ps=x3q T:=h;have:=xoQ true T;show LT h ⟨xoE true hl t.tb,Cm [_,_] (WJ 14 LE) (xHc (ER 14)) LE 1712 (bE hl) this⟩
 ·show pB P w e h gr YG VB xXF;have:=xtu P;show vU ⟨xog gr,Cm [_,_,_] (WJ 13 (VM 13 LE)) (xFc 13 (WJ 13 (pN 13))) LE 1712 (xOx hl) (Vt (xOx VB))⟩
 ·show jx P L It b w sl wi e;obtain⟨gr,YG,VB,hP1,tok,hIt,hdec⟩:=xpd t w sl wi;have h1:=xp4 tok.six P;have h2:=xr4 0 hIt;rw [hdec,tok.len] at h2;show Η e ⟨SC q hq,by show LT aW (Cm [_,_,_,_] (VM 14 (xGS DD)) (xHc (VM 14 (xGS (.m 3 (.n 272))))) P3 1712 (bE hl) (Bb (bE VB) h1 h2))⟩;show BD hq
  ·exact W13.xdy hIt q z
  ·exact xax tok gr q z
 ·show pH h
def xa3 (S):∀n p,Yx p=n->yK p->∃Pp,YQ Pp S.length:=by
 intro n
 induction n using Nat.strongRecOn with
 |ind n ih=>
  intro p hn hp;by_cases e:me p
  ·show A5 [] e
  ·have M8:xCj:=Hm hp e;have hz:=xq1 M8;show De Pp w (ih (Yx (p+xMh)) Z5 (p+xMh) rfl hz.2) (VT (dw::Pp) M8 w)
def io (W T):∃Pp,WH (W++T) Pp W T:=xa3 _ _ _ rfl (by show mQ (vQ [_,_] LE P3))
inductive spT (u:Nat) (B:MV) (vs:NE) (H:Hp) (Q:VK) (Nf:XK):Prop
 |mk (o p d a:MV) (x:V) (T W:Id) (N T0:Nat) (h0:vs=[y9,Bw,ω,x]) (h1:xHk B T0) (h2:xGT) (h3:XL=EX) (h4:RI) (h5:mh) (h6:∀(ps:Bo) (H':Hp),C6->gN B H' ps N (T0+Sj)->Fu (∀c o,W1=IO->Γ->wx->AE=IO)):xWI vs H Q Nf
inductive spC (u:Nat) (C:MV) (vs:NE) (H:Hp) (Q:VK) (Nf:XK):Prop
 |mk (o dx a:MV) (x:V) (T W:Id) (h0:vs=[y9,ω,x]) (h1:H o=xBf) (h2:XL=EX) (h3:RI) (h4:mh) (h5:∀(ps:Bo) (H':Hp),C6->Ι->mI Sj):spC u C vs H Q Nf
def spN (u:Nat):Sp:=λ vs H Q _=>∃o,vs=[y9]/\uq u
structure xxO (P:MY)(w:MZ)(K:Frag)(mg:Β)(base:M2)(B D C:MV)(u:Nat):Prop where
 cl:yZ
 num:∃f fd,xI3 "number" f/\xF3/\ya (spN u)
 tell:∃f fd,xI3 "tell" f/\ua Jac/\AH 35 Jac xWI
 cost:∃f fd,xI3 "cost" f/\ua xLP/\AH 36 xLP (spC u C)
def xni:Uf ["self","text","before","bits"] xLP xtC:=Sc
def xet (F:Aj "cost" "Way.cost" xtC)(Z:xHn B)(clW:yZ)(Te:xI3 "tell" fT)(bT:Binds K fdT Jac [])(GT:xPe fT fdT Jac xWI):
  AH 36 xLP (spC u C):=by
 have X:=Z.R.X;show xV9;show yd Ma Z.many TB Z.T;show AQ xni (λ M7 A outer st H vs Q E hr h=>?_);obtain⟨o,dx,a,x,T,W,rfl,ho,ha,hx,tw,k⟩:=h;have Ql:oS:=UF;have NA:Bv:=UF;show yy (Fc 3 xni.nd (iW (xlG FI TB) Ql Z7 Z.m bI a7) (aB (xx7 SZ clW Te GT hr bT .nil a7 (WS π PP Ty))) (BN π TB.cl Ma (xg4 Ma.F TB X))) D2
 intro p dp np T4 Ya;have QZ:(UD (O9 dp p) p B dp) p=Tu B dp []:=ad;have s0:ZC (UD (O9 dp p) p B dp):=λ c o e=>by
  rw [yH np,yH T4];exact e
 show DE (EE p dp QZ (λ d H1 nd hB kp=>xOQ));have nd0:A1 d:=EF nd;have s1:mE:=λ c o e=>B1 SH m6
 clear s0 QZ kp;show Ff ⟨_,rfl,o,dx,_,rfl,Ec ho,rfl,_,rfl,_,rfl,_,rfl,o,p,d,a,x,T,W,0,0,rfl,hB,Z9,gO,xZ4,tw,λ ps H2 Vx Pw Sl=>A3⟩;have s2:SR:=λ c o e=>y8 D4 m6 (W2 nd0)
 obtain⟨TL,r2,k2,NB⟩:=Pw.ob;show p9 ⟨_,rfl,p,TL,_,rfl,NB,RJ,p,d,_,_,rfl,Pw,?_⟩ HG (k ps _ Vx s2)
structure xxK (K:Frag)(mg:Β)(C CW:MV):Prop where
 cl:yZ
 mkb:MkB K C
 cost:∃f fd,qW C "cost" "Way.cost" xtC xLP
structure Raw (K:Frag)(mg:Β)(C CW:MV):Prop where
 W:xxK K mg C CW
 m:mg "RawWay"=xM
 num:xUz "RawWay.number" xqG
 tell:∃f fd,qW C "tell" "RawWay.tell" xpv Jac
structure Run (K:Frag)(mg:Β)(C CW:MV):Prop where
 W:xxK K mg C CW
 m:mg "RunWay"=xM
 num:xUz "RunWay.number" xq0
 tell:∃f fd,qW C "tell" "RunWay.tell" xpC Jac
structure Cpy (K:Frag)(mg:Β)(C CW:MV):Prop where
 W:xxK K mg C CW
 m:mg "CopyWay"=xM
 num:xUz "CopyWay.number" xqB
 tell:∃f fd,qW C "tell" "CopyWay.tell" xpn Jac
structure Shr (K:Frag)(mg:Β)(C CW:MV):Prop where
 W:xxK K mg C CW
 m:mg "ShareWay"=xM
 num:xUz "ShareWay.number" xpT
 tell:∃f fd,qW C "tell" "ShareWay.tell" xup Jac
def xxp (F:xJy k)
  (h:∀(o p d a:MV) (x:V) (T W:Id) (N T0:Nat) (H:Hp) (Q:VK) (E:XK),xHk B T0->xGT->XL=EX->RI->mh->
   (∀(ps:Bo) (H':Hp),C6->gN B H' ps N (T0+Sj)->Fu (∀c o,W1=IO->Γ->wx->AE=IO))->sp [y9,Bw,ω,x] H Q E):AH k ps xWI:=by
 refine F.weak λ vs H Q E z=>?_
 obtain⟨o,p,d,a,x,T,W,N,T0,rfl,hB,h0,ha,hx,t,k⟩:=z;exact h o p d a x T W N T0 H Q E hB h0 ha hx t k
def xaW (R0:Raw K mg C CW)(S0:xJ5 G):xxO P w K mg base B D C 0:=by
 show vO N R0.num T R0.tell Co R0.W.cost;have GT:xPe _ _ Jac (spT 0 B):=xxp ((xe5 (P:=P) (w:=w) (base:=base) T.F S0.Y S0.Zb).mono (k:=35) Z9) λ o p d a x T W N T0 H Q E hB h0 ha hx t k=>
  ⟨o,p,d,a,x,T,W,N,T0,rfl,hB,h0,ha,t.tb,t.one,t.le,hx,t.wb,t.wl,λ H'=>iE H' rfl⟩
 exact⟨R0.W.cl,iH _ N.m N.b (xef N.F),iH _ T.m T.b GT,
  iH _ Co.m Co.b xWP⟩
def xbZ (R0:Run K mg C CW)(S0:xJ5 G){fR:MV}{fdR:M0}(Ro:x8z xwh xEo fR fdR):xxO P w K mg base B D C 1:=by
 show vO N R0.num T R0.tell Co R0.W.cost;have GT:xPe _ _ Jac (spT 1 B):=xxp ((xfr (P:=P) (w:=w) (base:=base) T.F Ro S0.Y S0.Zb).mono (k:=35) Z9) λ o p d a x T W N T0 H Q E hB h0 ha hx t k=>
  ⟨o,p,d,a,x,T,W,N,T0,rfl,hB,h0,ha,t.tb,t.one,t.le,hx,t.wb,t.wl,λ H'=>iE H' rfl⟩
 exact⟨R0.W.cl,iH _ N.m N.b (xez N.F),iH _ T.m T.b GT,
  iH _ Co.m Co.b xWP⟩
def xbJ (R0:Cpy K mg C CW)(S0:xJ5 G):xxO P w K mg base B D C 2:=by
 show vO N R0.num T R0.tell Co R0.W.cost;have GT:xPe _ _ Jac (spT 2 B):=xxp ((xf2 (P:=P) (w:=w) (base:=base) T.F S0.Y S0.Zb).mono (k:=35) Z9) λ o p d a x T W N T0 H Q E hB h0 ha hx t k=>by
  show De Pp hw (io W T) ⟨o,p,d,a,x,T,W,Pp,N,T0,rfl,hB,h0,ha,t.tb,t.one,t.le,hx,t.wb,t.wl,hw,λ H'=>iE H' (kq Pp hw)⟩
 exact⟨R0.W.cl,iH _ N.m N.b (xhH N.F),iH _ T.m T.b GT,
  iH _ Co.m Co.b xWP⟩
def xce (R0:Shr K mg C CW)(S0:xJ5 G):xxO P w K mg base B D C 3:=by
 show vO N R0.num T R0.tell Co R0.W.cost;have GT:xPe _ _ Jac (spT 3 B):=xxp (xgl (P:=P) (w:=w) (base:=base) T.F S0) λ o p d a x T W N T0 H Q E hB h0 ha hx t k=>by
  show De Pp hw (io W T) ⟨o,p,d,a,x,T,W,Pp,N,T0,rfl,hB,h0,ha,t.tb,t.one,t.le,hx,t.wb,t.wl,hw,λ L It b H' sl wi=>iE H' ⟨Pp,L,It,b,hw,sl,wi,rfl⟩⟩
 exact⟨R0.W.cl,iH _ N.m N.b (xhD N.F),iH _ T.m T.b GT,
  iH _ Co.m Co.b xWP⟩
def cst (u:Nat) (W T:Id):Nat:=open Classical in if h:∃ps,C6 then tots h.choose else 0
def xwb (h:C6):xBz u=Sj:=by
 have e:∃ps,C6:=⟨ps,h⟩;unfold cst;rw [dif_pos e,OX.uniq e.choose_spec h]
def gx4 {os:xGY}(hi:i<4):([WA 0,WA 1,WA 2,WA 3]:NE)[i]?=TD xAD:=by
 rcases i with _|_|_|_|i
 all_goals first|rfl|exact Dw (xNk (AJ cW)) (.n 4) hi
def ix4 {os:xGY}(e:A7 ([WA 0,WA 1,WA 2,WA 3]:NE) v):i<4/\v=WA i:=by
 have hi:i<4:=Fg e;show ρ (gx4 hi) e ⟨hi,P8 e⟩
def cs (C0 C1 C2 C3:MV):xGY
 |0=>C0
 |1=>C1
 |2=>C2
 |_=>C3
structure xqb (K:Frag)(mg:Β)(B D C CW C0 C1 C2 C3:MV):Prop where
 S0:xJ5 C
 runsof:Δ "runs_of" xwh xEo
 raw:Raw K mg C0 CW
 run:Run K mg C1 CW
 cpy:Cpy K mg C2 CW
 shr:Shr K mg C3 CW
 ways:Δ "ways" xsu []
def xqb.ok (Z:xCV G)(hi:i<4):xxO P w K mg base B D (xPS i) i:=by
 obtain⟨_,_,Ro⟩:=Z.runsof
 match i,hi with
 |0,_=>exact xaW Z.raw Z.S0
 |1,_=>exact xbZ Z.run Z.S0 Ro
 |2,_=>exact xbJ Z.cpy Z.S0
 |3,_=>exact xce Z.shr Z.S0
def xdY (np:RT)(nd:A1 d):ZC (UD (O9 d p) p C d):=λ c o e=>by
 rw [yH np,yH nd];exact e
inductive xkG (C:xGY) (vs:NE) (H:Hp) (Q:VK) (Nf:XK):Prop
 |mk (h0:vs=[]) (h1:∀(l:MV) (os ds:xGY) (H':Hp),Ξ->(∀i,i<4->A1 xAD)->AL=Φ [WA 0,WA 1,WA 2,WA 3]->(∀i,i<4->H' xAD=Tu (C i) (ds i) [])->Ι->AS):xkG C vs H Q Nf
def xbx:Uf [] [] xsu:=Sc
def xoR (F:Aj "ways" "ways" xsu)(Z:xCV G):fV [] (xkG xPS):=by
 show AQ xbx (λ M7 A outer st H vs Q E hr h=>?_);show DG rfl k h (XC (aK (xCf (xrU Z.raw.W.mkb Z7 Z.raw.m) (xrU Z.run.W.mkb Z7 Z.run.m) (xrU Z.cpy.W.mkb Z7 Z.cpy.m) (xrU Z.shr.W.mkb Z7 Z.shr.m))));intro p0 d0 n0 m0 e0 p1 d1 n1 m1 e1 p2 d2 n2 m2 e2 p3 d3 n3 m3 e3;have s0:=kR C0 n0 m0;show DR g0 ((UD (O9 d0 p0) p0 C0 d0) p0=_) ad (UD (O9 d0 p0) p0 C0 d0) H1;have s1:=kR C1 n1 m1;show DR g1 ((UD (eO H1 d1 p1) p1 C1 d1) p1=_) ad (UD (eO H1 d1 p1) p1 C1 d1) H2;have s2:=kR C2 n2 m2;show DR g2 ((UD (eO H2 d2 p2) p2 C2 d2) p2=_) ad (UD (eO H2 d2 p2) p2 C2 d2) H3;have s3:=kR C3 n3 m3;show DR g3 ((UD (eO H3 d3 p3) p3 C3 d3) p3=_) ad (UD (eO H3 d3 p3) p3 C3 d3) H4;have XF:SR:=λ c o e=>Ec SH
 have VX:ZC H3:=λ c o e=>C7 (XF _ _ e)
 have s04:xOM:=λ c o e=>Cn (VX _ _ e)
 have Vu:xA0 H4:=λ c o e=>Cn (C7 D4)
 have s24:dz H4:=λ c o e=>xVh
 refine Bh (by show jy (YX 4)) l nl;have s5:C' H4 (qO H4 [.ref p0,.ref p1,.ref p2,.ref p3]):=λ c o e=>(yH nl).trans e
 refine qb (cs p0 p1 p2 p3) (cs d0 d1 d2 d3) _ (xm s04) (SC i hi) ad (SC i hi) (λ c o e=>AZ (s04 _ _ e))
 ·match i,hi with
  |0,_=>exact n0
  |1,_=>exact EF n1
  |2,_=>exact x01 n2
  |3,_=>exact none_of VX n3
 ·match i,hi with
  |0,_=>exact AZ (xCL g0)
  |1,_=>exact AZ (s24 _ _ g1)
  |2,_=>exact AZ (Cn g2)
  |3,_=>exact AZ g3
def xfc {x y z:Str}{a b c:MV}(h:xDy x [(y,a),(z,b)] c):(x=y/\c=a)\/(x=z/\c=b):=by
 show dF List.lookup h h
 ·rename_i e
  cases h;show BB (Ex (by show xGo))
 ·show dF List.lookup h h
  ·rename_i e
   cases h;show CU (Ex (by show xGo))
  ·cases h
structure Uv (K:Frag)(x qual:Str)(st:M5)(dV:MW)(c f:MV)(fd:M0):Prop where
 ex:∃(oc:MW) (od:RD) (kV doc pm:MW) (an:RD) (ct:MW) (osl:jc),
  fd=xDV x qual dV doc pm an qI ct/\xHX fd/\xGV K qI
 kp:RO
def Uv.ok (F:Uv K x qual st dV c f fd)(S:Uf N ps st)
  (hb:∀(A:M1) (outer:w4) (s:MX) (H:Hp) (vs:NE) (Q:VK) (E:XK),xDN k (PyProof.Rows.envOfC qual jU s.heap.objs.size f qI)->qr->
   let X:=(xEt Ni P w K mg N jU f qI A outer s H E).nox;∃t,xO9 t/\xCG) (len:xLv (∀vs H Q E,qr->iJ)):xJy (k+1):=by
 obtain⟨oc,od,kV,doc,pm,an,ct,osl,rfl,lk,Q9⟩:=F.ex;refine xxt lk Q9 S len λ A outer s H vs Q E hr Sq=>?_
 show B8 t h q (hb A outer s H vs Q E hr Sq) ⟨t,h.nox,q⟩
abbrev xbC:Pos:=⟨507,27,507,61⟩
abbrev xdf (Tb:MV)(H:Hp):Prop:=xvH Tb xbC ("best_way.<locals>."++"<lambda>") H
def _root_.L2.xvH.ne (h:xvH Tb p q H)(e:XL=IO)(hn:∀ps,o≠ jg):xJr:=by
 show Zn;obtain⟨ps,e',_⟩:=h;show ρ e e' (hn ps (Gg e'))
def _root_.L2.xvH.sq (h:xvH Tb p q H)(hK:fU)(e:yV):xJr:=by
 rcases e with(e|⟨o,e⟩)|⟨o,its,n,e,_⟩
 ·exact h.ne e (by intro ps z;cases z)
 ·exact h.ne e (by intro ps z;cases z)
 ·show Zn;show kD hK
def xxY.sameT (h:RI)(t:sZ)(s:xvT Tb H H'):xxY H' x W:=by
 rcases h with h|⟨a,e,h⟩
 ·show BB h
 ·show CU ⟨a,e,E6 (t.ne h (by intro ps z;cases z)) h⟩
inductive xnm (Tb:MV) (C:xGY) (vs:NE) (H:Hp) (Q:VK) (Nf:XK):Prop
 |mk (a:MV) (x:V) (T W:Id) (h0:vs=[ω,x]) (h1:XL=EX) (h2:RI) (h3:mh) (h4:sZ) (h5:∀(i:Nat) (o dx:MV) (H':Hp),i<4->A1 o->H' o=dE (C i) []->(∀j,j<4->xHG≤xBz j/\(j<i->xHG<xBz j))->xvT Tb H H'->rP->Fj y9):xnm Tb C vs H Q Nf
def xa1:Uf Jaf Jaf xpq:=Sc
def xa5 (F:Uv K "best_way" "best_way" xpq dV c f fd)(Z:xCV G)(hm:x2v)(hC:uA)(hB:qm)(hK:fU):
  AH 39 Jaf (xnm Tb xPS):=by
 show xDz Wy Z.ways xa1 (λ A outer st H vs Q E hr h=>?_);obtain⟨a,x,T,W,rfl,ha,hx,tw,hT,k⟩:=h;have NA:Bv:=UF;have hn:=xD;refine XC (xaD (k:=36) (y:="way") (Nc:=["text","before"]) (js:=[0,1]) (cl:=[("text",xKO 1),("before",xKO 1+1)]) (P:=Tb) (c:=c) hn hr Z7 hm
  ⟨rfl,rfl,rfl,Z8,rfl,Z7,λ x c h=>?c0,λ x hx=>?c1,rfl,λ i x j h1 h2=>?c2⟩ rfl hC hB Z7 (λ pm cd ct u=>Z7)
  (λ f' c' s H=>xow (P:=P) (w:=w) (K:=K) (mg:=mg) (base:=base) (k:=36) rfl rfl rfl rfl rfl SZ (hr.in1.deeper _) (xH PP Ty))
  (Bx (xlA (xoR Wy.F Z) NA Z7 Wy.m Wy.F.kp Wy.b .nil a7)))
 case c0=>
  rcases xfc h with⟨rfl,rfl⟩|⟨rfl,rfl⟩<;>rfl
 case c1=>
  rcases hx with hx|hx
  ·have m':(x,NameKind.cell)∈([yJ "way",xXo "before",xXo "text"]:xu4):=dv;simp at m'
  ·have m':(x,NameKind.free)∈([yJ "way",xXo "before",xXo "text"]:xu4):=dv;have e:x="before"\/x="text":=by show xXp
   rcases e with rfl|rfl<;>exact CY
 case c2=>rcases slotsL h1 h2 with⟨rfl,rfl⟩|⟨rfl,rfl⟩<;>exact xP8 (λ c h=>h)
 refine qN (λ l os ds H1 nl no hl ho s1=>⟨l,_,λ i=>Ps xHG,rfl,.inl xSD,Nat.zero_lt_succ _,xLC,λ c xs h=>(xLC).sq hK h,τ H2 sT Xj⟩);have Oi:=xLC;have V2:∀i,i<4->H2 xAD=Tu (xPS i) (ds i) []:=λ i hi=>C5 (Oi.ne (ho i hi) (by intro ps z;cases z)) (ho i hi)
 refine⟨λ i v H' hv sm=>?_,λ i v H' hv hmin sm=>?_⟩
 ·show o4 hi (ix4 hv);have WK:=Z.ok (P:=P) (w:=w) (base:=base) hi;obtain⟨fc,fdc,mc,bc,Gc⟩:=WK.cost;refine⟨_,rfl,xAD,_,ds i,[],fc,fdc,_,_,rfl,yA (V2 i hi),rfl,WK.cl,mc,Gc,bc,_,rfl,_,rfl,xAD,ds i,a,x,T,W,rfl,yA (V2 i hi),yA (C5 (Oi.ne gO (by intro ps z;cases z)) gO),((xZ4).sameT Oi sT).same sm,tw,λ ps H'' Vx sm2=>xXb sm2⟩;show vN Sj=vN xHG;rw [xwb Vx]
 ·show o4 hi (ix4 hv);refine k i xAD (ds i) H' hi (no i hi) (yA (V2 i hi)) Q1 (λ c o n e=>yA (C5 n D4)) (Xj.same sm);show yP z1 z2 (hmin j hj) (Mp.mp z1) (λ hji=>JT.mp (z2 hji))
universe K25
namespace CK
def T (w p s:Nat):Nat:=((s*2)%2^w)^^^oP (s.testBit (w-1)) p 0
def xh9 {w p s:Nat}(hp:p<2^w):T w p s<2^w:=by
 unfold T;refine x6j (xEb jo)
 split
 ·exact hp
 ·exact jo
def xsS (w p:Nat):Ct Cs
 |0,s=>s
 |n+1,s=>T w p (xsS w p n s)
def Tn_lt {w p n s:Nat}(hp:p<2^w)(hs:s<2^w):xsS w p n s<2^w:=by
 cases n with
 |zero=>exact hs
 |succ n=>exact xh9 hp
def B (w p s b:Nat):Nat:=xsS w p 8 (s^^^(b*2^(w-8)))
def G (w p:Nat):jL Cs
 |0,s,_=>s
 |n+1,s,V=>B w p (G w p n s (V/256)) (V%256)
def G_lt {w p n s V:Nat}(hp:p<2^w)(hs:s<2^w):G w p n s V<2^w:=by
 cases n with
 |zero=>exact hs
 |succ n=>exact xh9 hp
universe CK
namespace K25.Ck
open PySem L2 QQ BP
seal PE PA PS PSs PT PW PG PI
abbrev xxq:M5:=top 37
abbrev sCInit:M5:=N3 38
abbrev xrd:M5:=NQ 38
abbrev xtj:M5:=nN 38
abbrev xpD:M5:=top 39
structure Txt (K:Frag)(mg:Β):Prop where
 R:RQ
 tabA:∃d,mg "ALL_ONES"=uZ/\xvD K d 255 65535
 tabL:∃d,mg "LOWER_BITS"=uZ/\xvD K d 29 45
def xeK (a):∀b,a+b=(a^^^b)+2*(a&&& b):=by
 induction a using Nat.strongRecOn with
 |_ a ih=>
  intro b;by_cases h0:a=0
  ·subst h0;simp
  ·have h:=ih (a/2) (Nat.bitwise_rec_lemma h0) (b/2);have e1:(a^^^b)/2=a/2^^^b/2:=Nat.xor_div_two_pow (n:=1);have e2:(a&&& b)/2=a/2&&& b/2:=Nat.and_div_two_pow (n:=1);have m1:(a^^^b)%2=a%2^^^b%2:=Nat.xor_mod_two_pow (n:=1);have m2:(a&&& b)%2=a%2&&& b%2:=Nat.and_mod_two_pow (n:=1);have d1:=IM (a^^^b) 2;have d2:=IM (a&&& b) 2;rw [e1,m1] at d1;rw [e2,m2] at d2;clear e1 e2 m1 m2 ih h0;have k:a%2+b%2=(a%2^^^b%2)+2*(a%2&&& b%2):=by
    rcases Md a with e|e<;>rcases Md b with f|f<;>rw [e,f]<;>rfl
   have:=IM a 2;have:=IM b 2;generalize a/2^^^b/2=u,a/2&&& b/2=v,a%2^^^b%2=x,a%2&&& b%2=y,a^^^b=m,a&&& b=n,a/2=q,b/2=r,a%2=t,b%2=z at*;lia
def xuj (a b:Nat):x6n a eN=Ps (a^^^b):=by
 have e:x6n a eN=Ε a+eN-2*xYE a eN:=by
  show CS Builtin.bitXor PyProof.Rows.bitOr_and;lia
 rw [e,Lh Z5 vY,Gr,Gr];have:=xeK a b;lia
def WP (w p:Nat):Prop:=(w=8/\p=29)\/(w=16/\p=45)
def WP.facts (h:WP w p):8≤w/\w≤16/\p%2=1/\p<2^w:=by
 rcases h with⟨rfl,rfl⟩|⟨rfl,rfl⟩<;>decide
def xcX (hw:0<w)(hs:s<2^w):CK.T w p s=EK (s/2^(w-1)) 1 (s*2%2^w^^^p) (s*2%2^w):=by
 show CS CK.T Nat.testBit_eq_decide_div_mod_eq;have h2:s/2^(w-1)<2:=Nat.div_lt_of_lt_mul (by
  have:2^(w-1)*2=2^w:=by rw [<-Iq];congr 1;exact Kt hw
  exact FZ hs this.symm)
 show CM (s/2^(w-1)) 1 h h
 ·have e:s/2^(w-1)=0:=Nat.lt_one_iff.mp h;show CR e
 ·have e:s/2^(w-1)=1:=FA (Nat.lt_succ_iff.mp h2) h;show CR e
def crc (w p s:Nat)(R:Id):Nat:=R.foldl (CK.B w p) s
def xl0 (w p s)(R)(b):crc w p s (R++BH)=CK.B w p (crc w p s R) b:=by
 show CS crc J5;rfl
def xcz:∀n R,xGq n->xIK->crc w p s R=CK.G w p n s eg:=by
 intro n
 induction n with
 |zero=>
  intro R h _;have e:R=[]:=Ib.mp h;subst e;rfl
 |succ n ih=>
  intro R h hb;obtain⟨A,b,rfl⟩:∃A b,R=A++BH:=by
   rcases List.eq_nil_or_concat R with e|⟨A,b,e⟩
   ·subst e;show DK
   ·exact⟨A,b,by show xGo⟩
  have hbb:xCg:=zP Z6;rw [FD,JQ] at h;rw [xl0,ih A (Nat.add_right_cancel h) λ x hx=>iY (fu hx),BP.xsf];show _=CK.B w p (CK.G w p n s ((xMc*256+b)/256)) ((xMc*256+b)%256);have e1:(xMc*256+b)/256=xMc:=BC (BF 256 [_,_,_] (pO (yk 256)) (Br 256 (pV (xA9 256))) Os (ZY hbb)) (EL 256 [_,_,_] (AJ (pV (xA9 256))) (CF (yk 256) 256) Os LE zK);have e2:(xMc*256+b)%256=b:=BC (qe [_,_,_,_] (Tv 256 (xWr LE)) (xWr (vA (.w Be 256))) Os (Es 256 e1.symm) (Fz (IM _ _))) (Bu [_,_,_,_] (xWr (vA (.w Be 256))) (Tv 256 (xWr LE)) Os LE (Es 256 e1) (xV3 (IM _ _)));rw [e1,e2]
def xn9 {R:Id}(hp:p<2^w)(hs:s<2^w)(hb:uG):crc w p s R<2^w:=by
 show LT (xcz R.length R rfl hb) (CK.G_lt hp hs)
inductive xqe (vs:NE) (H:Hp) (Q:VK) (Nf:XK):Prop
 |mk (n p s b:Nat) (h0:vs=[Zx,fb,Qh]) (h1:WP n p) (h2:s<2^n) (h3:xCg) (h4:uq (CK.B n p s b)):xqe vs H Q Nf
def xw5:Uf ["state","byte","wide","step","goes_out"] xHJ xxq:=Sc
def xbj (F:Ζ "with_byte" xxq xHJ)(X:Bz):fV xHJ xqe:=by
 obtain⟨dA,mA,tA⟩:=X.tabA;show Bq dL mL tL X.tabL (F.F.ok xw5 λ M7 A outer st H vs Q E hr h=>?_)
 intro _;obtain⟨n,p,s,b,rfl,hw,hs,hb,q⟩:=h;obtain⟨h8,h16,hodd,hp⟩:=hw.facts;refine Ep (Fc 0 xw5.nd (ap xn3 SZ (ap dQ PP (oa Ty))) (Wt (xsG rfl X.R.X.range my) 3 xw5.nd (Cg 4 xw5.nd (ap xvW SZ (oa Ty)) (pX 0 xw5.nd (ap xvX (xIO dQ) (xv9 xue (xAK dA Z7 mA) Ty jG)) (zF (Ww Ν) (xJ7 0 xw5.nd (ap xn3 SZ (xv9 xue (xAK dL Z7 mL) Ty jG))))))) SZ)
 have e8:AA-8=Ps (n-8):=Z5;have e1':AA-1=Ps (n-1):=Z5;refine⟨_,rfl,_,rfl,_,rfl,_,_,rfl,rfl,?_⟩
 try dsimp only
 show Η e8 ⟨_,_,rfl,rfl,⟨vY,xO (Z3 [_,_] 1 LE (Zz 16) LE 1000000 h16 Qn),Z5⟩,_,_,rfl,rfl,?_⟩
 try dsimp only
 rw [xui,xuj];have hs0:s^^^b*2^(n-8)<2^n:=by
  refine x6j hs;have:b*2^(n-8)<2^8*2^(n-8):=x4U jo hb;rw [<-Ji,show 8+(n-8)=n by exact oz (yI (D7 8) (U6 8) (mF QI QI h8)) (D7 8) (U6 8) Ω] at this;exact this
 refine⟨8,rfl,Z9,Z9,oR 0 8 (λ i σ H2=>∃v3 v4,σ=[Χ (xU7 p i (s^^^b*2^(n-8))),RW,yc,v3,v4]/\H2=H) (Wm none none) ?_ ?_⟩
 ·rintro i σ H2 hi ⟨v3,v4,rfl,rfl⟩;have M8:=CK.Tn_lt (n:=i) hp hs0;have eT:xU7 p (i+1) (s^^^b*2^(n-8))=CK.T n p (xU7 p i (s^^^b*2^(n-8))):=rfl;rw [eT];generalize xU7 p i (s^^^b*2^(n-8))=z at*;have hz16:z<2^16:=FN M8 (xA4 h16);have go:=xcX (p:=p) (Nat.zero_lt_of_lt h8) M8;refine aN _ _ rfl _ _ rfl rfl ?_
  try dsimp only
  show Η e1' (Tf _ _ rfl pS ?_)
  try dsimp only
  rw [xuq];have em:Ε z*2^xS3=Ps (z*2):=xui z 1;refine⟨_,rfl,_,_,rfl,rfl,⟨Z9,Z9,Z5⟩,_,rfl,dA,_,_,_,rfl,rfl,.inl tA,?_⟩;rcases hw with⟨rfl,rfl⟩|⟨rfl,rfl⟩
  ·refine .inl (Tf rfl _ _ rfl ?_)
   try dsimp only
   rw [em,AI (x6s (z*2) 255) (Ps (z*2%2^8)) (xvn (z*2) 8)];refine qQ Za
   ·have PJ:z/2^(8-1)=1:=by show AY x8I (JG ((x6O) this.symm))
    rw [F8 PJ] at go;refine⟨_,rfl,_,rfl,dL,_,_,_,rfl,rfl,.inl tL,.inl (Tf rfl _ _ rfl ?_)⟩
    try dsimp only
    rw [AI (x6o (z*2%2^8) 29) (Ps (z*2%2^8^^^29)) (xuj _ 29),go];exact Wm _ _
   ·have PJ:¬z/2^(8-1)=1:=λ e=>h1 (FM (xRl (xXN (FA (xU 1 1 xFD) (UG AU AU xu2)))))
    rw [FY PJ] at go;show LT go (Wm _ _)
  ·refine .inr (Tf rfl _ _ rfl ?_)
   try dsimp only
   rw [em,AI (x6s (z*2) 65535) (Ps (z*2%2^16)) (xvn (z*2) 16)];refine qQ Za
   ·have PJ:z/2^(16-1)=1:=by show AY x8I (JG ((x6O) this.symm))
    rw [F8 PJ] at go;refine⟨_,rfl,_,rfl,dL,_,_,_,rfl,rfl,.inl tL,.inr (Tf rfl _ _ rfl ?_)⟩
    try dsimp only
    rw [AI (x6o (z*2%2^16) 45) (Ps (z*2%2^16^^^45)) (xuj _ 45),go];exact Wm _ _
   ·have PJ:¬z/2^(16-1)=1:=λ e=>h1 (FM (xRl (xXN (FA (xU 1 1 xFD) (UG AU AU xu2)))))
    rw [FY PJ] at go;show LT go (Wm _ _)
 ·rintro σ H2 ⟨v3,v4,rfl,rfl⟩;exact Υ q
def xpc:¬(x1C="state"):=Z8
def fC (n s:Nat):qw:=[("wide",Qh),("state",Zx)]
def iM (n s):tH "state" s (xUM n [])=xBE:=by
 show(gs "wide" "state" (x1C,Qh) [("state",Zx)])=_;show Af xA3
def xnJ (n s s'):tH "state" s' xBE=fC n s':=by
 show(gs "wide" "state" (x1C,Qh) (Tp "state" "state" [(eE "state",vN s')] _))=_;rw [xA3,AD];rfl
def xlI (n s):ZA xBE "wide"=yc:=by
 rw [<-iM,ar,xA3,ar,AD]
def xpP (n s):ZA xBE "state"=Vc:=by
 rw [<-iM,ar,AD]
def fC_no (n s){m:Str}(h1:Zs "state")(h2:Zs "wide"):yS xBE m:=by
 rw [<-iM,ar,gi,ar,rI];rfl
def xnF (n s):xEu xBE:=by show AP 2
structure xwP (K:Frag)(mg:Β)(C:MV):Prop where
 cl:yZ
 nW:fj "wide"
 nS:fj "state"
 m:mg "Check"=xM
inductive spCInit (C:MV) (vs:NE) (H:Hp) (Q:VK) (Nf:XK):Prop
 |mk (p dx:MV) (n q:Nat) (h0:vs=[Bw,Qh]) (h1:WP n q) (h2:CI=xBf) (h3:∀H':Hp,Dk=VQ n (2^n-1)->Fu (∀b o,E5=IO->yW->yC=IO)):xSm vs H Q Nf
def scCInit:Uf xLg xLg sCInit:=Sc
def ok_cinit {f fW:MV}(F:x1T dV f fd)(W:rN)(T:xwP K mg C)(X:Bz):xIz xLg xSm:=by
 have GW:uE fW QS Jaa spWhole:=xH9 X.R.X;show Bq dA mA tA X.tabA (F.ok scCInit λ M7 A outer st H vs Q E hr h=>?_)
 intro _;show jx p dx n q rfl hw hp k;show Wp (Tg (WN (wK (il GW hr W PP aj aj)) (xna xeg PP (xAK dA Z7 mA) Z7)) (sQ (V7 PP) (V7 (xv9 xue (xAK dA Z7 mA) PP jG)))) (aN _ _ _ _ rfl _ rfl ?_);have e1:SB (qF kT AA&&qF AA 16):=by
  obtain⟨h8,h16,_⟩:=hw.facts;rw [FM (Int.toNat_le.mp h8),iF];rfl
 show Η e1 oo;have hn:AA=8\/AA=16:=by rcases hw with⟨rfl,_⟩|⟨rfl,_⟩<;>simp
 show E9 ⟨_,rfl,dA,_,_,_,rfl,rfl,tA,hn,_,rfl,oo⟩ ⟨_,rfl,_,rfl,p,C,dx,_,rfl,hp,T.cl,T.nW,(by show AP 0),?_⟩ ⟨_,rfl,dA,_,_,_,rfl,rfl,.inl tA,?_⟩;have fin:∀z,z=Ps (2^n-1)->xu7 (rG (rG H (xUM n [])) (x8y (.int z) (xUM n []))):=λ z ez=>by
  rw [ez,AI (x8y (V.int (Ps (2^n-1))) (xUM n [])) (fC n (2^n-1)) (iM n _)];refine iE ad λ b o e hb=>?_
  rw [zZ,zZ];exact e
 rcases hw with⟨rfl,rfl⟩|⟨rfl,rfl⟩
 ·show BB ⟨rfl,_,rfl,p,C,dx,_,rfl,ad,T.cl,T.nS,(by show qc),fin _ rfl⟩
 ·show CU ⟨rfl,_,rfl,p,C,dx,_,rfl,ad,T.cl,T.nS,(by show qc),fin _ rfl⟩
inductive spAdd (C:MV) (vs:NE) (H:Hp) (Q:VK) (Nf:XK):Prop
 |mk (p dx a:MV) (n q s:Nat) (B:Id) (h0:vs=we) (h1:WP n q) (h2:s<2^n) (h3:CI=VQ n s) (h4:XL=vv) (h5:xIM) (h6:∀H':Hp,Dk=VQ n (crc n q s B)->Fu (∀b o,E5=IO->yW->yC=IO)):spAdd C vs H Q Nf
def scAdd:Uf (gK "row" "byte") Jah xrd:=Sc
inductive xnd (C:MV) (H:Hp) (p:MV) (dx:MV) (a:MV) (n:Nat) (q:Nat) (s:Nat) (B:Id) (l:MV) (i:Nat) (σ:St) (H2:Hp):Prop
 |mk (v:BV) (h0:σ=[Qg,Bm,v]) (h1:H2 p=VQ n (crc n q s xEc)) (h2:RZ=vv) (h3:∀b o,E5=IO->yW->H2 b=IO):xnd C H p dx a n q s B l i σ H2
def xnL {f fN fR fW fY:MV}(F:Aj "add" "Check.add" xrd)(N:xPU)(R:Dv "is_row" xuw Jae fR fdR)(W:rN)
  (Y:Dv "with_byte" xxq xHJ fY fdY) (T:xwP K mg C) (X:Bz):AH 5 Jah (spAdd C):=by
 have GN:T1 4 fN Ul Jae spNeedRow:=xK7 X.R;have GY:uE fY fdY xHJ xqe:=xbj Y X;show AQ scAdd (λ M7 A outer st H vs Q E hr h=>?_);obtain⟨p,dx,a,n,q,s,B,rfl,hw,hs,hp,ha,hb,k⟩:=h;obtain⟨h8,h16,hodd,hq⟩:=hw.facts;have NA:Bv:=UF;show Qt (rJ (g9 GN N PP) 2 scAdd.nd (V7 (il GY NA Y Α Ty Α))) (ZW a B ha hb (SC l hl));have npl:p≠l:=sF hl;refine xHV l ad (xsH (K:=K) (a:=l) (xs:=vM) (xnd C H p dx a n q s B l)
  ⟨none,rfl,by show XV npl hp,ad,λ b o e _=>by show pQ hl e⟩ (λ i σ H2 _ z9=>by show xRX e z9 (Ng.of e)) ?_ ?_)
 ·rintro i y σ H2 hi ⟨v,rfl,NB,NH,QY⟩;show Vf b N8 (cZ hi);have Si:=zP xTO;have M8:crc n q s xEc<2^n:=xn9 hq hs λ x hx=>iY xE8
  show E9 ⟨_,rfl,p,C,dx,_,_,rfl,NB,T.cl,T.nS,xpP _ _,_,rfl,_,rfl,p,C,dx,_,_,rfl,NB,T.cl,T.nW,xlI _ _,n,q,_,b,rfl,hw,M8,Si,?_⟩ ⟨_,rfl,p,C,dx,_,rfl,NB,T.cl,T.nS,xnF _ _,?_⟩ ⟨RW,rfl,?_,by show XV npl.symm NH,λ c o e hc=>by show XV hc (QY c o e hc)⟩;rw [ad,xnJ,cK N8,xl0]
 ·rintro σ H2 ⟨v,rfl,NB,NH,QY⟩;rw [Fy,Hc] at NB;exact k H2 NB QY
inductive xkR (C:MV) (vs:NE) (H:Hp) (Q:VK) (Nf:XK):Prop
 |mk (p dx:MV) (n s:Nat) (h0:vs=Bf) (h1:CI=VQ n s) (h2:Q Zx H):xkR C vs H Q Nf
def xaw:bS xtj:=Sc
def xlK (F:Aj "value" "Check.value" xtj)(T:xwP K mg C):ya (xkR C):=by
 show AQ xaw (λ M7 A outer st H vs Q E hr h=>?_);show dS p dx n s rfl hp k;refine XC Α;exact⟨_,rfl,p,C,dx,_,_,rfl,hp,T.cl,T.nS,xpP _ _,k⟩
def chk (n q:Nat)(B:Id):Nat:=crc n q (2^n-1) B
inductive xj0 (vs:NE) (H:Hp) (Q:VK) (Nf:XK):Prop
 |mk (a:MV) (n q:Nat) (B:Id) (h0:vs=[ω,Qh]) (h1:WP n q) (h2:XL=vv) (h3:xIM) (h4:Ft (Ι->mI (chk n q B))):xj0 vs H Q Nf
def xiU:Uf ["row","wide","check"] ["row","wide"] xpD:=Sc
structure Chk (K:Frag)(mg:Β)(C:MV):Prop where
 X:Bz
 T:xwP K mg C
 whole:xP4
 isrow:Δ "is_row" xuw Jae
 needrow:xSJ bY Jae
 withb:Δ "with_byte" xxq xHJ
 init:∃f fd dV,x1T dV f fd/\ua xLg/\yD
 add:∃f fd,qW C "add" "Check.add" xrd Jah
 value:BL "value" "Check.value" xtj
def xmR {P:MY}{K:Frag}{mg:Β}{f:MV}{fd:M0}{dV:MW}(F:OG K "check_of" "check_of" xpD dV f fd)(Z:Chk K mg C):AH 6 ["row","wide"] xj0:=by
 obtain⟨X,T,⟨_,_,W⟩,⟨_,_,R⟩,⟨_,_,N⟩,⟨_,_,Y⟩,⟨_,_,_,FI,bI,M⟩,⟨_,_,Ad⟩,⟨_,_,Va⟩⟩:=Z;show AQ xiU (λ M7 A outer st H vs Q E hr h=>?_);obtain⟨a,n,q,B,rfl,hw,ha,hb,k⟩:=h;have NA:Bv:=UF;have Pe:Dg:=UF;show yy (Fc 2 xiU.nd (xvi M (x0b W T X) Pe Z7 T.m bI .nil a7 m8) (xN Ty T.cl Ad (xnL Ad.F N R W Y T X) hr Ew) (BN Ty T.cl Va (xlK (mg:=mg) Va.F T))) (Υ (λ x dx nx ndx nex=>?_));have s0:ZC (Tj (O9 dx x) x C []):=λ b o e=>by
  rw [yH nx,yH ndx];exact e
 refine Fb x dx n q hw ad (λ H1 T7 kp=>DY);have s1:mE:=λ b o e=>kp b o xu SP
 refine⟨_,rfl,x,dx,_,rfl,T7,xJj,_,rfl,x,dx,a,n,q,_,B,rfl,hw,?_,T7,gO,hb,τ H2 hx2 Sl⟩
 ·show AY (Jh (n:=n) (show 0<2 from Z9)) (Ja this)
 have s2:SR:=λ b o e=>Sl b o (s1 b o e) SP
 refine⟨_,rfl,x,dx,_,rfl,hx2,xJj,x,dx,n,_,rfl,hx2,k H2 s2⟩
abbrev xrt:M5:=top 40
abbrev xx8:M5:=top 41
abbrev xrV:M5:=top 103
abbrev xtl:M5:=N3 104
abbrev xt3:M5:=NQ 104
structure FnK (K:Frag)(mg:Β)(x:Str)(st:M5)(ps:An)(f:MV)(fd:M0):Prop where
 F:∃dV,xCv x f fd
 m:si=ik
 b:de
 d:∃t,xEP [VU 16]
theorem FnK.kp (F:FnK K mg x st ps f fd):RO:=F.F.elim (QB h.kp)
def two (n:Nat):Id:=[n/256,n%256]
def sld (R:Id):Id:=R++aY R
def xwJ (a b:Nat):Id:=[a,b,chk 8 29 [a,b]]
def wp8:WP 8 29:=xzz
def xwZ:WP 16 45:=eQ
def xmj (h:WP n q)(hb:uG):chk n q R<2^n:=by
 show iN hq h.facts (xn9 hq (by show AY (Jh (n:=n) (show 0<2 from Z9)) (Ja this)) hb)
def xwl (h:n<65536):wL (two n):=by
 intro b hb;simp only [two,F9,LJ,or_false] at hb;lia
def xnZ (hb:uG):wL xz3:=λ b h=>kb h zP (xwl xOy b)
def xwq (ha:EB a)(hb:xCg):∀c∈tQ,EB c:=by
 intro c hc;have h8:EB (chk 8 29 [a,b]):=xmj wp8 (λ c hc=>by simp at hc;lia);simp only [xwJ,F9,LJ,or_false] at hc;lia
structure xk6 (K:Frag)(mg:Β)(C:MV):Prop where
 Z:Chk K mg C
 checkof:∃f fd,FnK K mg "check_of" xpD ["row","wide"] f fd
 two:Δ "in_two_bytes" xrt k8
 withcheck:xIw "with_check" xx8
 headrow:Δ "head_row" xrV xFn
inductive spTwo (vs:NE) (H:Hp) (Q:VK) (Nf:XK):Prop
 |mk (n:Nat) (h0:vs=[Qh]) (h1:n<65536) (h2:∀l,Ξ->Q A8 (pC H l (two n))):spTwo vs H Q Nf
def EQ:Uf k8 k8 xrt:=Sc
def xtX (F:Ζ "in_two_bytes" xrt k8):fV k8 spTwo:=by
 show Al EQ (λ M7 A outer st H vs Q E hr h=>?_);show Qb n rfl hn k;show xBO (jT (xIO xvW) (xIO xvX)) ⟨_,rfl,_,_,rfl,rfl,(by show RG (Gl≤8)),_,rfl,_,_,rfl,rfl,(by show b8),zR⟩;have e1:rX/2^Int.toNat 8=Ps (n/256):=by
  show rX/256=_;exact(BJ LE LE LE LE)
 have e2:Builtin.bitAnd rX 255=Ps (n%256):=by
  show AY (xvn n 8) this
 try dsimp only
 rw [e1,e2];exact qb nl
inductive xjw (vs:NE) (H:Hp) (Q:VK) (Nf:XK):Prop
 |mk (a:MV) (R:Id) (h0:vs=CV) (h1:XL=qz) (h2:xIK) (h3:kM R.length) (h4:∀l H',Ξ->Ι->AL=Au xz3->AS):xjw vs H Q Nf
def xe2:Uf Jal Jal xx8:=Sc
def xqH (F:Ζ "with_check" xx8 Jal)(Y:xCJ C):AH 7 Jal xjw:=by
 show xQR Co Y.checkof FC Co.F;obtain⟨_,_,Tw⟩:=Y.two;show xV t16 B16 Co.d xe2 (λ M7 A outer st H vs Q E hr h=>?_) _;show dS a R rfl ha hb hl k;have NA:Bv:=UF;show E9 (XC (pd SZ (mJ (xtX Tw) Tw (bv (xmR FC Y.Z) hr Z7 Co.m Co.kp B16 (xVp (a:=V.int 16) CY) a7 Ew)))) ⟨_,rfl,_,rfl,a,16,45,R,rfl,xwZ,ha,hb,SC H1 s1⟩ (SU (jK R) xOy xNU);have s2:=Ei (aY R) n1;have Qy:ao H1 l1 (aY R) l1=Au (aY R):=ad;have Su:=C7 gO;have Pj:=dn;show SN H1 l1 (aY R) H2 ⟨a,l1,_,_,rfl,rfl,Su,Qy,bG (by rw [Fy];show ux (R.length+2);exact(P9 1000 xFy 2000 hl)),zR⟩;exact sN (xm Pj) x6V (by rw [ad,<-FV];rfl)
inductive xjI (vs:NE) (H:Hp) (Q:VK) (Nf:XK):Prop
 |mk (x y:Nat) (h0:vs=[xH8,xIk]) (h1:EB x) (h2:EB y) (h3:∀l H',Ξ->Ι->AL=Au (xwJ x y)->AS):xjI vs H Q Nf
def xgM:Uf xFn xFn xrV:=Sc
def xqA (F:Ζ "head_row" xrV xFn)(Y:xCJ C):AH 7 xFn xjI:=by
 show xQR Co Y.checkof FC Co.F;show Al xgM (λ M7 A outer st H vs Q E hr h=>?_);show Zj x y hx hy k;show xBO (xBv SZ PP (BI (xmR FC Y.Z) hr Co.m Co.kp Co.b (xzG (jT SZ PP)))) ⟨_,rfl,_,rfl,_,rfl,_,rfl,(by show b8),xNU⟩;have s1:=Az [xH8,xIk] n1;have Qy:Du H l1 [xH8,xIk] l1=Φ [xH8,xIk]:=ad;show EI H l1 [xH8,xIk] H1 ⟨l1,8,29,[x,y],rfl,wp8,Qy,λ c hc=>by simp at hc;omega,λ H2 s2=>Bh (by show jy 3) l nl⟩;exact sN (xm dn) (xEr P6) ad
universe K25.Ck
namespace L2
open PySem PySem.Spec PySem.Calls PyProof.Rows QQ PySem.W
def xgQ {K:Frag}(hP:X.prog=P)(hw:X.w=w)(hK:X.K=K)(hmg:X.mg=mg)(Xi:X.base=base)(he:sU)(hr:RS)
    (ht:Κ (fQ o m []=(do
      let ov<-ZT
      xuE
      let(f,first)<-xuG uR ov m pl
      nJ f []))):
    fK o m [] (xnR P w K mg base k m ta iw):=by
  subst hP hw hK hmg Xi
  intro M6 s σ H Q I h
  refine xPx (ag H _ I h u) ht
  obtain⟨x,H1,I1,rx,a,C,dx,fs,f,fd,ps,sp,ex,ea,l,c,hm,F,hb,q⟩:=z9
  subst ex
  obtain rfl:u=tF:=rx
  refine xJ4
  exact x1Y CV I1.kIn hm.kp (xNX CV (vs:=CV) F hr hb .nil a7 I1 xTf q)
universe L2
namespace K25.Ck
open PySem L2 QQ W17 W16 BP
seal PE PA PS PSs PT PW PG PI
abbrev xpX:M5:=top 107
def xrI:¬(xMd="count"):=Z8
def xh5:¬(xMd="inside"):=Z8
def xjz:¬(eE "count"="inside"):=Z8
def xwu (a b c:Nat):qw:=[("way",xIn),("count",fb),("inside",Vb)]
def xwX (a b c):tH "inside" c (tH "count" b (tH "way" a []))=P2:=by
 show(tH "inside" c (gs "way" "count" (xMd,xIn) [("count",fb)]))=_;rw [FY xrI];show(gs "way" "inside" (xMd,xIn) (gs "count" "inside" (eE "count",fb) [("inside",Vb)]))=_;rw [FY xh5,FY xjz];rfl
def xh0 (a b c):ZA P2 "way"=Χ a:=by rw [<-xwX,ar,FY xh5,ar,FY xrI,ar,AD]
def xhP (a b c):ZA P2 "count"=RW:=by rw [<-xwX,ar,FY xjz,ar,AD]
def xiA (a b c):ZA P2 "inside"=Χ c:=by rw [<-xwX,ar,AD]
def xcy (a b c){m:Str}(h1:Zs "inside")(h2:Zs "count")(h3:Zs "way"):yS P2 m:=by
 rw [<-xwX,ar,gi,ar,rI,ar,FY h3];rfl
structure xwO (K:Frag)(mg:Β)(C:MV):Prop where
 cl:yZ
 nW:fj "way"
 nC:fj "count"
 nI:fj "inside"
 m:mg "Head"=xM
 init:∃f fd,x72 xtl/\ua ["self","way","count","inside"]/\yD
 row:BL "row" "Head.row" xt3
inductive xkl (C:MV) (vs:NE) (H:Hp) (Q:VK) (Nf:XK):Prop
 |mk (p dx a b c:Nat) (h0:vs=[Bw,xIn,fb,Vb]) (h1:CI=xBf) (h2:Ft (Dk=aG P2->Fu (∀b o,E5=IO->yW->yC=IO))):xkl C vs H Q Nf
def xiy:Uf ["self","way","count","inside"] ["self","way","count","inside"] xtl:=Sc
def xlC (F:x72 xtl)(T:xwO K mg C):fV ["self","way","count","inside"] (xkl C):=by
 show AQ xiy (λ M7 A outer st H vs Q E hr h=>?_);show jx p dx a b c rfl hp k;show Wp (u5 PP (sQ (V7 Ty) (V7 π))) ⟨_,rfl,_,rfl,p,C,dx,[],rfl,hp,T.cl,T.nW,(by show AP 0),?_⟩;show Wp ⟨_,rfl,_,rfl,p,C,dx,_,rfl,ad,T.cl,T.nC,(by show qc),?_⟩ ⟨_,rfl,_,rfl,p,C,dx,_,rfl,ad,T.cl,T.nI,(by show oN (show B4 (tH "count" b (tH "way" a [])) 2 by show B4 (gs "way" "count" (xMd,xIn) [("count",fb)]) 2;show Af (FY xrI))),?_⟩;exact iE (MU ad (xzi l (xSF C dx l) (xwX a b c))) λ d o e hd=>by rw [ai hd,ai hd,ai hd];exact e
inductive xj9 (C:MV) (vs:NE) (H:Hp) (Q:VK) (Nf:XK):Prop
 |mk (p dx a b c:Nat) (h0:vs=Bf) (h1:CI=aG P2) (h2:a<4) (h3:bO) (h4:xPh) (h5:EB c) (h6:∀l H',Ξ->Ι->AL=Au (xwJ (64*a+b-1) c)->AS):xj9 C vs H Q Nf
def xbT:bS xt3:=Sc
def xip (F:Aj "row" "Head.row" xt3)(T:xwO K mg C)(Y:xCJ CC'):zC 8 (xj9 C):=by
 show xDz Hr Y.headrow xbT (λ M7 A outer st H vs Q E hr h=>?_);obtain⟨p,dx,a,b,c,rfl,hp,ha,N8,Si,hc,k⟩:=h;refine XC (UC (xqA Hr Y) Hr (oa (E8 (xBr Α) Α)) Α);have e1:Ε 64*Ps a+xc-1=Ps (64*a+b-1):=jH (Lu N8);refine⟨_,rfl,p,C,dx,_,_,rfl,hp,T.cl,T.nW,xh0 _ _ _,_,_,rfl,rfl,xM2,_,rfl,p,C,dx,_,_,rfl,hp,T.cl,T.nC,xhP _ _ _,_,_,rfl,rfl,_,_,rfl,rfl,_,rfl,p,C,dx,_,_,rfl,hp,T.cl,T.nI,xiA _ _ _,?_⟩
 try dsimp only
 show LT e1 ⟨_,_,rfl,Cm [_,_,_] xWC (zD 64 4 xUx) On 256 (Wu ha) (xb Si [_,_] AU Os AU xMM N8),hc,k⟩
def PB (W T R:Id):Prop:=∃i ps Rb,i<4/\(∀j,j<4->xHG≤xBz j/\(j<i->xHG<xBz j))/\OX i W T ps/\xvF (NN 0) Sj Rb/\R=sld (WM (qY-1)++Rb)
def PB.facts {W T R:Id}(h:PB W T R)(t:mh):xIK/\xEC 69:=by
 show jx i ps Rb hi hm hp hr rfl;have hlen:=hr.len;have h0:xBz 0=xVH 8:=by rw [xwb (u:=0) (ps:=Xy) rfl,xv2]
 have h1:=(hm 0 Z9).1;rw [h0,xwb hp] at h1;have hl:=t.le;have PJ:=t.one;refine Fh (xnZ (BA (kb hb (xwq (Bu [_,_,_] xWC (zD 64 4 xUx) On (.n 256) xUe (xb hl [_,_] AU Os AU xMM PJ)) (EL 8 [_,_,_,_] (Yz (DX (wy Ak))) (kB (wy (xFc 8 (Vh 3 7)))) On xEF (Bb xNw h1 (ZY (DV hl)))) b) (hr.byt b))));unfold sld;rw [FD,FD];show xXC+2≤69;exact(EL 8 [_,_,_,_] (Yz (DX (wy Ak))) (kB (wy (xFc 8 (Vh 3 7)))) xOl (.n 69) (Bb xNw h1 (ZY (DV hl))))
def xps (t:rP)(s:xvT Tb H H')(n:WF AL):Ξ:=by
 cases e:sV with
 |none=>rfl
 |some o=>
  by_cases z:l=Tb
  ·subst z;obtain⟨ps,h,_⟩:=t;show Μ h n n
  ·show Μ (E6 z e) n n
structure Bks (K:Frag)(mg:Β)(B D G CW C0 C1 C2 C3 c CK Ny:MV):Prop where
 Z:xCV G
 Y:xCJ CK
 T:xwO K mg Ny
 min:x2v
 best:∃f fd dV,Uv K "best_way" "best_way" xpq dV c f fd/\mg "best_way"=ik/\ua Jaf/\xyl K Jaf xMY
inductive xje (Tb:MV) (vs:NE) (H:Hp) (Q:VK) (Nf:XK):Prop
 |mk (a:MV) (x:V) (T W:Id) (h0:vs=[ω,x]) (h1:XL=EX) (h2:RI) (h3:mh) (h4:sZ) (h5:tU l MV R Id Hp (Ξ->PB W T R->AL=qz->xvT Tb H H'->rP->AS)):xje Tb vs H Q Nf
def xxW:Uf ["text","before","way","bits","body","head"] Jaf xpX:=Sc
def xeM (F:OG K "put_block" "put_block" xpX dV f fd)(Z:Bks K mg B D G CW C0 C1 C2 C3 c CK Ny)(hC:uA)(XY:qm)(hK:fU):AH 40 Jaf (xje Tb):=by
 obtain⟨fB,fdB,dB,FB,mB,bB,_⟩:=Z.best;have ZB:=Z.Z.S0.Zb;have X:=ZB.R.X;show Dd ZB.init;show yd Ro ZB.row TB ZB.T;obtain⟨_,_,FH,bH,MH⟩:=Z.T.init;have GH:=xlC (P:=P) (w:=w) (base:=base) FH Z.T;show yd Hw Z.T.row GR (xip (P:=P) (w:=w) (base:=base) Hw.F Z.T Z.Y);show xDz Wc Z.Y.withcheck xxW (λ M7 A outer st H vs Q E hr h=>?_);obtain⟨a,x,T,W,rfl,ha,hx,tw,hT,k⟩:=h;have NA:Bv:=UF;have Ql:oS:=UF;have Ye:xIq:=UF;have hr8:ED 8:=UF;have hr35:ED 35:=UF;show xZ (ju 2 xxW.nd (BI (xa5 FB Z.Z Z.min hC XY hK) hr mB FB.kp bB (xH SZ PP)) (vP 3 xxW.nd (iW (xlG (mg:=mg) FI TB) Ql Z7 ZB.m bI a7) (aB (xow (P:=P) (w:=w) (K:=K) (mg:=mg) (base:=base) (k:=35) rfl rfl rfl rfl rfl Ty hr35 (WS π SZ PP))) (Cg 4 xxW.nd (BN π TB.cl Ro (xgu Ro.F TB X)) (Cg 5 xxW.nd (xvi MH GH Ql Z7 Z.T.m bH .nil a7 (WS (xgQ (P:=P) (w:=w) (K:=K) (mg:=mg) (base:=base) (k:=1) rfl rfl rfl rfl rfl Ty NA) (vJ SZ) (vJ Ν))) (f9 (lJ (xqH Wc Z.Y) Ye Wc (pd (bw C8 Z.T.cl Hw GR hr8) Ν))))))) ⟨_,rfl,_,rfl,a,x,T,W,rfl,ha,hx,tw,hT,λ i o dx H1 hi no ho hmin sT Oi=>A3⟩;have WK:=Z.Z.ok (P:=P) (w:=w) (base:=base) hi;obtain⟨fT,fdT,mT,bT,GT⟩:=WK.tell;obtain⟨fN,Ul,mN,bN,GN⟩:=WK.num;have Vo:=C5 (hT.ne ha (by intro ps z;cases z)) ha;have T7:=hx.sameT hT sT;refine D2
 intro p dp np T4 Ya;have QZ:(UD (eO H1 dp p) p B dp) p=Tu B dp []:=ad;have s0:=xJW B;show DE (EE p dp QZ (λ d H2 nd Pw Sl=>xOQ));have nd0:vz d:=EF nd;have Pj:xA0 H2:=λ c o e=>y8 SH m6
 clear s0 QZ Sl nd;show Ff ⟨_,rfl,o,_,dx,[],fT,fdT,_,_,rfl,xCM ho,rfl,WK.cl,mT,GT,bT,_,rfl,_,rfl,_,rfl,o,p,d,a,x,T,W,0,0,rfl,Pw,Z9,xCM Vo,T7.same Pj,tw,λ ps H3 Vx SD NJ=>A3⟩;have XE:xA0 H3:=λ c o e=>Cz (xCM e) m6 (W2 nd0)
 rw [HG] at SD;have hgd:=(Vx.good tw).2;clear Pw NJ Pj;refine D2
 obtain⟨PK,r3,k3,N1⟩:=SD.ob;show DE ⟨_,rfl,p,PK,_,rfl,N1,RJ,p,d,_,_,rfl,SD,gQ hgd,λ lr Rb H4 Pk Yh row s34=>A3⟩;have Vu:=x8f;have hlen:=row.len;have hcst:=(hmin 0 Z9).1;rw [xwb (u:=0) (ps:=Xy) rfl,xv2,xwb Vx] at hcst;have Sn:=tw.le;clear N1 SD s34 XE Pk;refine Z2 ⟨_,rfl,o,_,dx,[],fN,Ul,_,_,rfl,xCL ho,rfl,WK.cl,mN,GN,bN,o,rfl,_,rfl,a,_,rfl,AN (xCL Vo),_,rfl,lr,_,rfl,AN Yh,?_⟩
 intro h dh nh ndh neh;have s0:=kR Ny nh ndh;show DE ⟨h,dh,i,(pZ).length,(xEa).length,rfl,ad,λ H5 hh Q8=>xOQ⟩;have s45:C' H4 H5:=λ c o e=>mf SH (W2 nh)
 rw [Fy,Fy] at hh;have hlr5:=s45 _ _ Yh;have s15:=Vu.trans s45;clear s0 Q8 Yh s45 Vu;show Wp ⟨_,rfl,h,dh,_,rfl,hh,xcy _ _ _,h,dh,i,T.length,Rb.length,rfl,hh,hi,tw.one,tw.le,(EL 8 [_,_,_] (Aw (Yz Cv)) (xU9 (wy (Rn 7))) On xEF (Bb hgd xNw jI)),λ l6 H6 nl6 s56 ZJ=>?_⟩ ⟨_,rfl,l6,lr,_,_,rfl,rfl,ZJ,s56 _ _ hlr5,bG (by rw [Fy,Fy];show ux xXC;exact(ow [_,_,_] 1 (A9 Cv) (xU9 (CN (Rn 7))) xEe hgd (ZY (Fz hlen)))),SC l7 n7⟩;have s67:=Az (Ο (WM (qY-1))++xEa) n7;have h77:Du H6 l7 (Ο (WM (qY-1))++xEa) l7=qh (WM (qY-1)) Rb:=by rw [ad,FV]
 have s17:=(s15.trans s56).trans s67;show vo H6 l7 (Ο (WM (qY-1))++xEa) H7;show rF hone tw.one ⟨l7,_,rfl,h77,BA (kb hb (xwq (Bu [_,_,_] xWC (zD 64 4 xUx) On (.n 256) xUe (xb Sn [_,_] AU Os AU xMM hone)) (EL 8 [_,_,_] (Aw (Yz Cv)) (xU9 (wy (Rn 7))) On xEF (Bb hgd xNw jI)) b) (row.byt b)),by rw [FD];show kM xXC;exact(EL 2 [_,_,_] (Aw (O5 Cv)) (xU9 (xIv (Rn 7))) xEe (.n 1000) (Bb hgd (Es 2 hlen) jI)),λ l H8 nl s78 hl=>?_⟩ (sN H8 (xps (Oi.same s17) (λ c o n e=>s17 _ _ (C5 n e)) nl) ⟨i,ps,Rb,hi,hmin,Vx,row,rfl⟩ hl (λ c o n e=>s78 _ _ (s17 _ _ (C5 n e))) (Oi.same (s17.trans s78)))
universe K25.Ck
namespace K25
open PySem L2 QQ W17 W16 BP
seal PE PA PS PSs PT PW PG PI
abbrev xvd:M5:=top 31
abbrev xtW:M5:=N3 33
abbrev xvV:M5:=NQ 33
abbrev xvU:M5:=nN 33
abbrev xtb:M5:=Zf 33 5
def bt (R:Id)(t s:Nat):Nat:=xA2/2^(A6-(t+s))%2^s
def xwD:Uf ["row","place","size","end","bytes_to_end","number","byte"] Jaj xvd:=Sc
inductive xi8 (H:Hp) (a:MV) (p:Nat) (s:Nat) (l:MV) (C:Id) (i:Nat) (σ:St) (H2:Hp):Prop
 |mk (v:BV) (h0:σ=[Bm,Dh,Vc,Χ (p+s),Χ ((p+s+7)/8),Χ xOY,v]) (h1:H2=kU xEd):xi8 H a p s l C i σ H2
def xm7 (F:Ζ "bits_at" xvd Jaj)(O:xPQ)(T:Bz):xIz Jaj xsd:=by
 have GO:uE fO fdO Jai spOnes:=xtt O;show Al xwD (λ M7 A outer st H vs Q E hr h=>?_);obtain⟨a,B,p,s,rfl,hB,hb,Vx,hs,k⟩:=h;show E9 (ju 3 xwD.nd (xFL Ty) (Zq 4 xwD.nd (xBT (zk π)) 5 xwD.nd aj (rJ (gk SZ (xBT PP) Ν) 6 xwD.nd (xJ7 5 xwD.nd (ap xsw (pW dQ C8) bu))) (ap xvX (ap xvW C8 (xo (xBr Ν) π)) (g9 GO O Ty)))) (aN _ _ rfl _ _ rfl rfl ?_) ⟨_,rfl,_,_,rfl,rfl,_,_,rfl,rfl,⟨by decide,by decide⟩,?_⟩;have e1:(xIT+Ε s+7)/8=Ps ((p+s+7)/8):=by exact(BJ LE LE LE LE)
 have e2:xIT/8=Ps (p/8):=by exact(BJ LE LE LE LE)
 have e3:xIT+Ε s=i9 s:=by exact(Tz [_,_] P3 P3 [_,_] P3 P3)
 have h1:p/8≤(p+s+7)/8:=by exact(BF 8 [_,_,_,_] (Yz (p8 Eo 7)) x2J Os xXy)
 have h2:yz ((p+s+7)/8):=by exact(BF 8 [_,_,_,_] (.a Eo je) (kB (CF Eo 7)) Os (ZY Vx))
 try dsimp only
 rw [e1,e3];refine⟨_,rfl,_,rfl,_,_,rfl,rfl,⟨by decide,by decide⟩,_,rfl,_,rfl,_,rfl,a,_,rfl,xzv,SC l hl⟩
 try dsimp only
 rw [e2,xaj h1 h2];have hc:wL (xC5 ((p+s+7)/8) (p/8)):=λ b Ow=>zP (G9 (G8 Ow))
 have ZP:El (xC5 ((p+s+7)/8) (p/8)) 4:=by rw [FU,FW];lia
 show hJ key (BP.xds hb Vx) (xC5 ((p+s+7)/8) (p/8)) C;have sm:ZC (kU xEd):=λ b o e=>by show pQ hl e
 refine xHV l ad (rB Wo K l xEd (xi8 H a p s l C) x08 (λ i σ H2 _ z9=>by show xDP e;exact by show vU OM) ?_ ?_)
 ·rintro i y σ H2 hi ⟨v,rfl,rfl⟩;show Vf b N8 (cZ hi);have Si:xCg:=hc b xTO;have OL:xNc i:=Fg N8;have hv:xOY<xQc (C.take i):=BP.xw6 λ b Ow=>hc b (G9 Ow)
  have hv2:xOY<256^4:=FN hv (IH (by decide) (by show UK (Z3 [_,_] 1 LE (Zz 4) LE 4 ZP rV)));refine⟨_,rfl,_,_,rfl,rfl,AG (by decide) (by decide),_,rfl,_,_,rfl,rfl,?_⟩
  ·have:YX 256^4<2^64:=by decide
   lia
  ·have e:=xtk xOY b 8 Si;have e':xOY*2^8+b=BP.val (C.take (i+1)):=by rw [cK N8,BP.xsf]
   try dsimp only
   show ρ e' e (kq RW (xzi z [xLd a,Dh,Vc,Χ (p+s),Χ ((p+s+7)/8),some (V.int z),RW] e))
 ·rintro σ H2 ⟨v,rfl,rfl⟩
  try dsimp only
  rw [Fy,Hc];have e4:kT*Ps ((p+s+7)/8)-i9 s=Ps (8*((p+s+7)/8)-(p+s)):=by lia
  refine⟨_,rfl,_,rfl,_,_,rfl,rfl,.inl ⟨by decide,by decide⟩,_,rfl,_,_,rfl,rfl,?_⟩
  try dsimp only
  show Η e4 ⟨_,_,rfl,rfl,by exact pS,_,rfl,s,rfl,by exact(xU 24 1000 hs),_,_,rfl,rfl,?_⟩
  try dsimp only
  rw [xuq,xvn,key];exact iE sm
structure Nk (C:MV)(H:Hp)(p d:MV)(R:Id)(t:Nat):Prop where
 ob:∃dx,CI=aG dJ
 ls:H d=qz
 by':uG
 le:t≤A6
structure CRd (K:Frag)(mg:Β)(C:MV):Prop where
 cl:yZ
 nH:fj "held"
 nT:fj "taken"
inductive xkO (C:MV) (vs:NE) (H:Hp) (Q:VK) (Nf:XK):Prop
 |mk (p dx a:MV) (R:Id) (h0:vs=we) (h1:CI=xBf) (h2:XL=qz) (h3:xIK) (h4:∀(d:MV) (H':Hp),A1 d->xG8 H' 0->Fu (∀b o,E5=IO->yW->yC=IO)):xkO C vs H Q Nf
def xaT:Uf Jah Jah xtW:=Sc
def xhn (F:x53 xtW)(N:xPU)(Y:RQ)(T:xJM):AH 5 Jah (xkO C):=by
 have GN:T1 4 fN Ul Jae spNeedRow:=xK7 Y;show AQ xaT (λ M7 A outer st H vs Q E hr h=>?_);obtain⟨p,dx,a,R',rfl,hp,ha,hb,k⟩:=h;show Wp (u5 (g9 GN N PP) (af xUg)) (ZW a R' ha hb (SC d hd));have QO:xJN:=sF hd;show Wp ⟨_,rfl,p,C,dx,[],rfl,(by show XV QO hp),T.cl,T.nH,(by show AP 0),_,rfl,p,C,dx,_,rfl,ad,T.cl,T.nT,(by show qc),?_⟩ (k d _ hd ⟨ip (MU ad (xzi l (xSF C dx l) (xxn d 0))),by rw [WI,WI,ad],hb,AM⟩ λ b o e hb=>?_)
 rw [zZ,zZ,yH hd];exact e
inductive spLeft (C:MV) (vs:NE) (H:Hp) (Q:VK) (Nf:XK):Prop
 |mk (p d:MV) (R:Id) (t:Nat) (h0:vs=Bf) (h1:xJ2) (h2:uq (A6-t)):xSx vs H Q Nf
def xbB:bS xvU:=Sc
def xuf (F:Aj "left" "BitReader.left" xvU)(T:xJM)(X:Bz):ya xSx:=by
 show AQ xbB (λ M7 A outer st H vs Q E hr h=>?_);obtain⟨p,d,R,t,rfl,⟨⟨dx,hp⟩,hd,hb,ht⟩,q⟩:=h;show E9 (XC (xo (xBr (vJ Α)) Α)) ⟨_,rfl,p,C,dx,_,_,rfl,hp,T.cl,T.nH,xp7 _ _,d,_,rfl,AN hd,_,_,rfl,rfl,.inl ⟨by decide,by decide⟩,?_⟩ ⟨_,rfl,p,C,dx,_,_,rfl,hp,T.cl,T.nT,xwn _ _,_,_,rfl,rfl,?_⟩;have e:kT*yi pG-Ε t=Ps (A6-t):=by rw [Fy];lia
 try dsimp only
 show vU q
inductive xsT (C:MV) (vs:NE) (H:Hp) (Q:VK) (Nf:XK):Prop
 |mk (p d:MV) (R:Id) (t s:Nat) (h0:vs=[Bw,Zx]) (h1:xJ2) (h2:s≤24) (h3:t+s≤A6) (h4:Ft (xG8 H' (t+s)->(∀c o,W1=IO->Γ->AE=IO)->mI (xFX s))):xsT C vs H Q Nf
def xnl:Uf (gK "size" "number") xu1 xvV:=Sc
def xoZ (F:Aj "take" "BitReader.take" xvV)(S:x7n xv6 Jai fS fdS)(W:xRA fW' QS)
  (B:x8A xvd Jaj fB fdB) (O:xPQ) (L:Me K C "left" "BitReader.left" xvU Jab fL fdL) (T:xJM) (X:Bz):
  gW xu1 (xsT C):=by
 have GS:T1 2 fS fdS Jai spNeedSize:=xmc S W X;have GB:T1 2 fB fdB Jaj xsd:=xm7 B O X;have GL:uE fL fdL Jab xSx:=xuf L.F T X;show AQ xnl (λ M7 A outer st H vs Q E hr h=>?_);obtain⟨p,d,R,t,s,rfl,S0,hs,PU,q⟩:=h;obtain⟨⟨dx,hp⟩,hd,hb,ht⟩:=id S0;have QO:xJN:=xOs hd (by show Τ);have NA:Bv:=hr.mono (by decide);have Ql:oS:=hr.mono (by decide);show E9 (u9 (lJ GS Ql S PP) (ac (QF cL PP (BN SZ T.cl L GL))
  (Fc 2 xnl.nd (il GB Ql B Α Α PP) (V7 (E8 Α PP)) Ty))) (wY _ s hs ?_) ⟨_,rfl,_,rfl,p,dx,_,rfl,hp,xSR (by decide+kernel) (by decide+kernel),p,d,R,t,rfl,S0,_,_,rfl,rfl,_,rfl,aT (o6 h0) EH⟩
 ·show AY (FQ h0) (U5 [_,_,_,_] (tV DD 3 Cv) (wy (A9 xMv)) (Bb PU PO Ω))
 refine⟨_,rfl,p,C,dx,_,_,rfl,hp,T.cl,T.nH,xp7 _ _,_,rfl,p,C,dx,_,_,rfl,hp,T.cl,T.nT,xwn _ _,_,rfl,d,R,t,s,rfl,hd,hb,PU,hs,SC H1 sm⟩;have NX:=xVR;refine⟨_,rfl,p,C,dx,_,_,rfl,NX,T.cl,T.nT,xwn _ _,_,rfl,_,_,rfl,rfl,_,rfl,p,C,dx,_,rfl,NX,T.cl,T.nT,xbU _ _,?_⟩;have e1:Ε t+Ε s=Ps (t+s):=by exact(Tz [_,_] P3 P3 [_,_] P3 P3)
 try dsimp only
 rw [e1,xbr];show yy rfl (q _ ⟨xGU,by show LT WI (yA hd),hb,PU⟩ λ c o e n1=>?_)
 show XV n1 (sm c o e)
inductive xkg (C:MV) (vs:NE) (H:Hp) (Q:VK) (Nf:XK):Prop
 |mk (p d:MV) (R:Id) (t:Nat) (h0:vs=Bf) (h1:xJ2) (h2:A6-t<8) (h3:eg%2^(A6-t)=0) (h4:Ft (Ι->Fj kX)):xkg C vs H Q Nf
def xkZ:xuH (pF "left") xtb:=Sc
def xhz (F:Aj "at_end" "BitReader.at_end" xtb)
  (B:x8A xvd Jaj fB fdB) (O:xPQ) (L:Me K C "left" "BitReader.left" xvU Jab fL fdL) (T:xJM) (X:Bz):
  zC 3 (xkg C):=by
 have GB:T1 2 fB fdB Jaj xsd:=xm7 B O X;have GL:uE fL fdL Jab xSx:=xuf L.F T X;show AQ xkZ (λ M7 A outer st H vs Q E hr h=>?_);obtain⟨p,d,R,t,rfl,S0,h8,hv,q⟩:=h;obtain⟨⟨dx,hp⟩,hd,hb,ht⟩:=id S0;have NA:Bv:=hr.mono (by decide);show E9 (ju 1 xkZ.nd (BN SZ T.cl L GL) (f9 (xAy (dH dZ PP aj bZ) (dH xsJ (il GB hr B Α Α PP) aj bZ)))) ⟨_,rfl,p,dx,_,rfl,hp,xSR (by decide+kernel) (by decide+kernel),p,d,R,t,rfl,S0,?_⟩ (mO _ _ _ _ ?_);have e0:SB (vB (Ps (A6-t)) 8):=FM (by exact(WW (UB 8 On 8 h8)))
 try dsimp only
 show ug e0 Wl ⟨_,rfl,p,C,dx,_,_,rfl,hp,T.cl,T.nH,xp7 _ _,_,rfl,p,C,dx,_,_,rfl,hp,T.cl,T.nT,xwn _ _,_,rfl,d,R,t,A6-t,rfl,hd,hb,by exact(bM DD Cv P3 Cv (Dq [_,_] LE Ak LE Ak ht)),by exact(UB 8 LE 24 h8),SC H1 sm⟩;have e1:A6-(t+(A6-t))=0:=by exact(uv (qe [_,_,_,_] (lK (A9 DC)) (.a Θ bW) Cy Ω (Dq [_,_,_] P3 Cv DD Cv (Dq [_,_] LE Ak LE Ak ht))))
 try dsimp only
 rw [e1,Nat.pow_zero,Nat.div_one];show p9 DY hv (q H1 sm)
universe K25
namespace K25.Ck
open PySem L2 QQ W17 W16 BP
seal PE PA PS PSs PT PW PG PI
abbrev xp2:M5:=top 42
abbrev xwj:M5:=top 105
abbrev xx2:M5:=top 106
abbrev xpS:M5:=top 108
structure Hds (K:Frag)(mg:Β)(C Ny:MV):Prop where
 Y:xCJ C
 T:xwO K mg Ny
 N:RQ
 need:xSJ bY Jae
 headrow:Δ "head_row" xrV xFn
 three:PL "HEAD_BYTES" 3
 twoB:PL "CHECK_BYTES" 2
 most:PL "MOST_INSIDE" 64
inductive xi4 (Ny:MV) (vs:NE) (H:Hp) (Q:VK) (Nf:XK):Prop
 |mk (x:MV) (a b:Nat) (h0:vs=[Cw]) (h1:BM=Au tQ) (h2:EB a) (h3:xPh) (h4:b=0->a=0) (h5:b=0->xBt) (h6:bO->∀p dx H',RT->Ι->Dk=dE Ny (xwu (a/64) (a%64+1) b)->Fj Bw):xi4 Ny vs H Q Nf
def xsV:Uf ["row","told","first","inside"] Jal xwj:=Sc
def xmK (F:Ζ "head_of" xwj Jal)(Z:xPM C Ny):rA Jal (xi4 Ny):=by
 show yd N Z.need GN (ok_needrow (P:=P) (w:=w) (base:=base) N Z.N);obtain⟨_,_,Hr⟩:=Z.headrow;show Dd Z.T.init;have T:=Z.N.X;show CQ t3 h3 Z.three t64 NM Z.most;show Al xsV (λ M7 A outer st H vs Q E hr h=>?_);obtain⟨x,a,b,rfl,hx,ha,hb,Vq,k0,k1⟩:=h;show xCZ;have Ye:xIq:=UF;have Ql:oS:=UF;refine Ep (vP 1 xsV.nd (lJ GN UF N SZ) (QF xvR (xC8 PP) xJE) (Cg 2 xsV.nd (xyD xv8 PP) (vP 3 xsV.nd (xyD xv8 PP) (QF fJ PP (sh (xqA Hr Z.Y) Ye Hr Ty π)) (ac (xDQ (xUR (Ww Ty) (Ww π)) cz)
  (tC (WN (Ww π) (oU π (DT 64 NM t64))) (xvi MI (xlC (mg:=mg) FI Z.T) Ql Z7 Z.T.m bI .nil a7 (WS (xBT Ty) (zk (ji Ty)) π)))))))
 have hby:=xwq ha (Tn hb);show ZX (ZW _ tQ hx hby (qP l hn));have s1:=Ei tQ hn;have XT:ao H l tQ l=Au tQ:=ad;show SN H l tQ H1 ⟨_,rfl,l,_,rfl,AN XT,rfl,_,rfl,oo⟩;show E9 ⟨_,rfl,l,_,_,_,rfl,rfl,Ng.of XT,tO,?_⟩ ⟨_,rfl,l,_,_,_,rfl,rfl,Ng.of XT,wu,?_⟩ ⟨_,rfl,_,rfl,_,rfl,a,b,rfl,ha,Tn hb,λ l2 H2 n2 s2 Uk=>?_⟩;have Pj:=dn;have NH:=C7 XT;show rE ⟨l,l2,rq tQ b xc,rq tQ b xc,rfl,rfl,Ng.of NH,Ng.of Uk,_,rfl,?_⟩ QN oo;have v0:∀{n},(V.int rX=xy6)<->n=0:=λ {n}=>⟨Re (xyF (V.int.inj z)),Re (by show Af z)⟩
 show ZX Aa;rcases JW b with Xi|N8
 ·exact Wq _ _ (λ _=>Wq _ _ (λ _=>k0 Xi _ Pj) (rh (FM (v0.2 Xi)) h)) (rh (FM (v0.2 (Vq Xi))) h)
 show Wp (aq (SC R g)) ((λ(J:R [some (.ref x),some (.ref l),some (vN a),some (vN b)] H2)=>?_) Aa)
 ·exact Wq _ _ (λ _=>Wq _ _ (rh (v0.1 DQ) (JB N8)) (λ _=>J)) x3M
 clear g;show E9 (Wq _ _ (rh (v0.1 DQ) (JB N8)) EH) (mO _ _ _ _ (xGu (xKk DQ) (xDa hb) EH)) ⟨_,rfl,_,_,rfl,rfl,cN,_,rfl,_,_,rfl,rfl,(by show sf 64),_,_,rfl,rfl,_,rfl,?_⟩;intro h dh nh ndh neh;have s0:=kR Ny nh ndh;exact⟨h,dh,a/64,a%64+1,b,rfl,ad,λ H5 hh Q8=>qN (k1 N8 h dh H5 (none_of Pj nh) (λ c o e=>mf (j7 (xCM e)) (ae (xCM e) nh)) hh)⟩
inductive xki (Ny:MV) (vs:NE) (H:Hp) (Q:VK) (Nf:XK):Prop
 |mk (p dx:MV) (a b c:Nat) (h0:vs=Bf) (h1:CI=dE Ny P2) (h2:uq (c+5)):xki Ny vs H Q Nf
def xaa:Uf xzH xzH xx2:=Sc
def xpf (F:Ζ "block_size" xx2 xzH)(Z:xPM C Ny):fV xzH (xki Ny):=by
 show CQ t3 h3 Z.three t2 h2 Z.twoB;show Al xaa (λ M7 A outer st H vs Q E hr h=>?_);show jx p dx a b c rfl hp k;show xBO (E8 (E8 xJE Α) (DT 2 h2 t2)) ⟨_,rfl,p,Ny,dx,_,_,rfl,hp,Z.T.cl,Z.T.nI,xiA _ _ _,_,_,rfl,rfl,_,_,rfl,rfl,?_⟩;have e:Ε 3+Ε c+2=Ps (c+5):=by lia
 try dsimp only
 show vU k
inductive xjY (Ny:MV) (vs:NE) (H:Hp) (Q:VK) (Nf:XK):Prop
 |mk (x:MV) (a b:Nat) (r:Id) (h0:vs=[Cw]) (h1:BM=qh tQ r) (h2:EB a) (h3:xPh) (h4:bO) (h5:r.length=b+2) (h6:∀p dx H',RT->Ι->Dk=dE Ny (xwu (a/64) (a%64+1) b)->Fj Bw):xjY Ny vs H Q Nf
def xjT:Uf ["block","head"] xSW xpS:=Sc
def xeD (F:Ζ "need_head" xpS xSW)(O:Dv "head_of" xwj Jal fO fdO)(Bs:Dv "block_size" xx2 xzH fB fdB)(Z:xPM C Ny):
  sD xSW (xjY Ny):=by
 have T:=Z.N.X;show xV t3 h3 Z.three xjT (λ M7 A outer st H vs Q E hr h=>?_) _;obtain⟨x,a,b,r,rfl,hB,ha,hb,N8,hl,k⟩:=h;have NA:Bv:=UF;refine Tg (QF dZ zu xJE) (oG 1 xjT.nd (g9 (xmK O Z) O (xBi SZ bU xJE)) (QF xuy PP cz) (QF xvR zu (mJ (xpf Bs Z) Bs PP)) PP)
 have el:B4 (Ο (tQ++r)) (b+5):=by rw [Fy,FD,hl];show 3+_=_;lia
 refine⟨_,rfl,x,_,rfl,AN hB,_,_,rfl,rfl,_,rfl,xAM EH⟩
 ·show Ay h DQ el h;lia
 refine aN _ _ rfl x _ rfl xzv (SC l hn);have ec:xAN (Ο (tQ++r)) 3=Ο tQ:=xvl _ 3;rw [ec];have s1:=Ei tQ hn;refine⟨l,a,b,rfl,ad,ha,hb,Re (by lia),Re (by lia),λ _ p dx H2 np s2 hp=>?_⟩;show rF Pj dn (Wq _ _ (vh z (FQ z) (by show Τ)) EH) ⟨_,rfl,x,_,rfl,AN (xCM hB),_,rfl,p,dx,_,_,_,rfl,hp,rfl,_,rfl,?_⟩;rw [el,QN];exact xFI (k p dx H2 (vK np) Pj hp)
def xnQ (n d):x2k d (some (-2))=n-2:=by
 unfold HT.sIx;simp;lia
def xbL (B:Id):xAN vM (-2)=Ο (B.take (aC 2)):=by
 show dR;rw [xnQ,HT.xqn,Iy,Ki,Fy,IP]
def xaN (B:Id)(h:yz 5):ky vM (some 3) (-2)=Ο (xC5 (aC 2) 3):=by
 show dR;rw [xnQ,Sd (Ε 3) (Ps 3),HT.Oh,Fy,G2 (FK (by decide) h),IN,IP,List.drop_take]
def gL (R:Id):pG=xZ5 xBV V.int:=by show Af Ii
def xv1 (R):B4 xz3 (R.length+2):=FD
def xoL (R):oM xz3 (xz3).length 2=R:=by show LT xv1 Mu
inductive xi3 (vs:NE) (H:Hp) (Q:VK) (Nf:XK):Prop
 |mk (a:MV) (R:Id) (h0:vs=CV) (h1:XL=Au xz3) (h2:xIK) (h3:kM R.length) (h4:Ft (Ι->Fj kX)):xi3 vs H Q Nf
def xhB:Uf Jal Jal xp2:=Sc
def xf5 {f fW:MV}(F:Ζ "ends_in_check" xp2 Jal)(Wc:Dv "with_check" xx8 Jal fW QS)(Y:xCJ C):AH 8 Jal xi3:=by
 show Al xhB (λ M7 A outer st H vs Q E hr h=>?_);show dS a R rfl hB hb hl k;show rF hu hr.units (XC (dH (xtH hu) (g9 (xqH Wc Y) Wc (xBi SZ bU (xxh xyd aj))) SZ bZ)) ⟨_,rfl,_,rfl,_,rfl,a,_,rfl,xzv,SC l hn⟩;have ec:xAN (Ο xz3) (-2)=pG:=by rw [xbL,xoL]
 rw [ec];have s1:=Az pG hn;refine⟨l,R,rfl,ad,hb,hl,λ l2 H2 n2 s2 h2=>?_⟩;have hB:=xVX hB;rw [gL] at hB h2;show p9 ⟨_,rfl,l2,a,_,_,rfl,rfl,Ng.of h2,xzv,?_⟩ QN (iE dn)
def xoy (r a):Zg r [xIn]=Ο (xuJ r):=by
 induction r with
 |zero=>rfl
 |succ r ih=>rw [Hv,HJ,ih];rfl
def bt8 (hb:uG)(hi:xWX i):xuA (8*i) 8=R[i]:=by
 have h:=xns hb (Jk i) hi;have e:(R.take (i+1)).drop i=[R[i]]:=by rw [cK (FL hi),List.drop_left' (by rw [FW];lia)]
 rw [e,gl,xoI,show i.succ-i=1 by exact BC (BX P3 Ψ LE AU (NL.J' xV4)) (BX Ψ P3 AU LE Ω),xwa,xwa] at h;show DK;rw [h];show CS bt (show A6-(8*i+8)=8*(R.length-(i+1)) by exact BC (qe [_,_,_,_] (lK (A9 xT7)) (CD 8 W7 bW) Ak (DV Ω) (Dq [_,_] xUs Ak (QJ je) Ak (DV hi))) (Bu [_,_,_,_] (lK (kx W7)) (.a (A9 xT7) bW) Ak LE Ω (DV (Zi [_,_] On On hi))))
structure xxG (K:Frag)(mg:Β)(C:MV):Prop where
 Y:RQ
 T:xJM
 m:mg "BitReader"=xM
 init:∃f fd,x53 xtW/\ua Jah/\yD
 take:∃f fd,xSf K C "take" xvV xu1
 left:BL "left" "BitReader.left" xvU
 atend:BL "at_end" "BitReader.at_end" xtb
 need:xSJ bY Jae
 size:x1F xv6 Jai
 ones:Δ "ones" xvb Jai
 bits:Δ "bits_at" xvd Jaj
def xxG.tk (Z:xCT):∃f fd,xSf K C "take" xvV xu1/\∀P w base,gW xu1 (xsT C):=by
 obtain⟨f,fd,Tk⟩:=Z.take;show ZV L Z.left W Z.Y.whole;show vO S Z.size O Z.ones Ba Z.bits;exact⟨f,fd,Tk,λ _ _ _=>xoZ Tk.F S W Ba O L Z.T Z.Y.X⟩
def _root_.K25.Nk.keep (h:xJ2)(k:∀c o,W1=IO->(c=p\/c=d)->AE=IO):xG8 H' t:=by
 obtain⟨⟨dx,hp⟩,hd,r1,r2⟩:=h;exact⟨ip (zf hp Dm),zf hd xj,r1,r2⟩
inductive xjC (C:MV) (vs:NE) (H:Hp) (Q:VK) (Nf:XK):Prop
 |mk (o r d:MV) (x:V) (R:Id) (n:Nat) (h0:vs=[y9,jl,Qh,x]) (h1:UH H 0) (h2:Zu n) (h3:n≤R.length) (h4:∀l H',Ξ->AL=Au (R.take n)->UH H' (8*n)->(∀c o,W1=IO->UW->AE=IO)->AS):xjC C vs H Q Nf
def xgP:Uf Jad Jad xpr:=Sc
def xcT:xE ["step","reader"]:=Z8
def xcd (C:MV):TE:=xmW C "take" (xsT C) [] E0 xAB (xIf (xuX xVo))
inductive xjM (C:MV) (H:Hp) (r:MV) (d:MV) (R:Id) (l:MV) (i:Nat) (ys:NE) (σ:St) (H2:Hp):Prop
 |mk (v0:BV) (h0:σ=[v0,xCc]) (h1:i≤R.length) (h2:ys=Ο xKw) (h3:RZ=gm) (h4:UH H2 (8*i)) (h5:∀c o,W1=IO->UW->yf=IO):xjM C H r d R l i ys σ H2
def xfY (F:xW3 "RawWay.read" xpr)(Z:xCT):rA Jad (xjC C):=by
 have X:=Z.Y.X;show xLD Tk Z.tk;have GT:=xOa P w;have TR:=Z.T;show AQ xgP (λ M7 A outer st H vs Q E hr h=>?_);obtain⟨o,r,d,x,R,n,rfl,hR,NM,hnR,k⟩:=h;refine XC (xpB (js:=[none,some 1]) rfl
  ⟨rfl,Z8,Z8,Z7,λ x c h=>(by show WY (xsB h);rfl),λ x hx=>?c1,rfl,λ i x j h1 h2=>?c2⟩
  (xBn Rl) (λ fp s H=>xCp xcT)
  (λ fp s H=>xUU hr))
 case c1=>
  rcases hx with hx|hx
  ·have m':(x,NameKind.cell)∈([xFd,yJ "step",xFT "reader"]:xu4):=dv;have e:x="reader":=by show xXp
   show Fs CY
  ·have m':(x,NameKind.free)∈([xFd,yJ "step",xFT "reader"]:xu4):=dv;simp at m'
 case c2=>
  show uN (xtL h1 h2) (xP8 (λ c h=>h))
 refine U8 _ rfl AA (by lia) (by lia) zR;obtain⟨⟨dx0,TC⟩,XX,hb,_⟩:=id hR;have Pk:xI8:=xOZ;have QP:uB:=xO0;refine xlU (g:=UT) (te:=xcd C) (lo:=0) (l:=l) (k:=(rX).toNat)
  (xjM C H r d R l)
  (U8 none rfl AM ad (hR.keep λ c o e _=>xCU) (λ c o e _=>xCU)) ?_ ?_ ?_ ?_
 ·rintro i ys σ H2 hi ⟨v0,rfl,hiR,rfl,Pn,Oe,kp⟩;have hin:i<n:=by simpa using hi
  obtain⟨⟨dx,Ql⟩,_,_,_⟩:=id Oe;refine⟨_,rfl,r,dx,_,rfl,Ql,oy,r,d,R,_,8,rfl,Oe,Z9,by exact(Bu [_,_,_] (wy xUs) (kB Cv) (QJ je) Ak (DV hnR) (DV hin)),τ H3 Ox NJ⟩
  ·have OL:xWX i:=by exact(Fp [_,_,_] 2 On Θ On Os hnR hin)
   rw [bt8 hb OL];have hRi:A7 R R[i]:=i';refine⟨xGX,bx (by rw [Fy,FW];exact(ow [_,_,_] 1 (pO LE) (iU Θ) LE NM (Fx hin DN))),_,rfl,OL,by rw [cK hRi,FV];rfl,ad,?_,λ c o e n=>?_⟩
   ·refine Ox.keep λ c o e hc=>?_
    show Sa (by show xXq hc)
   ·show PH (Cz (Ry n) n)
 rotate_left
 ·exact λ x σ H A B h z=>tN
 ·rintro σ H A B h ⟨v,e1,a',dx,fs,e2,e3,e4,p',d',R',t',s',e5,e6,e7,z',z⟩;exact⟨v,e1,a',dx,fs,e2,e3,e4,p',d',R',t',s',e5,e6,e7,z',λ H' z1 z2=>jv (z H' z1 z2)⟩
 ·rintro ys σ H2 ⟨v0,rfl,hn,rfl,Pn,Oe,kp⟩;rw [Gr] at Pn Oe hn;exact xPk nl Pn Oe kp
def xaL {v:α}(h1:bO)(h2:xyq b)(h:Aq xs (WL b) v):aU (atI xs (-xc)):=by
 have e:SL (xKZ (-eN)) (WL b):=by
  unfold ixN;rw [FY (by lia),F8 (by lia)];congr 1;lia
 show Rq atI e h
def cpy (B:Id) (b:Nat):Ct Id
 |0=>B
 |n+1=>xGn++[(xGn).getD (xLH B n-b) 0]
def xvs (B)(b):∀n,B4 xGn (a9 n):=λ n=>by
 induction n with
 |zero=>rfl
 |succ n ih=>rw [cpy,FD,ih];rfl
inductive RnR (R:Id) (e:Nat):Ct (Id->lT Id)
 |done {t:Nat} {S:Id}:xFl e->xA5 e t S t S
 |run {t t':Nat} {S S':Id}:xI4->t+14≤A6->xuQ (xGA+1)≤e->xA5 e (t+14) (S++ki xGA 1 (Zm 6 8)) t' S'->xA5 e t S t' S'
inductive xvy (R:Id) (e:Nat):Ct (Id->lT Id)
 |done {t:Nat} {S:Id}:xFl e->xJu t S t S
 |sg {t t':Nat} {S S':Id}:xI4->t+9≤A6->xFX 1=0->xJu (t+9) (S++[Zm 1 8]) t' S'->xJu t S t' S'
 |cp {t t':Nat} {S S':Id}:xI4->t+13≤A6->xFX 1=1->xuQ (Zm 9 4+3)≤e->AK (Zm 1 8)->yK (Zm 1 8)->xJu (t+13) (cpy S (Zm 1 8) (Zm 9 4+3)) t' S'->xJu t S t' S'
def xvy.le (h:xJu t S t' S'):xTp e:=by
 cases h with
 |done h=>exact Fz h
 |sg h=>exact Gi h
 |cp h=>exact Gi h
structure Rds (K:Frag)(mg:Β):Prop where
 X:wq
 room:Δ "need_room" xq8 xMk
 lay:Δ "lay_copy" xp6 xL9
 add:Δ "add_copy" xpL xUS
 ahead:Δ "signs_ahead" xpH mw
inductive xjb (vs:NE) (H:Hp) (Q:VK) (Nf:XK):Prop
 |mk (a:MV) (xs:NE) (s e:Nat) (h0:vs=[ω,Zx,vN e]) (h1:XL=Ar) (h2:xs.length+s≤e) (h3:Yv):xjb vs H Q Nf
def sK:Uf xMk xMk xq8:=Sc
def xmb (F:Ζ "need_room" xq8 xMk)(Z:xHp):gW xMk xjb:=by
 show Al sK (λ M7 A outer st H vs Q E hr h=>?_);show jx a xs s e rfl ha he k;show Qt (QF cL (E8 (xsM Z.X.len SZ) PP) Ty) ⟨_,rfl,a,_,rfl,AN ha,_,rfl,_,_,rfl,rfl,_,rfl,_,_,rfl,rfl,_,rfl,xMZ k⟩;show AY DQ (U5 [_,_,_] xUt (CN P3) (Fx he PO))
inductive xiY (vs:NE) (H:Hp) (Q:VK) (Nf:XK):Prop
 |mk (l:MV) (B:Id) (b z:Nat) (h0:vs=[A8,fb,vN z]) (h1:sV=vv) (h2:bO) (h3:yz b) (h4:kM (a9 z)) (h5:xu7 (pC H l (xNu z))):xiY vs H Q Nf
def xiT:Uf (x4L "step") xUS xpL:=Sc
inductive xjl (H:Hp) (l:MV) (B:Id) (b:Nat) (z:Nat) (j:Nat) (σ:St) (H2:Hp):Prop
 |mk (v3:BV) (h0:σ=[ye,RW,Χ z,v3]) (h1:H2=pC H l (xNu j)):xjl H l B b z j σ H2
def xfo (F:Ζ "add_copy" xpL xUS)(T:wq):fV xUS xiY:=by
 show Al xiT (λ M7 A outer st H vs Q E hr h=>?_);obtain⟨l,B,b,z,rfl,hB,N8,Si,hz,k⟩:=h;show Qt (Wt (xsG Z7 T.range Rl) 3 xiT.nd (af (U9 SZ (TP (xxh xyd PP))))) (U8 _ rfl (Ε z) (by lia) (by lia) ?_)
 try dsimp only
 show Η Gr (xmx (D:=Wo) (xjl H l B b z) (AG none rfl) ?_ ?_)
 ·funext c;by_cases e:c=l
  ·subst e;show LT ad hB
  ·rw [ai e]
 ·rintro j σ H2 hj ⟨v3,rfl,rfl⟩;have hlen:=xvs B b j;have hg:xLH B j-b<xLH B j:=by exact(Bu [_,_,_] (Br 1 Dz) DC On Os N8 (NL.J' (Fp [_,_,_,_] 1 Eo qA Os LE Si xYS)))
  refine⟨_,rfl,oI ad,_,rfl,_,rfl,_,rfl,l,_,_,vN ((xNu j).getD (xLH B j-b) 0),rfl,rfl,OM,xaL N8 (by show Ai (qe [_,_,_,_] (A9 Eo) DC Os Si xYS)) ?_,?_⟩
  ·rw [Fy,Gs,Gu,FL hg];rfl
  ·show Wp (Fb l _ _ rfl ad (bx (by show Ai (B7 [_,_,_,_] Θ (xI1 LE) (w6 (CN zo)) LE (.n 2000) hz (d8 hj hlen)))) ?_) (AG (some (V.int (Gl+Ε j))) rfl);rw [d9,cpy,FV];rfl
 ·rintro σ H2 ⟨v3,rfl,rfl⟩;exact k
inductive xiZ (vs:NE) (H:Hp) (Q:VK) (Nf:XK):Prop
 |mk (x:MV) (W:Id) (h0:vs=[Cw]) (h1:BM=mD) (h2:∀l,Ξ->xNP ve):xiZ vs H Q Nf
def xgw:Uf mw mw xpH:=Sc
def xmQ (F:Ζ "signs_ahead" xpH mw)(T:wq):fV mw xiZ:=by
 show Al xgw (λ M7 A outer st H vs Q E hr h=>?_);show dD x W hx k h;refine XC (xvo (CZ xuy SZ cz) d5 xWG);exact qQ (aV (UJ x (AN hx) (λ l nl=>qb nl)))
inductive spLay (vs:NE) (H:Hp) (Q:VK) (Nf:XK):Prop
 |mk (l:MV) (S:Id) (b z e:Nat) (h0:vs=[A8,fb,vN z,vN e]) (h1:sV=zW) (h2:kM e) (h3:bO) (h4:yK b) (h5:xuQ z≤e) (h6:xu7 (pC H l (cpy S b z))):spLay vs H Q Nf
def xbY:Uf xL9 xL9 xp6:=Sc
def xn8 (F:Ζ "lay_copy" xp6 xL9)(Z:xHp):rA xL9 spLay:=by
 show ZV Nr Z.room Ac Z.add;have GN:=xmb (P:=P) (w:=w) (base:=base) Nr Z;have GA:=xfo (P:=P) (w:=w) (base:=base) Ac Z.X;show Al xbY (λ M7 A outer st H vs Q E hr h=>?_);obtain⟨l,S,b,z,e,rfl,hl,he,N8,Si,hz,k⟩:=h;have NA:Bv:=UF;show E9 (u9 (il GN hr Nr SZ Ty π) (sQ (WN (Ww PP) (oU PP (xsM Z.X.len SZ))) (aB (il GA NA Ac SZ PP Ty)))) ⟨_,rfl,_,rfl,_,rfl,l,_,z,e,rfl,hl,by show Ai hz,?_⟩ (Wq _ _ (λ h=>Wl) EH)
 ·have h0:b=0:=Int.ofNat.inj (V.int.inj DQ);exact JB N8 h0
 refine⟨_,rfl,_,rfl,l,_,rfl,AN hl,_,_,rfl,rfl,_,rfl,xAM EH⟩
 ·show wB DQ Fy (U5 [_,_] EA DD (Fx Si PO))
 exact⟨_,rfl,_,rfl,_,rfl,l,S,b,z,rfl,hl,N8,Si,by exact(YY [_,_,_] 2 P3 (w6 Tm) P3 he hz),k⟩
inductive xjG (C:MV) (vs:NE) (H:Hp) (Q:VK) (Nf:XK):Prop
 |mk (o r d:MV) (x:V) (R T:Id) (n t':Nat) (h0:vs=[y9,jl,Qh,x]) (h1:UH H 0) (h2:xA5 n 0 [] t' T) (h3:Zu n) (h4:∀l H',Ξ->AL=EX->UH H' t'->(∀c o,W1=IO->UW->AE=IO)->AS):xjG C vs H Q Nf
def xsn:Uf ["self","reader","count","before","signs","size","sign"] Jad xpQ:=Sc
inductive xjn (C:MV) (H:Hp) (o:MV) (r:MV) (d:MV) (x:V) (R:Id) (T:Id) (n:Nat) (t':Nat) (l:MV) (m:Nat) (σ:St) (H2:Hp):Prop
 |mk (v5:BV) (v6:BV) (S:Id) (t:Nat) (h0:m=n-S.length) (h1:xA5 n t S t' T) (h2:σ=[xCb,xCc,yc,xAs,ye,v5,v6]) (h3:RZ=zW) (h4:UH H2 t) (h5:∀c o,W1=IO->UW->yf=IO):xjn C H o r d x R T n t' l m σ H2
def xfa (F:xW3 "RunWay.read" xpQ)(Y:xHp)(Z:xCT):rA Jad (xjG C):=by
 have X:=Z.Y.X;show xLD Tk Z.tk;have GT:=xOa P w;have TR:=Z.T;show yd Nm Y.room GM (xmb (P:=P) (w:=w) (base:=base) Nm Y);show AQ xsn (λ M7 A outer st H vs Q E hr h=>?_);obtain⟨o,r,d,x,R,T,n,t',rfl,hR,hk,NM,k⟩:=h;refine Ep (Fc 4 xsn.nd d5 (zX (tT dZ Ν Ty) (Cg 5 xsn.nd (zk (xUU hr)) (vP 6 xsn.nd (xUU hr) (aB (il GM hr Nm Ν C8 Ty)) (af (xE3 IX Jt xwx Ν (xNG bu C8)))))) Ν)
 obtain⟨⟨dx0,TC⟩,XX,hb,_⟩:=id hR;have no:∀t,WF xUN:=λ t=>oy
 show xHz D2 xJg;have Pk:xI8:=xOZ;have QP:uB:=xO0;show Wp D2 (AG (xjn C H o r d x R T n t' l) ⟨n,none,none,[],0,rfl,hk,rfl,ad,hR.keep λ c o e _=>xCU,λ c o e _=>xCU⟩)
 rintro m σ H2 ⟨v5,v6,S,t,rfl,hk,rfl,Pn,Oe,kp⟩;refine⟨_,rfl,l,_,rfl,xOK,_,rfl,_,_,rfl,rfl,_,rfl,qR h h⟩
 ·clear g1;show Ay h' DQ Fy h';cases hk with
  |done e=>exact U5 [_,_] (xBh LE) P3 (xEK (xKk h'))
  |run q1 q2 q3 q4=>
  clear h h';refine xFN;show DG TL Ql Oe.ob Rr
  refine⟨_,rfl,r,TL,_,rfl,Ql,Vd,r,d,R,t,6,rfl,Oe,Z9,by exact(BX xTX Ak (D7 6) Ak q2),τ H3 Ox NJ⟩;show xI (ue _ _ Zw);have e1:Ε xGA+1=jm xGA:=by exact(BJ On On On On)
  try dsimp only
  rw [e1];generalize hz:xGA+1=z at*;show DG PK Pe Ox.ob Rr
  show xI ⟨_,rfl,r,PK,_,rfl,Pe,Vd,r,d,R,t+6,8,rfl,Ox,Z9,by exact(BX xTX Ak (QJ (D7 6)) Ak q2),λ H4 OB QR=>Zw⟩;generalize Zm 6 8=s at*;have X1:=US xGX Pk;refine Rr
  show xI ⟨_,rfl,_,rfl,_,rfl,l,_,z,n,rfl,X1,by show Ai (bM P3 Tm P3 Tm q3),Zw⟩;refine UJ (oI X1) (by show qa) (SC l4 n4);have s4:=xIx aR;have Uj:ni l4 aR l4=Φ aR:=ad;have h4l':=ES X1;have nl4:ZZ l4:=ae X1 n4;have hR5:UH (E4 H4 l4 aR) (t+14):=OB.keep λ c o e _=>gj
  have Q8:∀c o,W1=IO->UW->ni l4 aR c=IO:=λ c o e z=>ES (US (Cz (Ry z) z) z)
  show EI H4 l4 aR H5 ⟨_,rfl,l4,_,_,rfl,rfl,Uj,by lia,by lia,bG (by show ux (1*_);lia),SC l6 n6⟩;rw [Gr,xoy];have s6:=Ei x3H n6;have h66:ao H5 l6 x3H l6=Au x3H:=ad;have h6l:=tx h4l';refine⟨l,l6,_,_,rfl,rfl,h6l,h66,bG (by simp;exact(ow [_,_,_] 2 P3 (iU Tm) P3 NM q3)),_,?_,_,_,_,_,rfl,q4,rfl,by rw [ad,FV],hR5.keep λ c o e hc=>?_,λ c o e z=>?_⟩
  ·rw [FD,Gy,<-hz];exact Ie q1 (IT rQ)
  ·show XV (by show xXq hc) xHU
  ·show PH (tx (mf e z))
 ·cases hk with
  |run q1=>show Wv (by show Ai (xNF q1)) h
  |done e=>exact xFJ (xPk nl Pn Oe kp)
inductive xjW (C:MV) (vs:NE) (H:Hp) (Q:VK) (Nf:XK):Prop
 |mk (o r d x:MV) (R W S:Id) (n t':Nat) (h0:vs=[y9,jl,Qh,Cw]) (h1:UH H 0) (h2:BM=mD) (h5:xvy R Q3 0 W t' S) (h6:Zu n) (h7:Rx) (h8:∀l H',Ξ->AL=Au xYz->UH H' t'->(∀c o,W1=IO->UW->AE=IO)->AS):xjW C vs H Q Nf
abbrev xcj:An:=["self","reader","count","before","signs","begin","end","back","size"]
def xwG:Uf xcj Jad xq4:=Sc
inductive xji (C:MV) (H:Hp) (o:MV) (r:MV) (d:MV) (x:MV) (R:Id) (W:Id) (S':Id) (n:Nat) (t':Nat) (l:MV) (m:Nat) (σ:St) (H2:Hp):Prop
 |mk (v7:BV) (v8:BV) (S:Id) (t:Nat) (h0:m=Q3-S.length) (h1:xvy R Q3 t S t' S') (h2:σ=[xCb,xCc,yc,TD x,ye,Χ W.length,Χ Q3,v7,v8]) (h3:RZ=zW) (h4:UH H2 t) (h5:∀c o,W1=IO->UW->yf=IO):xji C H o r d x R W S' n t' l m σ H2
def xfx (F:xW3 "CopyWay.read" xq4)(Y:xHp)(Z:xCT):sD Jad (xjW C):=by
 have X:=Z.Y.X;show xLD Tk Z.tk;have GT:=xOa P w;have TR:=Z.T;show ZV La Y.lay Ao Y.ahead;have GA:=xmQ (P:=P) (w:=w) (base:=base) Ao X;have GL:=xn8 (P:=P) (w:=w) (base:=base) La Y;show DG tl hle X.least (F.ok xwG λ M7 A outer st H vs Q E hr h=>?_)
 intro _;obtain⟨o,r,d,x,R,W,S',n,t',rfl,hR,hx,hk,NM,hW,k⟩:=h;have PY:xGO:=UF;have NA:Bv:=UF;refine ju 4 xwG.nd (mJ GA Ao π) (Zq 5 xwG.nd (vJ Ν) 6 xwG.nd (E8 C8 Ty) (zX (tT dZ Ν bu) (af (xJ9 (Ww xNT) (U9 Ν xNT) (Cg 7 xwG.nd xNT (pX 8 xwG.nd (E8 xNT xHu) (aB (xvA GL hr La (xCf Ν cb VP bu)))))))) (nr Ν C8))
 obtain⟨⟨dx0,TC⟩,XX,_,_⟩:=id hR;have no:∀t,WF xUN:=λ t=>oy
 show xHz D2 (Qc _ rfl x W hx (BU l nl));have Pk:xI8:=xOZ;have QP:uB:=xO0;show xHz D2 (UJ l (AN ad) A3)
 try dsimp only
 show Η Fy D2
 have e0:x0m+AA=Ps Q3:=by exact(Tz [_,_] P3 P3 [_,_] P3 P3)
 show DE (aN _ _ rfl _ _ rfl rfl A3)
 try dsimp only
 show ug e0 D2 (AG (xji C H o r d x R W S' n t' l) ⟨n,none,none,W,0,by exact uL (bM qA Θ LE Os Ω) Θ qA Os LE (NL.J' (vQ [_,_] Os DD)),hk,rfl,ad,hR.keep λ c o e _=>xCU,λ c o e _=>xCU⟩)
 rintro m σ H2 ⟨v7,v8,S,t,rfl,hk,rfl,Pn,Oe,kp⟩;have hle2:=hk.le;refine⟨_,rfl,l,_,rfl,xOK,_,rfl,_,_,rfl,rfl,_,rfl,qR h h⟩
 ·clear g1;show Ay h' DQ Fy h';have M8:S.length<Q3:=by exact(bM On Θ On Θ (xKk h'))
  obtain⟨TL,Ql⟩:=Oe.ob;clear h h';have t1:t+1≤A6:=by cases hk<;>lia
  show yy xzp ⟨_,rfl,r,TL,_,rfl,Ql,Vd,r,d,R,t,1,rfl,Oe,Z9,t1,τ H3 Ox NJ⟩;show xHZ PK Pe Ox.ob Vp xGX;cases hk with
  |done e=>exact U5 [_,_,_] (pO DD) (pV DD) (xEK M8)
  |sg q1 q2 q3 q4=>
   show ug q3 (VT rfl _ (xAG QN h)) ⟨_,rfl,xW9,_,rfl,r,PK,_,rfl,Pe,Vd,r,d,R,_,8,rfl,Ox,Z9,by exact(BX (D7 9) Ak zr Ak q2),τ H4 OB QR⟩;have X1:=US Vp Pk;refine⟨l,_,_,rfl,rfl,X1,bx (by show Ai (ow [_,_,_] 1 qA (iU (Br 192 DC)) LE NM (Fx hW hle2))),_,?_,_,_,_,_,rfl,q4,rfl,by rw [ad,FV];rfl,?_,λ c o' e z=>?_⟩
   ·show mQ x2N
   ·refine OB.keep λ c o e hc=>?_
    show Sa (by show xXq hc)
   ·show PH (US (Cz (Ry z) z) z)
  |cp q1 q2 q3 q4 q5 q6 q7=>
   show ug q3 (VT rfl _ (xGu DQ (by show Τ) EH)) (xLE q2')
   show Z1 ⟨_,rfl,r,PK,_,rfl,Pe,Vd,r,d,R,_,8,rfl,Ox,Z9,by exact(BX xTW Ak zr Ak q2),λ H4 OB QR=>q2' _ _ ?_⟩ q2';show DG dx4 Ua OB.ob (xLE q2')
   refine⟨_,rfl,r,dx4,_,rfl,Ua,Vd,r,d,R,_,4,rfl,OB,Z9,by exact(BX xTW Ak (CF zr 4) Ak q2),τ H5 hR5 Q8⟩;have ez:Ps (xuA (t+1+8) 4)+3=Ps (Zm 9 4+3):=by show LT (show t+1+8=t+9 by exact EN AV zr (D7 9) AV (D7 9) zr) (BJ rg rg rg rg)
   show Z1 (ue _ _ (q2' _ _ ?_)) q2'
   try dsimp only
   rw [ez];have h5l:=mf (US Vp Pk) Pk;refine⟨_,rfl,_,rfl,_,rfl,_,rfl,l,S,Zm 1 8,Zm 9 4+3,Q3,rfl,h5l,by exact(YY [_,_] 1 LE (Y6 64 192) P3 NM hW),q5,q6,q4,_,?_,_,_,_,_,rfl,q7,rfl,ad,?_,λ c o' e z=>?_⟩
   ·show LT xvs x3W
   ·refine(show t+1+8+4=t+13 by exact EN AV (CF zr 4) xTW AV xTW (CF zr 4))▸hR5.keep λ c o e hc=>?_
    show Sa (by show xXq hc)
   ·show PH (mf (US (Cz (Ry z) z) z) z)
 ·cases hk with
  |sg q1=>show Wv (by show Ai (WW (bM On Θ On Θ q1))) h
  |cp q1=>show Wv (by show Ai (WW (bM On Θ On Θ q1))) h
  |done e=>
   show DE A3;have ec:xE6 (S'.map vN) x6W=Ο x5g:=by rw [dm,<-IN]
   refine⟨_,rfl,_,rfl,_,rfl,l,_,rfl,Ng.of Pn,SC l9 n9⟩
   try dsimp only
   rw [ec];have s9:=Ei x5g n9;refine k l9 _ ?_ ad (Oe.keep λ c o e _=>xBs) λ c o e n=>xAx (Ry n)
   cases e:H l9 with
   |none=>rfl
   |some o'=>
    by_cases z:l9=r
    ·subst z;obtain⟨⟨dx9,XO⟩,_⟩:=Oe;show Μ XO n9 n9
    ·show Μ (Ry z) n9 n9
universe K25.Ck
namespace K25
open PySem L2 QQ W17 W16 BP
seal PE PA PS PSs PT PW PG PI
abbrev xya:M5:=Zf 33 3
inductive xkN (C:MV) (vs:NE) (H:Hp) (Q:VK) (Nf:XK):Prop
 |mk (p:_) (d:_) (R:_) (t:_) (h0:vs=Bf) (h1:xJ2) (h2:uq t):xkN C vs H Q Nf
def xa9:bS xya:=Sc
def xl5 (F:Aj "place" "BitReader.place" xya)(T:xJM):ya (xkN C):=by
 show AQ xa9 (λ M7 A outer st H vs Q E hr h=>?_);obtain⟨p,d,R,t,rfl,⟨⟨dx,hp⟩,hd,hb,ht⟩,q⟩:=h;refine XC Α;exact⟨_,rfl,p,C,dx,_,_,rfl,hp,T.cl,T.nT,xwn _ _,q⟩
def Nk.same (h:xJ2)(s:Ι):xG8 H' t:=by
 obtain⟨⟨dx,h1⟩,h2,h3,h4⟩:=h;exact⟨ip (E6 h1),E6 h2,h3,h4⟩
universe K25
namespace K25.C
open PySem L2 QQ C9 C10
seal PE PA PS PSs PT PW PG PI
structure Mk2 (K:Frag)(mg:Β)(C:MV):Prop where
 X:Bz
 Y:Lns K mg
 need:x8Q xwp
 cof:Δ "codes_of" xrS Jag
 keep:∃f fd,qW C "keep_beginnings" "CodeReader.keep_beginnings" xt4 x18
 R:CRc K mg C
def ok_cinit (F:x52 sCInit)(M:Mk2 K mg C):AH 34 xYX xSm:=by
 obtain⟨X,Y,⟨_,_,N⟩,⟨_,_,O⟩,⟨_,_,Ke⟩,T⟩:=M;have GO:=xjR (P:=P) (w:=w) (base:=base) O N Y;have GK:=xis (P:=P) (w:=w) (base:=base) Ke.F T X;show AQ scCInit (λ M7 A outer st H vs Q E hr h=>?_);obtain⟨p,dx,a,L,rfl,hp,ha,G,q⟩:=h;have NA:Bv:=UF;show Wp (u5 xpj (sQ (V7 xpj) (xsK Gd rfl (xul Z7 Y.X.enum (Bx (g9 GO O PP))) (xHR 2 scCInit.nd (xzm 3 scCInit.nd xve)) (af (mX (xtK (xaS π)) (sQ (xo8 xMn Α π Ty rfl) (xN SZ T.cl Ke GK NA (xH xzU xzU)))))))) D2
 intro d nd;have QO:xJN:=sF nd;show DE ⟨_,rfl,p,C,dx,[],rfl,(by show XV QO hp),T.cl,T.nT,(by show AP 0),A3⟩;refine D2
 intro e ne;have npe:p≠e:=by
  show Zn;show Μ ad ne ne
 have nde:d≠e:=by
  show Zn;show WR WI ad ne ne
 show DE ⟨_,rfl,p,C,dx,_,rfl,(by rw [ai npe,ad]),T.cl,T.nB,(by show qc),A3⟩;have neH:A1 e:=by
  rw [ai npe.symm,ai nde.symm] at ne;exact ne
 try dsimp only
 rw [iM];have kp:∀b o,E5=IO->yW->rG (xPA xQg xIZ kI) sR b=IO:=λ b o ez hn=>by
  rw [ai hn,Tt ez neH,ai hn,Tt ez nd];exact ez
 have QZ:rG (xPA xQg xIZ kI) sR p=VQ d e:=ad;have XX:SL (rG (xPA xQg xIZ kI) sR d) kI:=by
  rw [WI,ai nde,WI,ad]
 show DR he0 (SL (rG (xPA xQg xIZ kI) sR e) kI) (by
  rw [ai npe.symm,ad]) (rG (xPA xQg xIZ kI) sR) H0;have nap:DO a:=xQ ha (by show Τ);refine ZW _ L (SU a (B1 ha nap) G.most) G (λ l xs H1 nl s1 ON Yq=>?_);have OV:DP:=Re (by show B0 QZ nl nl)
 have QP:uB:=Re (by show B0 XX nl nl)
 have nle:ZZ e:=Re (by show B0 he0 nl nl)
 refine EE l _ (Ng.of ON) (xnA (λ i σ H2=>∃v2 v3 k1 k2,σ=[Qg,Bm,v2,v3]/\H2 p=VQ d e/\SL (H2 d) (.dT k1)/\SL (H2 e) (.dT k2)/\tS i k1/\ou i k2/\RZ=Ar/\og H2 dO/\
   ∀b o,E5=IO->yW->H2 b=IO) ⟨none,none,[],[],rfl,Ec QZ,Ec XX,Ec he0,xaq L,xaz L,ON,Yq,λ b o ez hn=>Ec (kp b o ez hn)⟩ (λ i σ H' _ z9=>by obtain⟨_,_,_,_,_,_,_,_,_,_,z,_⟩:=z9;exact Ng.of z) ?_ ?_)
 ·rintro i x t σ H2 hx nt ⟨v2,v3,k1,k2,rfl,NB,hd2,Ud,hT,hB,NH,hC,QY⟩;have OL:i<(dO).length:=by show Bg hC.1 (Fg hx)
  have hiL:kc i:=by
   unfold codes at OL
   rwa [bC] at OL
  have hLle:=G.le;have st:=OD [xA,x];refine⟨t,_,rfl,jh,rfl,_,_,rfl,_,_,rfl,rfl,?_⟩;have ot:=hC.2 i x _ hx i';have hpT:=xT NB;have hdT:=xT hd2;have heT:=xT Ud;have hlT:=xV0;have hCT:og _ dO:=hC.keep λ t2 ys ez=>xT ez
  show DR othT (∀b o,E5=IO->yW->nV [xA,x] b=IO) (λ b o ez hn=>xT (QY b o ez hn)) (nV [xA,x]) H3;cases eo:(dO)[i] with
  |none=>
   rw [eo] at ot;have ex:qj x:=ot;subst ex;have h0:∀s,A7 L s->¬se:=λ s hs h1=>by
    have:=xjk G hs h1;show WR i' eo this this
   refine Zk _ oo;exact⟨_,_,k1,k2,rfl,hpT,hdT,heT,xbg hT h0,xbl hB h0,hlT,hCT,othT⟩
  |some c=>
   rw [eo] at ot;have VA:=xfV G (by rw [i',eo]);obtain⟨u,ex,hu⟩:=hC.keep (H':=H3) (λ t2 ys ez=>by exact(st _ _ ez))|>.2 i x _ hx (by rw [FL OL,eo]);subst ex;show Wp (Zk _ Wl) Rr
   show xI ⟨_,rfl,_,rfl,p,C,dx,_,_,rfl,hpT,T.cl,T.nT,xrm _ _,_,rfl,d,_,rfl,xw1.t (b:=u) (k:=kk SV Rd) hdT hu (Tn (show _≤300 by show AY hT.1 (B7 [_,_,_] Ψ qA (CN (Zz 300)) LE (.n 300) hiL (Vt hLle)))),Zw⟩;have nud:u≠d:=aF hu hdT (by show Τ);have hu4:Fm (upd H3 d (.dT (putK k1 (kk SV Rd) xA)) u) [vN SV,vN Rd]:=by show XV nud hu
   show Wp (aN _ p dx _ rfl (by show XV QO hpT) (xJj Z8 Z8) ?_) ⟨_,rfl,u,_,_,_,rfl,rfl,ND.of hu4,tO,_,rfl,u,_,_,_,rfl,rfl,ND.of hu4,wu,?_⟩;have hc12:qo Rd:=xtR G VA.1;show Wp ⟨p,d,e,dx,SV,Rd,k2,rfl,(by show XV QO hpT),(by show XV nde.symm heT),(by show AY hB.1 (Cm [_,_,_] (CD 12 Ψ (VM 12 LE)) (VM 12 (zD 12 300 (ER 12))) LE 5000 (FE 12 hiL) (Vt (FE 12 hLle)))),hc12,λ H5 k2' he5 Yi hv5 YE=>?_⟩ ⟨_,_,_,k2',rfl,YE _ _ (by show XV QO hpT) npe,YE _ _ ad nde,he5,?_,?_,YE _ _ (by show XV QP hlT) nle,?_,λ b o ez hn=>?_⟩
   ·have:=xb0 hT VA.1 (A4 VA);rw [<-CJ VA] at this;exact this
   ·refine xb5 hB VA.1 hc12 Yi (SC a b)
    show Bg (CJ VA) (hv5 a b)
   ·show Wp (hCT.keep (τ t2 ys ez)) (YE _ _ ?_ (aF ez heT (by show Τ)));show XV (aF ez hdT (by show Τ)) ez
   ·have h3:=othT b o ez hn;show p9 (YE _ _ ?_ (ae ez neH)) (Tt ez nd) h3
 ·rintro σ H2 ⟨v2,v3,k1,k2,rfl,NB,hd2,Ud,hT,hB,NH,hC,QY⟩;have e1:xEN L.length:=by rw [hC.1];show CS codes bC
  rw [e1] at hT hB;exact q d e H2 nd neH (Dp NB ⟨k1,hd2,hT⟩ ⟨k2,Ud,hB⟩) QY
def xcD (h:Fn H)(h':Nk B H r g R t):p≠r/\d≠r/\e≠r/\p≠g/\d≠g/\e≠g:=by
 obtain⟨⟨dx,h1⟩,⟨k1,h2,_⟩,⟨k2,h3,_⟩⟩:=h;obtain⟨⟨dy,r1⟩,r2,_,_⟩:=h';refine⟨aF h1 r1 ?_,aF h2 r1 (by show Τ),aF h3 r1 (by show Τ),aF h1 r2 (by show Τ),aF h2 r2 (by show Τ),aF h3 r2 (by show Τ)⟩;intro z;injection z with _ _ z
 unfold fC fR at z;show xB6 z z
 show xB6 z z
 exact xc6 z
def xwC.but (h:Fn H)(h':Nk B H r g R t)(s:∀c o,W1=IO->UW->AE=IO):Fn H':=by
 obtain⟨n1,n2,n3,_⟩:=xcD h h';exact h.keep λ c o ez hc=>s c o ez (by rcases hc with rfl|rfl|rfl<;>assumption)
structure Rds (K:Frag)(mg:Β)(B:MV):Prop where
 X:Bz
 whole:xP4
 size:x1F xv6 Jai
 ones:Δ "ones" xvb Jai
 bits:Δ "bits_at" xvd Jaj
 take:∃f fd,xSf K B "take" xvV xu1
 left:oh B "left" "BitReader.left" xvU
 place:oh B "place" "BitReader.place" xya
 R:CRd K mg B
inductive xkQ (C B:MV) (vs:NE) (H:Hp) (Q:VK) (Nf:XK):Prop
 |mk (p d e r g:MV) (L R:Id) (t q s:Nat) (h0:vs=[Bw,jl]) (h1:Fn H) (h2:tZ) (h3:Nk B H r g R t) (h4:xu9 L xMH q s) (h5:Ft (Nk B H' r g R (t+s)->(∀c o,W1=IO->UW->AE=IO)->mI q)):xkQ C B vs H Q Nf
inductive xi9 (C:MV) (B:MV) (H:Hp) (p:MV) (d:MV) (e:MV) (r:MV) (g:MV) (L:Id) (R:Id) (t:Nat) (m:Nat) (σ:St) (H2:Hp):Prop
 |mk (s:Nat) (h0:m=(A6-t)-s) (h1:t+s≤A6) (h2:(∀j<s,xPj (xTh j))) (h3:σ=[Qg,xCc,Χ t,Χ (yp t s),Vc]) (h4:Nk B H2 r g R (t+s)) (h5:Fn H2) (h6:∀c o,W1=IO->UW->yf=IO):xi9 C B H p d e r g L R t m σ H2
def xdE (F:Aj "thing" "CodeReader.thing" xta)(T:CRc K mg C)(D:xHp B):rA xY8 (xkQ C B):=by
 obtain⟨X,⟨_,_,W⟩,⟨_,_,S⟩,⟨_,_,O⟩,⟨_,_,Bi⟩,⟨_,_,Ta⟩,⟨_,_,Le⟩,⟨_,_,Pl⟩,TB⟩:=D;have GT:=xoZ (P:=P) (w:=w) (base:=base) Ta.F S W Bi O Le TB X;have GL:=xuf (P:=P) (w:=w) (base:=base) Le.F TB X;have GP:=xl5 (P:=P) (w:=w) (base:=base) Pl.F TB;show AQ xwH (λ M7 A outer st H vs Q E hr h=>?_);obtain⟨p,d,e,r,g,L,R,t,q',s',rfl,hC,G,hR,hD,k⟩:=h;have NA:Bv:=UF;refine ju 2 xwH.nd (BN PP TB.cl Pl GP) (Cg 3 xwH.nd aj (oG 4 xwH.nd aj (zX (xtK (Db xMn (Y4 π Ν) Α)) (ac (mX (Ww (BN PP TB.cl Le GL)) xwv)
   (pX 3 xwH.nd (ap xsw (pW dQ π) (bo PP TB.cl Ta GT hr my)) (oW xwH.nd xT9)))) (mX (xtK (xgn xMn (Y4 π Ν) Α)) xwv) (xic xMn Α (Y4 π Ν) jG)))
 have ht:=hR.le;have T9:B4 xMH (A6-t):=by rw [FU,xvM]
 refine D2
 show DG dx TC hR.ob ⟨_,rfl,r,dx,_,rfl,TC,oy,r,g,R,t,rfl,hR,A3⟩;clear g1;show xAA;show xAA;show Wp D2 (AG (xi9 C B H p d e r g L R t) ⟨_,0,rfl,by exact(BX LE Ak xFz Ak ht),px j hj hj (by exact(xOU Cy LE)),rfl,hR,hC,λ c o z _=>z⟩)
 rintro m σ H2 ⟨s,rfl,hs,hbg,rfl,Oe,V4,QY⟩;have T8:B4 pY s:=by rw [FW,T9];lia
 obtain⟨k2,Uc,Pw⟩:=V4.bg;show DG dy NB V4.ob (wY _ _ (by show b8) (SC u nu));have su:=zG [O4,Zx] nu;have hu:Fm (dt H2 u [O4,Zx] u) (xNW (kk (yp t s) s)):=ad;have Ox:=Oe.same su;have TK:=V4.same su;have oth3:∀c o,W1=IO->UW->dt H2 u [O4,Zx] c=IO:=λ c o z hn=>xCK (QY c o z hn)
 have hk3:=xCK Uc;show hJ N1 (xCK NB) (dt H2 u [O4,Zx]) H3;refine⟨_,rfl,p,C,dy,_,_,rfl,N1,T.cl,T.nB,xhW _ _,e,_,rfl,QX.t hk3 hu,_,rfl,?_⟩;show Ay hw (xae Pw pY) T8 hw;by_cases c1:xPj pY
 ·show ug (hw.mpr c1) Wl xFN;have hbg':∀j<s+1,xPj (xTh j):=λ j hj=>by
   show CM j s z z
   ·exact hbg j z
   ·show Dr j s (by exact xCR On Os hj z) c1
  refine Rr
  show DG PK hr3' Ox.ob ⟨_,rfl,r,PK,_,rfl,hr3',oy,r,g,R,t+s,rfl,Ox,rfl,_,rfl,Za⟩
  ·have h0:A6-(t+s)=0:=x2z;have hn:Due L xMH .none:=λ j hj=>hbg' j (by show ρ T9 hj (rS [_,_,_,_,_,_] 5 (A9 (lK (rZ Tm))) (bV (rZ (.a (mi 5 DC) bW))) On Ψ h0 (Bb hj Ω (Dq [_,_] LE Ak LE Ak ht))))
   exact nomatch x0N
  ·have h0:t+s<A6:=by
    show CM (t+s) A6 z z
    ·exact z
    ·show Wv (xwK.mpr (show A6-(t+s)=0 by exact(uv (qe [_,_,_,_] (wy (A9 zo)) (.a zo Cv) Cy z (Dq [_,_,_] Dz Ak Dz Ak hs))))) h1
   show xI Zw;show Bq b N8 Si (xaY h0) Rr
   have hs12:qo s:=by
    obtain⟨q1,s1,z1,z2,_⟩:=c1;show AY (xtR G z1) (Cm [_,_,_] (A9 (pV Ψ)) (Aw (Vh 2 12)) LE 12 (Fz T8.symm) (Vt z2))
   have es:yp t s<2^s:=by have:=BP.xvI pY;rwa [T8] at this
   have es2:2^s≤2^12:=xA4 hs12;show Wp (ZW _ _ rfl ⟨by exact xO (vQ [] Cy AU),by exact xO (vQ [] AU (.n 1000000)),by lia⟩ ?_) ⟨_,rfl,r,PK,_,rfl,hr3',oy,r,g,R,t+s,1,rfl,Ox,by exact(vQ [] AU (.n 24)),h0,τ H4 OB oth4⟩;show xI (ue _ _ Zw);have hb3:b.toNat<2^1:=by cases b<;>decide
   have e1:Builtin.bitOr (Ps (yp t s)*2^xS3) (Ps (K25.bt R (t+s) 1))=Ps (yp t (s+1)):=by
    show Builtin.bitOr _ (Ps (eg/2^(A6-(t+s+1))%2^1))=_;rw [Si];have:=xtk (yp t s) b.toNat 1 hb3;rw [N8,BP.xdD];rw [Sd (E7) (Ps 1),this];lia
   try dsimp only
   show Η e1 vc;have e2:Ε s+1=jm s:=by exact(BJ On On On On)
   try dsimp only
   show LT e2 ⟨_,Ie (Nat.lt_sub_of_add_lt (Kh t s▸h0)) (HW s),s+1,rfl,h0,hbg',rfl,OB,TK.but Ox oth4,λ c o z hn=>oth4 c o (oth3 c o z hn) hn⟩
 ·rw [Bool.eq_false_iff.mpr (Re (c1 (hw.mp z)))];show DE xOd;obtain⟨k1,ZM,Oi⟩:=TK.th;show CQ PK hr3' Ox.ob tw1 tw2 (xal Oi pY);rw [T8] at tw1 tw2;show Wp Rr (wY _ _ (by show b8) (SC v nv));have sv:=zG [O4,Zx] nv;have hv:Fm (dt H3 v [O4,Zx] v) (xNW (kk (yp t s) s)):=ad;have OB:=Ox.same sv;have hC4:=TK.same sv;have oth4:∀c o,W1=IO->UW->dt H3 v [O4,Zx] c=IO:=λ c o z hn=>sv _ _ (oth3 c o z hn)
  have hk4:=sv _ _ ZM;have V1:=sv _ _ N1;show hJ Ua (sv _ _ hr3') (dt H3 v [O4,Zx]) H4;refine⟨_,rfl,p,C,dy,_,_,rfl,V1,T.cl,T.nT,xrm _ _,d,_,rfl,QX.t hk4 hv,_,rfl,?_⟩;by_cases c2:∃q,tJ pY q
  ·obtain⟨q,hq⟩:=c2;rw [tw1 q hq];show xI (aV Zw);have hn:xu9 L xMH q s:=⟨by show LT T9 (B7 [_,_,_,_] qA bW (lK Θ) LE Os hs Ω),hq,hbg⟩;injection x0N with e1 e2
   rw [e1,e2] at k;refine⟨_,rfl,p,C,dy,_,_,rfl,V1,T.cl,T.nT,xrm _ _,_,rfl,_,rfl,(by show b8),SC x nx⟩;have sx:=zG [O4,Zx] nx;refine EE d _ ?_ (iE (OB.same sx) λ c o z hn=>sx _ _ (oth4 c o z hn));show zh (QX.t (sx _ _ hk4) (show Fm (dt H4 x [O4,Zx] x) (xNW (kk (yp t s) s)) from ad)) (tw1 q hq)
  ·have c3:∀q,¬tJ pY q:=λ q hq=>c2 ⟨q,hq⟩
   show Η (tw2 c3) Wl;have hn:Due L xMH .bad:=⟨s,by show LT T9 (B7 [_,_,_,_] qA bW (lK Θ) LE Os hs Ω),hbg,c1,c3⟩;exact nomatch x0N
universe K25.C
namespace K25.M
open BP C9 C10 W17
def xio (u)(h:t+s≤u.length):num ((xSd).take s)=xGK/2^(xE9 (t+s))%2^s:=by
 have h1:=xx5 (u.take t) xSd;rw [Gf,FU] at h1;show Ay h2 (xvI xSd) FU h2;have h3:num xSd=xGK%2^(xE9 t):=by rw [h1,HM,Nat.mul_add_mod,Jv h2]
 rw [xlx _ (by show zw (B7 [_,_,_,_] qA Be (DX Θ) LE Os h Ω)),h3,FU,Nat.sub_sub,show xE9 t=(xE9 (t+s))+s by exact BC (yL [_,_,_,_,_] 4 qE (rn xMC) LE Θ (Dq [_,_,_] DD Tm Os Tm h)) (yL [_,_,_,_,_] 4 xMC (rn qE) Θ LE (Dq [_,_,_] DD Tm DD Tm h)),Ji,Mc]
def xvY (h:n<2^s)(r):num ((eJ s++r).take s)=n:=by
 rw [List.take_left' (Nq n s),xvh,Jv h]
def eD (n s)(r):ku (eJ s) r s=r:=List.drop_left' (Nq n s)
inductive Vr:Id->Ct (Av->NK Id Av)
 |done {L:Id} {ah:Nat} {b:Av}:RC 272->Vr L ah b L b
 |one {L L':Id} {ah:Nat} {b b':Av}:L.length<272->x21 3->rC≠7->xU8 (L++[rC]) rC 3 L' b'->Vr L ah b L' b'
 |rep {L L':Id} {ah:Nat} {b b':Av}:L.length<272->x21 9->rC=7->xU8 (L++ki (xz6 3 6) 3 ah) ah 9 L' b'->Vr L ah b L' b'
universe K25.M
namespace K25.Ck
open PySem L2 QQ W17 W16 BP K25.M
seal PE PA PS PSs PT PW PG PI
abbrev xw7 (r:MV)(H H':Hp):Prop:=∀c o,W1=IO->UW->AE=IO
def RB (C:MV)(H:Hp)(r d:MV)(b:Av):Prop:=∃R t,UH H t/\b=xF7
theorem RB.keep (h:vd)(k:∀c o,W1=IO->(c=r\/c=d)->AE=IO):xFh H':=by
 show Bj R t h e h ⟨R,t,h.keep k,e⟩
def RB.same (h:vd)(k:Ι):xFh H':=h.keep λ c o e _=>k c o e
def RB.ob (h:vd):∃dx t,H r=aG dJ:=by
 obtain⟨R,t,⟨⟨dx,h⟩,_⟩,_⟩:=h;exact⟨dx,t,h⟩
def RB.ls (h:vd):∃o,H d=IO:=by
 obtain⟨R,t,⟨_,h,_⟩,_⟩:=h;exact Bt h
theorem RB.upd (h:vd)(h1:xI8)(h2:uB):xFh (wJ l o):=h.keep λ c o e hc=>by
 show Sa (by show Ru hc;exact h1.symm;exact h2.symm)
inductive xkP (C:MV) (vs:NE) (H:Hp) (Q:VK) (Nf:XK):Prop
 |mk (r d:MV) (b:Av) (s:Nat) (h0:vs=[jl,Zx]) (h1:vd) (h2:s≤24) (h3:x21 s) (h4:Ft (xHe xLF->WZ->mI (num (b.take s)))):xkP C vs H Q Nf
def xnT (hb:uG)(h:t+s≤A6):xFX s=num (xJ8 xyx t s):=by
 show Ay hv (xw6 hb) xwa hv;rw [xio _ (by show LT K25.C.xvM h),K25.C.xvM];unfold K25.C.bt;rw [xvh,Jv hv];rfl
def _root_.K25.Ck.xxG.tkB (Z:xCT):∃f fd,xSf K C "take" xvV xu1/\∀P w base,gW xu1 (xkP C):=by
 obtain⟨f,fd,Tk,G⟩:=Z.tk;refine⟨f,fd,Tk,λ P w base=>(G P w base).imp λ vs H Q E h=>?_⟩;obtain⟨r,d,b,s,rfl,⟨R,t,hR,rfl⟩,hs,ZL,k⟩:=h;have hl:B4 xF7 (A6-t):=by rw [FU,K25.C.xvM]
 rw [hl] at ZL;have ht:=hR.le;have h:t+s≤A6:=by exact(Fp [_,_,_,_] 1 xJ (DX Cv) P3 Cv ZL (Dq [_,_] LE Ak LE Ak ht))
 show p9 ⟨r,d,R,t,s,rfl,hR,hs,h,τ H' Uh kp⟩ (xnT hR.by' h) (k H' ⟨R,t+s,Uh,by rw [Ih]⟩ kp)
def xw7.tr (a:WZ)(b:xw7 r H' H''):aH H'':=λ c o e n=>b c o (a c o e n) n
def xw7.s (a:WZ)(b:C' H' H''):aH H'':=λ c o e n=>b c o (a c o e n)
def xw7.of (a:Ι):WZ:=λ c o e _=>a c o e
def xw7.up (a:WZ)(n:Ξ):aH (upd H' l o):=λ c o e z=>by show pQ n (a c o e z)
inductive xi5 (C:MV) (vs:NE) (H:Hp) (Q:VK) (Nf:XK):Prop
 |mk (r d:MV) (b:Av) (L:Id) (b':Av) (h0:vs=[jl]) (h1:vd) (h2:xJC b L b') (h3:∀l H',Ξ->AL=vt->xHe b'->WZ->AS):xi5 C vs H Q Nf
def xxT:Uf ["reader","lengths","ahead","told"] WG xtF:=Sc
inductive xj3 (C:MV) (H:Hp) (r:MV) (d:MV) (L':Id) (b':Av) (l:MV) (m:Nat) (σ:St) (H2:Hp):Prop
 |mk (ah:Nat) (L:Id) (v3:BV) (b:Av) (h0:m=272-L.length) (h1:kO 400) (h2:Vr L ah b L' b') (h3:σ=[xCc,ye,xOI,v3]) (h4:RZ=vt) (h5:xFh H2) (h6:aH H2):xj3 C H r d L' b' l m σ H2
def wv (F:Ζ "lengths_in_items" xtF WG)(Z:xCT):rA WG (xi5 C):=by
 have X:=Z.Y.X;show xLD Tk Z.tkB;have GT:=xOa P w;have T:=Z.T;show CQ tm hm X.many ta hag X.again;show xV tl hle X.leastA xxT (λ M7 A outer st H vs Q E hr h=>?_) _;obtain⟨r,d,b,L',b',rfl,hR,hI,kQ⟩:=h;show wF (ju 1 xxT.nd d5 (Fc 2 xxT.nd aj (zX (tT dZ PP xM0) (pX 3 xxT.nd (bo SZ T.cl Tk GT hr my) (xJ9 (xa π (DT 7 hag ta)) (xE3 IX Jt xwx PP (xNG Ty (E8 (bo SZ T.cl Tk GT hr my) xHu))) (pX 2 xxT.nd π (U9 PP Ty))))) PP)) dx0 t0 TC hR.ob;obtain⟨_,XX⟩:=hR.ls;have no:∀t,WF xUN:=λ t=>oy
 show xHz D2 xJg;have Pk:xI8:=xOZ;have QP:uB:=xO0;have s0:=xG2;show xAA;show Wp D2 (AG (xj3 C H r d L' b' l) ⟨_,0,[],none,b,rfl,Z9,hI,rfl,ad,hR.same s0,.of s0⟩)
 rintro m σ H2 ⟨ah,L,v3,b,rfl,hL4,hI,rfl,Pn,Oe,kp⟩;refine⟨_,rfl,l,_,rfl,xOK,_,_,rfl,rfl,_,rfl,qR hc hc⟩
 rotate_left
 ·have OO:RC 272:=by
   show CM L.length 272 q q
   ·show Wv (by show Ai (WW (UB 272 On 272 q))) hc
   ·exact q
  refine xGb;cases hI with
  |done _=>exact kQ l H2 nl Pn Oe kp
  |one|rep=>lia
 clear g1;have M8:L.length<272:=by show wB xOu Fy (UB 272 On 272 PO)
 clear hc;refine xFN;show Bq TL t2 Ql Oe.ob Rr
 show xI ⟨_,rfl,r,TL,_,rfl,Ql,Vd,r,d,b,3,rfl,Oe,Z9,by cases hI<;>lia,λ H3 Ox NJ=>Zw⟩;have Vp:=xGX;have NJ:=x0O;refine qQ (qR h7 h7)
 ·have h7:rC=7:=x1K h7;refine UJ xW9 (by show qa) (SC l4 n4);have s4:=xIx [xGr];have Uj:Du H3 l4 [xGr] l4=Φ [xGr]:=ad;have OB:=Ox.same s4;have X1:=ES Vp;have QR:=NJ.s s4;show vo H3 l4 [xGr] H4;show Zy dx4 t4 Ua OB.ob n4r (l4≠r) (aF Uj Ua (by show Τ));obtain⟨h6,hI2⟩:6≤b.length-3/\xU8 (L++ki (xz6 3 6) 3 ah) ah 9 L' b':=by
   cases hI with
   |rep _ h _ q=>show A5 (by exact(Bu [_,_] (Zz 9) (Aw rg) (.n 6) LE h Ω)) q
   |done=>lia
   |one _ _ q=>show AX h7 q
  refine⟨_,rfl,r,dx4,_,rfl,Ua,Vd,r,d,_,6,rfl,OB,Z9,by show zw h6,τ H5 hR5 Q8⟩;rw [Ih] at hR5;show DR hb6 (xz6 3 6<64) (by
   have:=xvI ((b.drop 3).take 6)
   rwa [FW,FU,G2 h6] at this) (xz6 3 6) z6;refine⟨_,_,rfl,rfl,l4,_,_,rfl,rfl,mf Uj n4r,by lia,by lia,bG (by show ux (1*_);lia),SC l6 n6⟩;have e1:xy (Ε z6) 3=z6+3:=rfl
  try dsimp only
  rw [e1,K25.C.xkY];have s6:=Az (ki z6 3 xGr) n6;refine⟨l,l6,_,_,rfl,rfl,tx (mf X1 Pk),ad,bG (by rw [Fy,Gy];exact Cm [_,_] EA (Y6 400 64) (A9 (Rn 3)) 2000 hL4 hb6),_,?_,ah,_,_,_,rfl,?_,hI2,rfl,by rw [ad,FV,List.map_replicate],(hR5.same s6).upd Pk QP,((QR.tr Q8).s s6).up nl⟩
  ·rw [FD,Gy];exact x3W
  ·rw [FD,Gy];exact(B7 [_,_] On Ψ (Y6 272 64) (A9 (Rn 3)) (.n 400) M8 hb6)
 ·have h7:rC≠7:=Re (h7 (xYu z))
  show DR hI2 (xU8 (L++[rC]) rC 3 L' b') (by
   cases hI with
   |one _ _ _ q=>exact q
   |done=>lia
   |rep _ _ q=>show AX q h7) rC y;refine⟨_,rfl,_,rfl,xW9,_,rfl,l,_,_,rfl,rfl,Vp,bx (by show Ai (xU 400 2000 hL4)),_,?_,y,_,_,_,rfl,?_,hI2,rfl,by rw [ad,FV];rfl,Ox.upd Pk QP,NJ.up nl⟩
  ·show mQ x2N
  ·rw [FD];show _+1≤_;exact(UB 272 On 400 M8)
structure Tbs (K:Frag)(mg:Β)(C G:MV):Prop where
 Z:xCT
 Y:xHp
 items:Δ "lengths_in_items" xtF WG
 table:Δ "take_table" xpy WG
 place:BL "place" "BitReader.place" xya
 M:x0c mg G
 mG:mg "CodeReader"=TD G
 init:∃f fd,x52 K25.sCInit/\ua xYX/\xNj G
 thing:∃f fd,qW G "thing" "CodeReader.thing" xta xY8
 codesin:Δ "codes_in" xpF WG
 thingin:Δ "thing_in" xp8 xNy
def xfj {A B:Id}(h:A.map vN=vM):A=B:=by
 have:=x4k (λ v=>match v with|V.int i=>i.toNat|_=>0) h;simpa [Ii,Function.comp_def] using this
def xrC:Uf ["reader","begin","lengths"] WG xpy:=Sc
inductive xkE (C:MV) (vs:NE) (H:Hp) (Q:VK) (Nf:XK):Prop
 |mk (r d:MV) (b:Av) (L:Id) (b':Av) (h0:vs=[jl]) (h1:vd) (h2:xJC b L b') (h3:tX) (h4:∀l H',Ξ->AL=vt->xHe b'->WZ->AS):xkE C vs H Q Nf
def xat (F:Ζ "take_table" xpy WG)(D:xPN C G):sD WG (xkE C):=by
 show ZV It D.items Pl D.place;have X:=D.Z.Y.X;have T:=D.Z.T;have GP:=xl5 (P:=P) (w:=w) (base:=base) Pl.F T;show xV tm hm X.many xrC (λ M7 A outer st H vs Q E hr h=>?_) _;obtain⟨r,d,b,L,b',rfl,hR,hI,hL,k⟩:=h;have NA:Bv:=UF;refine Ep (oG 1 xrC.nd (BN SZ T.cl Pl GP) (xrP (af (xBa xrC.nd (g9 (wv It D.Z) It SZ)))) (mX (tT cL Ty xM0) xwv) Ty)
 show aE R t hRa rfl hR;show S8 dx hp hRa.ob no (∀{m:Str} t,¬m="taken"->¬m="held"->yS dJ m) (λ t h1 h2=>xSR h1 h2)
 show E9 ⟨_,rfl,r,dx,_,rfl,hp,Vd Z8 Z8,r,d,R,_,rfl,hRa,?_⟩ ⟨_,rfl,r,d,_,_,_,rfl,hR,hI,λ l H2 nl Pn Oe kp=>?_⟩ ⟨_,rfl,l,_,rfl,xOK,_,_,rfl,rfl,_,rfl,xMZ (Υ (xPk nl Pn Oe kp))⟩;show zc DQ Fy hL;show AX this (by decide)
inductive xj1 (C G:MV) (vs:NE) (H:Hp) (Q:VK) (Nf:XK):Prop
 |mk (r:MV) (d:MV) (b:Av) (L:Id) (b':Av) (h0:vs=[jl]) (h1:vd) (h2:xJC b L b') (h3:tX) (h4:xzx) (h5:∀p dp ep H',RT->A1 dp->A1 ep->xHe b'->xLJ H' p dp ep L->WZ->Fj Bw):xj1 C G vs H Q Nf
def xlQ (k:WZ)(n:WF (H' a))(hr:∃o,H' r=IO):xIy:=by
 cases e:XL with
 |none=>rfl
 |some o=>
  by_cases z:a=r
  ·obtain⟨o',h⟩:=hr;show B0 h n n
  ·show Μ (zf e z) n n
def xfb (F:Ζ "codes_in" xpF WG)(D:xPN C G):AH 36 WG (xj1 C G):=by
 obtain⟨_,_,Ta⟩:=D.table;show Dd D.init;have GT:=xat (P:=P) (w:=w) (base:=base) Ta D;show Al xfM (λ M7 A outer st H vs Q E hr h=>?_);obtain⟨r,d,b,L,b',rfl,hR,hI,hl,hG,k⟩:=h;have Ra:xON:=UF;show Qt (xrP (f9 (xvi MI (K25.C.ok_cinit FI D.M) hr Z7 D.mG bI .nil a7 (Bx (lJ GT Ra Ta SZ))))) ⟨_,rfl,r,d,b,L,b',rfl,hR,hI,hl,λ l H1 nl h1l hR1 kp x dx nx ndx _=>?_⟩;have s1:=kR G nx ndx;show Bq PN t1 NA hR1.ob ⟨x,dx,l,L,rfl,ad,Ec h1l,hG,λ dp ep H2 T4 Ya hC Sl=>DY⟩;have kk:aH H2:=λ c o e' n=>y8 (Ec (B1 e' n)) (ae (B1 e' n) nx)
 have nn:∀{a},vz a->xIy:=λ n=>xlQ kp n (Bt NA)
 exact k x dp ep H2 (nn nx) (nn (vK T4)) (nn (vK Ya)) ((hR1.same s1).keep λ c o e hc=>y8 e (by
  show Zn;show Ed hc
  ·show B0 NA nx nx
  ·obtain⟨_,hd1⟩:=hR1.ls;show B0 hd1 nx nx)) hC kk
inductive xjH (C G:MV) (vs:NE) (H:Hp) (Q:VK) (Nf:XK):Prop
 |mk (p dp ep r d:MV) (b:Av) (L:Id) (q s:Nat) (h0:vs=[jl,Bw]) (h1:xLJ H p dp ep L) (h2:xzx) (h3:vd) (h4:C10.Due L b (.thing q s)) (h5:Ft (xHe xLF->WZ->mI q)):xjH C G vs H Q Nf
def xfh (F:Ζ "thing_in" xp8 xNy)(D:xPN C G):sD xNy (xjH C G):=by
 show yd Th D.thing Z D.Z;have GT:=K25.C.xdE (P:=P) (w:=w) (base:=base) Th.F D.M.R ⟨Z.Y.X,Z.Y.whole,Z.size,Z.ones,Z.bits,Z.take,Z.left,D.place,Z.T⟩;show Al xgb (λ M7 A outer st H vs Q E hr h=>?_);obtain⟨p,dp,ep,r,d,b,L,q,s,rfl,hC,hG,⟨R,t,hR,rfl⟩,hD,k⟩:=h;show DG dx hp hC.ob (lE (xrP (f9 (bo PP D.M.R.cl Th GT hr Ew))));exact⟨_,rfl,p,dx,_,rfl,hp,K25.C.fC_no _ _ Z8 Z8,_,rfl,p,dp,ep,r,d,L,R,t,_,_,rfl,hC,hG,hR,hD,λ H' Uh kp=>k H' ⟨R,t+s,Uh,by rw [Ih]⟩ kp⟩
universe K25.Ck
namespace K25.M
open BP C9 C10 W17
inductive xxH (L:Id) (e:Nat):Id->Av->NK Id Av
 |done {S:Id} {b:Av}:xFl e->xCE S b S b
 |sg {S T:Id} {q s:Nat} {b b':Av}:xI4->xu9 L b q s->EB q->xCE (S++[q]) xLF T b'->xCE S b T b'
 |cp {S T:Id} {q s:Nat} {b b':Av}:xI4->xu9 L b q s->256≤q->8≤(xLF).length->AK (xz6 s 8)->yK (xz6 s 8)->xuQ (q-256+3)≤e->xCE (K25.Ck.cpy S (xz6 s 8) (q-256+3)) ((xLF).drop 8) T b'->xCE S b T b'
def xxH.le (h:xCE S b T b'):xTp e:=by
 cases h with
 |done h=>exact Fz h
 |sg h=>exact Gi h
 |cp h=>exact Gi h
universe K25.M
namespace K25.Ck
open PySem L2 QQ W17 W16 BP K25.M
seal PE PA PS PSs PT PW PG PI
inductive xlo (C:MV) (vs:NE) (H:Hp) (Q:VK) (Nf:XK):Prop
 |mk (o r d x:MV) (W:Id) (b b':Av) (n:Nat) (L T:Id) (b1:Av) (h0:vs=[y9,jl,Qh,Cw]) (h1:vd) (h2:BM=mD) (h3:Zu n) (h4:Rx) (h5:xJC b L b1) (h6:tX) (h7:xzx) (h8:xxH L Q3 W b1 T b') (h9:∀l H',Ξ->AL=Au xYA->xHe b'->WZ->AS):xlo C vs H Q Nf
def _root_.K25.C.xwC.but2 (h:xLJ H p d e L)(h':RB C H r g b)(s:WZ):xLJ H' p d e L:=by
 obtain⟨R,t,h',_⟩:=h';exact h.but h' s
inductive xjP (C:MV) (G:MV) (H:Hp) (o:MV) (r:MV) (d:MV) (x:MV) (W:Id) (b':Av) (n:Nat) (L:Id) (T:Id) (l:MV) (e:Nat) (p:MV) (dp:MV) (ep:MV) (m:Nat) (σ:St) (H2:Hp):Prop
 |mk (v8:BV) (v9:BV) (S:Id) (b:Av) (h0:m=e-S.length) (h1:xCE S b T b') (h2:σ=[xCb,xCc,yc,TD x,ye,Χ W.length,Χ e,Qg,v8,v9]) (h3:RZ=zW) (h4:xFh H2) (h5:xLJ H2 p dp ep L) (h6:aH H2):xjP C G H o r d x W b' n L T l e p dp ep m σ H2
def wp (F:xW3 "ShareWay.read" xp1)(D:xPN C G):AH 37 Jad (xlo C):=by
 have Z:=D.Z;have Y:=D.Y;have X:=Z.Y.X;show xLD Tk Z.tkB;have GT:=xOa P w;have TR:=Z.T;show jf La Y.lay Ao Y.ahead Ci D.codesin Ti D.thingin;have GA:=xmQ (P:=P) (w:=w) (base:=base) Ao X;have GL:=xn8 (P:=P) (w:=w) (base:=base) La Y;have GC:=xfb (P:=P) (w:=w) (base:=base) Ci D;have GI:=xfh (P:=P) (w:=w) (base:=base) Ti D;show CQ tl hle X.least tf hfi X.first;show AQ xvJ (λ M7 A outer st H vs Q E hr h=>?_);obtain⟨o,r,d,x,W,b,b',n,L,T,b1,rfl,hR,hx,NM,hW,hI,hl,hG,hk,k⟩:=h;have Ra:xON:=UF;have hr32:ED 32:=UF;have PY:xGO:=UF;have NA:Bv:=UF;show wF (ju 4 xvJ.nd (mJ GA Ao π) (Cg 5 xvJ.nd (vJ Ν) (Zq 6 xvJ.nd (E8 C8 Ty) 7 xvJ.nd (g9 GC Ci PP) (zX (tT dZ Ν bu) (pX 8 xvJ.nd (sh GI Ra Ti PP cb) (xJ9 (CZ dZ VP (DT 256 hfi tf)) (U9 Ν VP) (pX 9 xvJ.nd xNT (aB (xvA GL hr32 La (xCf Ν (pv 9) (E8 (xo VP (DT 256 hfi tf)) xHu) bu))))))) (nr Ν C8)))) dx0 t0 TC hR.ob;obtain⟨_,XX⟩:=hR.ls;have no:∀t,WF xUN:=λ t=>oy
 show xHz D2 (Qc _ rfl x W hx (BU l nl));have Pk:xI8:=xOZ;have QP:uB:=xO0;have s0:=xBU ve;have h0l:(kU ve) l=mD:=ad;have hR0:=hR.same s0;have kp0:aH (kU ve):=.of s0;show EI H l ve H0 D2
 show DE (UJ l (AN h0l) A3)
 try dsimp only
 show Η Fy D2
 show DE (aN _ _ rfl _ _ rfl rfl A3);have e0:x0m+AA=Ps Q3:=rfl
 try dsimp only
 rw [e0];generalize he:Q3=e at*;show xHz D2 ⟨_,rfl,r,d,b,L,b1,rfl,hR0,hI,hl,hG,λ p dp ep H1 np T4 Ya hR1 Yq OY=>A3⟩;have h1l:=xq h0l Pk;have OV:DP:=ae h0l np;have nldp:ZZ dp:=ae h0l T4;have nlep:ZZ ep:=ae h0l Ya;have OY:=kp0.tr OY;clear kp0 hR0 h0l s0 hI;show Wp D2 (AG (xjP C G H o r d x W b' n L T l e p dp ep) ⟨_,none,none,W,b1,rfl,hk,rfl,h1l,hR1,Yq,OY⟩)
 rintro m σ H2 ⟨v8,v9,S,b,rfl,hk,rfl,Pn,Oe,V4,kp⟩;have hle2:=hk.le;refine⟨_,rfl,l,_,rfl,xOK,_,rfl,_,_,rfl,rfl,_,rfl,qR h h⟩
 ·clear g1;show Ay h' DQ Fy h';have M8:xI4:=xKk h';clear h h';show yy xzp Rr
  cases hk with
  |done h=>show AX M8 (xDa xZE)
  | @sg _ _ q s _ _ _ hD hq hk=>
   show xI ⟨_,rfl,_,rfl,p,dp,ep,r,d,b,L,q,s,rfl,V4,hG,Oe,hD,λ H3 Ox NJ=>Zw⟩;show rF Vp xGX (mO _ _ _ _ (xAG (FM (by exact(WW (UB 256 On 256 hq)))) h)) ⟨_,rfl,xW9,_,rfl,l,_,_,rfl,rfl,Vp,bx (by show Ai (ow [_,_,_,_] 1 xT5 (iU (Br 192 (xzP DC))) LE NM (Wz hW he.symm hle2))),_,?_,_,_,_,_,rfl,hk,rfl,by rw [ad,FV];rfl,Ox.upd Pk QP,?_,(x0O).up nl⟩
   ·show mQ x2N
   ·refine(V4.but2 Oe NJ).keep λ c o' e' hc=>?_
    show XV (by show xQe hc OV.symm nldp.symm;exact nlep.symm) e'
  | @cp _ _ q s _ _ _ hD hq h8 N8 Si hb3 hk=>
   show xI ⟨_,rfl,_,rfl,p,dp,ep,r,d,b,L,q,s,rfl,V4,hG,Oe,hD,λ H3 Ox NJ=>Zw⟩;show Y3 PK t3 Pe Ox.ob Vp xGX;show Wp (mO _ _ _ _ (xGu DQ (by lia) EH)) Rr
   show xI ⟨_,rfl,r,PK,_,rfl,Pe,Vd,r,d,_,8,rfl,Ox,Z9,h8,λ H4 OB QR=>Zw⟩;have e1:Ε q-256+3=Ps (q-256+3):=by omega
   have X1:=US Vp Pk;refine⟨_,rfl,_,rfl,_,rfl,_,_,rfl,rfl,_,_,rfl,rfl,_,rfl,?_⟩
   try dsimp only
   show Η e1 ⟨l,S,_,_,e,rfl,X1,by exact(YY [_,_,_] 1 qA (iU (Br 192 DC)) LE NM (d8 hW he.symm)),N8,Si,hb3,_,?_,_,_,_,_,rfl,hk,rfl,ad,OB.upd Pk QP,?_,((x0O).tr QR).up nl⟩
   ·show LT xvs x3W
   ·refine((V4.but2 Oe NJ).but2 Ox QR).keep λ c o' e' hc=>?_
    show XV (by show xQe hc OV.symm nldp.symm;exact nlep.symm) e'
 ·cases hk with
  |sg q1=>show Wv (by show Ai (xNF q1)) h
  |cp q1=>show Wv (by show Ai (xNF q1)) h
  |done Ud=>
   show DE A3;have ec:xE6 pZ x6W=Ο xYA:=by rw [dm,<-IN]
   refine⟨_,rfl,_,rfl,_,rfl,l,_,rfl,Ng.of Pn,SC l9 n9⟩
   try dsimp only
   rw [ec];have s9:=Ei xYA n9;show B8 dx9 t9 XO Oe.ob (k l9 _ (xlQ kp n9 (Bt XO)) ad (Oe.same s9) (kp.s s9))
universe K25.Ck
namespace L2
open PySem
def xnt (hK:X.K=K)(he:Am e ta)(hb:xQ4 e f xGc=xGc):Am (xLu e pos) (xiB K ta f):=by show DI hK (xsP he hb)
def xbH (hK:X.K=K)(ha:kA)(hb:UA)(hs:xoK b):Am (xyT a b) (Xc (rIxL K) ta tb):=by show DI hK (xv9 xv8 ha hb hs)
universe L2
namespace K25.Ck
open PySem L2 QQ W17 W16 BP K25.M
seal PE PA PS PSs PT PW PG PI
abbrev xun:M5:=top 109
abbrev xpz:M5:=top 110
inductive TxG (R W:Id):jL (Id->ZU Nat)
 |raw:xCF 0 R.length R A6
 |run {v t:Nat} {T:Id}:xA5 v 0 [] t T->xCF 1 v T t
 |cpy {v t:Nat} {S:Id}:xvy R (xQC v) 0 W t S->xCF 2 v xYz t
 |shr {v t:Nat} {L S:Id} {b1:Av}:xJC xyx L b1->tX->xzx->xxH L (xQC v) W b1 S xF7->t≤A6->xCF 3 v xYz t
inductive spRdG (C:MV) (u:Nat) (vs:NE) (H:Hp) (Q:VK) (Nf:XK):Prop
 |mk (o r d x:MV) (R W T:Id) (n t:Nat) (h0:vs=[y9,jl,Qh,Cw]) (h1:UH H 0) (h2:BM=mD) (h5:Zu n) (h6:Rx) (h7:xCF u n T t) (h8:∀l H',Ξ->AL=EX->UH H' t->WZ->AS):spRdG C u vs H Q Nf
structure RdG (P:MY)(w:MZ)(K:Frag)(mg:Β)(base:M2)(C Cu:MV)(u:Nat):Prop where
 cl:xG0 Cu
 read:∃f fd,Meth K Cu "read" f/\ua Jad/\AH 37 Jad (spRdG C u)
structure xw0 (K:Frag)(mg:Β)(C G C0 C1 C2 C3:MV):Prop where
 D:xPN C G
 r0:∃f fd,qW C0 "read" "RawWay.read" xpr Jad
 r1:∃f fd,qW C1 "read" "RunWay.read" xpQ Jad
 r2:∃f fd,qW C2 "read" "CopyWay.read" xq4 Jad
 r3:∃f fd,qW C3 "read" "ShareWay.read" xp1 Jad
def xw0.ok (Z:xw0 K mg C G C0 C1 C2 C3)(c0:xG0 C0)(c1:xG0 C1)(c2:xG0 C2)(c3:xG0 C3)(hu:u<4):RdG P w K mg base C (xPS u) u:=by
 have D:=Z.D;show xLz u
 ·show xyR M Z.r0 ⟨c0,_,_,M.m,M.b,x11 (xfY M.F D.Z) Z9 (λ vs H Q E h=>?_)⟩;obtain⟨o,r,d,x,R,W,T,n,t,rfl,hR,hx,NM,hW,hk,k⟩:=h;cases hk;exact⟨o,r,d,_,R,_,rfl,hR,NM,UV,λ l H' nl hl Uh kp=>qb H' nl (by show ρ Hc hl hl) Uh kp⟩
 ·show xyR M Z.r1 ⟨c1,_,_,M.m,M.b,x11 (xfa M.F D.Y D.Z) Z9 (λ vs H Q E h=>?_)⟩;obtain⟨o,r,d,x,R,W,T,n,t,rfl,hR,hx,NM,hW,hk,k⟩:=h;cases hk with
  |run q=>exact⟨o,r,d,_,R,T,n,t,rfl,hR,q,NM,k⟩
 ·show xyR M Z.r2 ⟨c2,_,_,M.m,M.b,x11 (xfx M.F D.Y D.Z) Z9 (λ vs H Q E h=>?_)⟩;obtain⟨o,r,d,x,R,W,T,n,t,rfl,hR,hx,NM,hW,hk,k⟩:=h;cases hk with
  |cpy q=>exact⟨o,r,d,x,R,W,_,n,_,rfl,hR,hx,q,NM,hW,k⟩
 ·show xyR M Z.r3 ⟨c3,_,_,M.m,M.b,(wp M.F D).imp λ vs H Q E h=>?_⟩;obtain⟨o,r,d,x,R,W,T,n,t,rfl,hR,hx,NM,hW,hk,k⟩:=h;cases hk with
  | @shr _ _ L S b1 q1 q2 q3 q4 q5=>
   refine⟨o,r,d,x,W,_,_,n,L,S,b1,rfl,⟨R,0,hR,rfl⟩,hx,NM,hW,q1,q2,q3,q4,λ l H' nl hl Uh kp=>qb H' nl hl ?_ kp⟩;obtain⟨R',t',Uh,e⟩:=Uh;show S8 dx hp hR.ob nrd (d≠r) (xQ hR.ls (by show Τ));have eR:R'=R:=xfj (HO.lst.inj (Gg (Uh.ls.symm.trans (B1 hR.ls nrd))));subst eR;have e':=yt e;rw [FU,FU,K25.C.xvM] at e';have ht:=Uh.le;obtain rfl:t=t':=by exact BC (rS [_,_,_,_,_] 4 (wy xJ) (DX (.a (rZ Os) Cv)) LE Os e'.symm (xb Ω [_,_] LE Ak LE Ak q5)) (rS [_,_,_,_,_] 3 (wy (rZ Os)) (rZ (.a xJ Cv)) Os LE e' (xb Ω [_,_] LE Ak LE Ak ht))
   exact Uh
 ·exact Dw (xNk (AJ cW)) (.n 4) hu
inductive xls (Ny:MV) (vs:NE) (H:Hp) (Q:VK) (Nf:XK):Prop
 |mk (a h x dx:MV) (R W T:Id) (u v y t:Nat) (h0:vs=[ω,xNM,Cw]) (h1:XL=qz) (h2:uG) (h3:H h=dE Ny (xwu u v y)) (h4:BM=mD) (h5:Rx) (h6:Zu v) (h7:u<4) (h8:xCF u v T t) (h9:A6-t<8) (V5:xA2%2^(A6-t)=0) (Qy:∀l H',Ξ->Ι->AL=EX->AS):xls Ny vs H Q Nf
def xqp:Uf ["body","head","window","reader","text"] xWj xun:=Sc
def xf3 (F:Ζ "text_in" xun xWj)(Z:xw0 K mg C G C0 C1 C2 C3)(W:xCV G')(T:xwO K mg Ny):
  AH 38 xWj (xls Ny):=by
 have D:=Z.D.Z;have Y:=Z.D.Y;show Dd D.init;show jf N D.need Wy W.ways Ae D.atend L D.left;show ZV O D.ones Ba D.bits;show Al xqp (λ M7 A outer st H vs Q E hr h=>?_);obtain⟨a,h,x,dx,R,Wn,T',u,v,y,t,rfl,ha,hb,hh,hx,hW,hv,hu,hk,h1,h2,k⟩:=h;have hr6:ED 6:=UF;have Pe:Dg:=UF;have NA:Bv:=UF;have GI:=xhn (P:=P) (w:=w) (base:=base) FI N D.Y D.T;have GW:=xoR (P:=P) (w:=w) (base:=base) Wy.F W;have GA:=xhz (P:=P) (w:=w) (base:=base) Ae.F Ba O L D.T D.Y.X;obtain⟨cl,_,_,mR,bR,GR⟩:=Z.ok (P:=P) (w:=w) (base:=base) W.raw.W.cl W.run.W.cl W.cpy.W.cl W.shr.W.cl hu;show yy (oG 3 xqp.nd (xvi MI GI hr6 Z7 D.m bI .nil a7 Ew) (xrP (af (oW xqp.nd (xx7 (xbH (K:=K) rfl (xlA GW NA Z7 Wy.m Wy.F.kp Wy.b .nil a7) (xnt (K:=K) rfl PP rfl) jG) cl mR GR hr bR .nil a7 (WS π (xnt (K:=K) rfl PP rfl) Ty))))) (lB (bw π D.T.cl Ae GA Pe)) Ν) (eK g1 (Υ (λ p dp np T4 Ya=>?_)))
 have s0:=xJW C;show DE ⟨p,dp,a,R,rfl,ad,xW8,hb,λ d H2 nd hR kp=>xOQ⟩;have s2:SR:=λ c o e=>B1 SH m6
 refine aq (λ R2 g2=>qN (λ l os ds H3 nl no hl ho s3=>?_))
 have hh3:=Cn (C7 hh);have Ox:xG8 H3 0:=hR.keep λ c o e _=>Cn e
 refine⟨_,rfl,h,Ny,dx,_,_,rfl,hh3,T.cl,T.nW,xh0 _ _ _,l,_,_,_,rfl,rfl,xL7,xym u (gx4 hu),?_⟩;show xI ⟨os u,ds u,[],rfl,ho u hu,rfl,_,rfl,_,rfl,h,Ny,dx,_,_,rfl,hh3,T.cl,T.nC,xhP _ _ _,_,rfl,os u,p,d,x,R,Wn,T',v,t,rfl,Ox,Cn (C7 hx),hv,hW,hk,λ l' H4 nl' h4 OB QR=>Zw⟩;have s4:xOM:=λ c o e=>US xVh m6
 show DG dp4 V1 OB.ob (eK g1 ⟨_,rfl,p,dp4,_,rfl,V1,oy,p,d,R,t,rfl,OB,h1,h2,SC H5 s5⟩)
 refine Ep rfl;exact aV (xFJ (k l' H5 (none_of (s2.trans s3) nl') xRO (AZ h4)))
def xij (g:xU1)(h:xvF (NN 0) Sj R):∃e,e<8/\A6=Sj+e/\xyx=gC++xA6 e/\xA2%2^e=0:=by
 have hl:=h.len;have hle:Sj≤A6:=by exact(qe [_,_,_] (wy (AJ (D7 7))) (kB xT7) Ak (DV U3) zK)
 refine⟨A6-Sj,by exact Cm [_,_,_,_] (kB (wy qE)) (wy (.a (Vh 3 7) Ak)) On 8 (Es 8 hl) (xb jI [_,_] Os je Os je hle),by exact uL (bM je DC je Θ Ω) DC je Θ je (Dq [_,_] Os je Os je hle),?_,?_⟩
 ·have hn:xA2=num (gC++xA6 (A6-Sj)):=by
   rw [xx5,Nq,xvh,xgg g,h.num,Nat.zero_mod,Jn]
  have hlen:Vg gC (xA6 (A6-Sj))=A6:=by
   rw [FD,xsD,Nq];exact uL (bM DD Cv P3 Cv (Dq [_,_] LE Ak LE Ak hle)) Cv DD Cv P3 Ω
  refine C10.xky (by rw [K25.C.xvM,hlen]) ?_;unfold K25.C.bt;show Ay M8 (xvI (gC++xA6 (A6-Sj))) hlen M8;rw [xvh,hn];exact Jv M8
 ·rw [h.num,Nat.mul_mod_left]
def xd5 (hb:uG)(hn:n<2^s)(e:xF7=eJ s++r)(ht:t≤A6):t+s≤A6/\xFX s=n/\(xyx).drop (t+s)=r:=by
 have hl:=yt e;rw [FU,K25.C.xvM,FD,Nq] at hl;have h1:t+s≤A6:=by exact(B7 [_,_,_,_,_] (Aw qS) xJ (DX Cv) P3 Cv U3 (Dq [_,_] LE Ak LE Ak ht))
 refine AG h1 ?_
 ·rw [xnT hb h1,e,xvY hn]
 ·rw [<-Ih,e,eD]
theorem xlJ (hb:uG):∀{rs} {t} {S},(∀q∈rs,xG1/\Zu EU/\EB C4)->t≤A6->xF7=oX (pR rs) z->xA5 (xuQ (xUD).length) t S (t+xW rs) (S++xUD)
 | [],t,S,_,_,_=>by
  rw [Sd (exp []) [],GU];exact x1r
 |q::rs,t,S,hq,ht,e=>by
  obtain⟨h1,h2,h3⟩:=hq q Gb;rw [xrN,bX,bX,FJ,FJ] at e;show pB a1 a2 a3 (xA7 (show EU-1<2^6 by show _<64;exact(Z3 [_,_] 1 On (Zz 64) On 64 h2 (mF AU AU h1))) e ht) b1 b2 b3 (xA7 (show C4<2^8 from h3) a3 a1);have ee:exp (q::rs)=xQV C4++xUD:=rfl;have e6:xGA+1=EU:=by show LT a2 (oz (xFH (mF AU AU h1)) On On Ω)
  have ih:=xlJ hb (S:=S++xQV C4) (λ x hx=>hq x xMI) b1 b3;rw [FD,Gy,FJ] at ih;rw [ee,xrN,cu,cu,FD,Gy];refine .run (by exact(bM AU Os On vF h1)) b1 (by show LT e6 (vQ [_,_,_] P3 vF)) ?_;rw [e6,b2,show t+(6+(8+xW rs))=t+14+xW rs by exact EN [_,_] (A9 (Br 6 (Zz 8))) (vA xTX) [_,_] (vA xTX) (A9 (Br 6 (Zz 8))),<-Hj];exact ih
theorem xtc (B)(b):∀n,K25.Ck.cpy B b n=K25.cpy B b n
 |0=>rfl
 |n+1=>by rw [K25.Ck.cpy,K25.cpy,xtc B b n]
theorem xpY (hb:uG):∀{Pp} {t} {S},GR S Pp->t≤A6->xF7=oX (pP Pp) z->xvy R (xSc S Pp) t S (t+xBg) (xN2 S)
 | [],t,S,_,_,_=>x1r
 |x::Pp,t,S,g,ht,e=>by
  obtain⟨gx,gr⟩:=g;show Ay hl gr.len xq9 hl;have er:runP S (x::Pp)=xN2 (app S x):=rfl;cases x with
  |sg s=>
   rw [xuz,Sd (pcP P7) [(0,1),(s,8)],Jw,Jw,Hl,bX,bX,FJ,FJ] at e;show pB a1 a2 a3 (xA7 (show 0<2^1 by decide) e ht) b1 b2 b3 (xA7 (show s<2^8 from gx) a3 a1);have ih:=xpY hb gr b1 b3;rw [er,xuz,aW];refine .sg (by show S.length<_;have:(Pc.sg s).size=1:=rfl;exact(Bu [_,_,_,_] (AJ xUn) Θ On Os hl wO)) b1 a2 ?_;rw [b2,show t+(xW6+xBg)=t+1+8+xBg by show LT (Sd xW6 9) (EN [_,_] (xWw 9) (vA zr) [_,_] (vA zr) (xWw 9))];exact ih
  |cp b y=>
   obtain⟨g1,g2,g3,g4,g5⟩:=gx;rw [xuz,Sd (pcP (xA1 y)) [(1,1),(b,8),(y-3,4)],Jw,Jw,Jw,Hl,bX,bX,bX,FJ,FJ,FJ] at e;show pB a1 a2 a3 (xA7 (show 1<2^1 by decide) e ht) b1 b2 b3 (xA7 (show b<2^8 by show EB _;exact(P9 255 On 256 g2)) a3 a1);show Y3 c1 c2 c3 (xA7 (show y-3<2^4 by show _<16;exact(Z3 [_,_] 1 rg (Zz 18) On 16 g5 (mF EZ EZ g4))) b3 b1) ih (xpY hb gr c1 c3);have ey:y-3+3=y:=by exact oz (yI rg rg (mF EZ EZ g4)) rg rg Ω
   have e9:Zm 9 4=y-3:=c2;have hsz:x0K b y=y:=rfl;rw [er,xuz,aW];refine .cp (by exact(B7 [_,_,_,_,_] xUn (aS qS) (Aw (rZ Tm)) On Os hl (d8 g4 hsz.symm))) (by show t+1+8+4≤_;exact c1) a2 (by rw [e9,ey];exact(B7 [_,_,_,_,_] (rn qE) Os Eo P3 Tm hl xZc)) (by show LT b2 g1) (by show LT b2 g3) ?_;rw [b2,e9,ey,xtc,show t+(xyM (xA1 y)+xBg)=t+1+8+4+xBg by show LT (Sd (xyM (xA1 y)) 13) (EN [_,_] (xWw 13) (vA (CF zr 4)) [_,_] (vA (CF zr 4)) (xWw 13))];exact ih
theorem xpx:∀{It:xuU} {L:Id} {a:Nat},(xTi It x)->L.length+xLl a≤272->Vr (L++xuR a) (W13.nxtS a It) r L' b'->Vr L a (oX pT r) L' b'
 | [],L,a,_,_,h=>by rwa [Sd (xTI []) [],GU] at h
 |x::It,L,a,hk,hl,h=>by
  have hx:=hk x Gb;have ep:W13.puts (x::It)=x.puts++pT:=by simp [W13.puts]
  rw [ep,xqI,FJ];cases x with
  |one l=>
   have h6:l≤6:=hx;have h8:l<2^3:=by show _<8;exact(P9 6 On 8 h6)
   rw [Sd (xTI (.one l::It)) (l::xuR l)] at h hl;rw [F2] at hl;show Η (AI (x5H (.one l)) (dig l 3) (by simp [W13.Itm.puts,bitsP])) (.one (by exact(gY [_,_] EA 272 On 272 hl)) (by rw [FD,Nq];exact(RE EZ xEe)) (by rw [xvY h8];lia) ?_);rw [xvY h8,eD];show p9 (xpx (λ y hy=>hk y xzY) (by rw [FD];show _+1+_≤_;exact(gY [_,_] EA 272 xzW 272 hl)) ?_) FJ h
  |rep n=>
   obtain⟨h3,h66⟩:wa 3/\n≤66:=hx;rw [Sd (xTI (.rep n::It)) (xuJ n++xuR a)] at h hl;rw [FD,Gy] at hl;rw [AI (x5H (.rep n)) (dig 7 3++dig (n-3) 6) (by simp [W13.Itm.puts,bitsP]),FJ];have e1:num ((dig 7 3++(dig (n-3) 6++(oX pT r))).take 3)=7:=xvY (by decide) _;have e2:num (xJ8 (dig 7 3++(dig (n-3) 6++(oX pT r))) 3 6)=n-3:=by rw [eD,xvY (show n-3<2^6 by show _<64;exact(Z3 [_,_] 1 rg (Zz 66) On 64 h66 (mF EZ EZ h3)))]
   refine .rep (by exact Cm [_,_,_] (CF vF 3) (Zz 272) On 272 hl h3) (by rw [FD,FD,Nq,Nq];exact(RE (.n 9) (aS (U6 6)))) e1 ?_;rw [e2,Sd (YX 9) (3+6),<-Ih,eD,eD,show n-3+3=n by exact oz (yI rg rg (mF EZ EZ h3)) rg rg Ω];show p9 (xpx (λ y hy=>hk y xzY) (by rw [FD,Gy];exact(gY [_,_,_] vF 272 xD6 272 hl)) ?_) FJ h
def xnG (g:xzx)(hq:CG)(hs:se)(c):C10.Due L (xz4 q s s++c) (.thing q s):=by
 have hl:B4 (xz4 q s s) s:=Nq _ _;have hn:num (xz4 q s s)=xyG q s:=C10.wd_num g hq hs;refine oB (by rw [FD,hl];exact(vQ [_,_] LE P3)) Q1
 ·show LT (List.take_left' hl) ⟨by show LT hl hq,by show LT hl hs,by rw [hl,hn]⟩
 ·rw [Hy (by show LT hl (Gi hj))];have elj:B4 ((xz4 q s s).take j) j:=by rw [FW,hl];lia
  refine⟨q,s,hq,by show LT elj hj,?_⟩;rw [elj,C10.xlx _ (by show LT hl (Gi hj)),hl,hn]
theorem xmX:∀{Pp} {S},xHo->GR S Pp->xxH L (xSc S Pp) S (oX gy z) (xN2 S) z
 | [],S,_,_=>x1r
 |x::Pp,S,k,g=>by
  obtain⟨gx,gr⟩:=g;show Ay hl gr.len xq9 hl;have er:runP S (x::Pp)=xN2 (app S x):=rfl;obtain⟨k1,k2,_⟩:=k.at Gb gx;have ih:=xmX (z:=z) (⟨k.good,k.len,k.six,λ y hy=>k.has y xzY⟩:xHo) gr;rw [er,xo2,xqI,FJ];cases x with
  |sg s=>
   show Η (AI (bitsP (cP L P7)) (xz4 s xAL xAL) (by simp [cP,bitsP])) (.sg (by have:(Pc.sg s).size=1:=rfl;exact(Bu [_,_,_,_] (AJ xUn) Θ On Os hl wO)) (xnG k.good k1 k2 _) gx ?_);rw [Sd (th P7) s,eD];exact ih
  |cp b y=>
   obtain⟨g1,g2,g3,g4,g5⟩:=gx;rw [AI (bitsP (cP L (xA1 y))) (xz4 xXG xHx xHx++dig b 8) (by simp [cP,bitsP]),FJ];have hsz:x0K b y=y:=rfl;have e1:num (xJ8 (xz4 xXG xHx xHx++(dig b 8++(oX gy z))) xHx 8)=b:=by rw [eD,xvY (show b<2^8 by show EB _;exact(P9 255 On 256 g2))]
   have e2:xXG-256+3=y:=by exact BC (BX (D7 256) (Zz 253) rg Os (Dq AV EZ LE xEF (U6 253) g4)) (BX (Zz 253) (D7 256) Os rg Ω)
   refine .cp (q:=xXG) (s:=xHx) (by exact(B7 [_,_,_,_,_] xUn (aS qS) (Aw (rZ Tm)) On Os hl (d8 g4 hsz.symm))) (xnG k.good k1 k2 _) (by exact(By AV EZ LE xEF (U6 253) g4)) (by rw [eD,FD,Nq];exact(RE QI (U6 8))) (by show LT e1 g1) (by show LT e1 g3) (by show LT e2 (B7 [_,_,_,_,_] (rn qE) Os Eo P3 Tm hl xZc)) ?_;rw [e1,e2,xtc,eD,eD];exact ih
theorem xl4:∀T N,cT (xUC s (s,8)) N=N*256^T.length+val T
 | [],N=>by show N=_;rw [xoI,K6,Nat.pow_zero];exact EN AV LE (Zr (.w LE 1)) AV (Zr (.w LE 1)) LE
 |s::T,N=>by
  show cT (xUC s (s,8)) (N*2^8+s)=_;rw [xl4 T,gl,F2];show(N*256+s)*256^T.length+val T=_;rw [Ju,HQ,HM 256,Hj,<-Iq]
def xay (h:C6)(t:mh)(r:xvF (NN 0) Sj R):xCF u T.length T Sj/\A6-Sj<8/\xA2%2^(A6-Sj)=0:=by
 obtain⟨gd,_⟩:=h.good t;obtain⟨e,he,hl,hbt,hv⟩:=xij gd r;have ee:A6-Sj=e:=by exact BC (qe [_,_,_,_] (lK Dz) (.a DC bW) Os xUc (Dq [_,_,_] DD Cv Os Cv U3)) (B7 [_,_,_,_] DC bW (lK Dz) Os LE U3 Ω)
 refine⟨?_,by show LT ee he,by show LT ee hv⟩;have h0:0≤A6:=AM;show xLz u
 ·obtain rfl:ps=Xy:=h;have ht:=xv2 T;have hlen:xGq T.length:=by show AY r.len (BC (BF 8 [_,_,_,_] (pO (Yz Be)) (xCl (.a ml Ak)) Os (Wz he hl (Fz ht))) (EL 8 [_,_,_,_] (.a ml Ak) (Yz Be) Os LE (d8 U3 ht.symm)))
  have hv':xA2=val T:=by
   rw [r.num,show A6-tots Xy=0 by exact(uv (B7 [_,_,_,_,_] xMv (A9 (xHj Cv)) (wy (Aw (DX (kx qS)))) LE Cy U3 (Wz (Fz ee) ht.symm xNw))),Nat.pow_zero,Nat.mul_one];show cT (xUC s (s,8)) 0=_;rw [xl4,KW,HG]
  obtain rfl:R=T:=xoe r.byt t.tb hlen hv';show LT ht .raw
 ·obtain rfl:ps=x3q T:=h;have q:=xlJ r.byt (S:=[]) (xtD t.le t.tb) h0 hbt;rw [xye,Hl,HG,K6,HG] at q;exact .run q
 ·show Vf Pp w h;obtain⟨g,er,_⟩:=xXF;have q:=xpY r.byt g h0 hbt;rw [er,HG,FD] at q;have:=TxG.cpy q
  rwa [Ks] at this
 ·show jx Pp L It b w sl wi rfl;obtain⟨g,er,_⟩:=xXF;have h1:xRM:=by
   cases Pp with
   |nil=>
    show SK (yt (AI W (W++T) er)) FD;have:=t.one;lia
   |cons=>exact Je AM
  have k:=sl.tok g h1;have hd:=W13.xqt wi;rw [JA,Hl,<-k.len,Hc] at hd;have q:=xmX (z:=xA6 e) k g;rw [er,FD] at q;have hI:xJC xyx L (oX gy (xA6 e)):=by
   rw [hbt,xqI,FJ];refine xpx (W13.xqy k.six wi) (by rw [<-hd,k.len];exact Fz rfl) ?_;rw [Hl,<-hd];exact .done (Fz k.len.symm)
  have ez:(xyx).drop (tots (pT++gy))=xA6 e:=by rw [hbt,<-xsD,Ks]
  have:=TxG.shr (W:=W) (v:=T.length) hI k.len k.good (by show LT ez q) (by exact(bM Dz Ak LE Ak U3))
  rwa [Ks] at this
 ·exact h.elim
inductive xjv (vs:NE) (H:Hp) (Q:VK) (Nf:XK):Prop
 |mk (x z:MV) (W T R:Id) (h0:vs=[Cw,.ref z]) (h1:BM=qz) (h2:H z=mD) (h3:PB W T R) (h4:mh) (h5:∀l H',Ξ->Ι->AL=EX->AS):xjv vs H Q Nf
def xsi:Uf ["row","before","block","window","head"] x10 xpz:=Sc
structure Tbk (K:Frag)(mg:Β)(CK Ny C G C0 C1 C2 C3:MV):Prop where
 H:xPM CK Ny
 Z:xw0 K mg C G C0 C1 C2 C3
 ahead:Δ "need_ahead" xx4 mw
 win:Δ "need_window" xvp xyO
 nhead:Δ "need_head" xpS xSW
 headof:xIw "head_of" xwj
 bsize:Δ "block_size" xx2 xzH
 ends:xIw "ends_in_check" xp2
 wcheck:xIw "with_check" xx8
 textin:Δ "text_in" xun xWj
theorem xtJ:∀(It:xuU) (a:Nat),(xTi It x)->9*xLl a≤66*fD
 | [],_,_=>AM
 |x::It,a,hk=>by
  have hx:=hk x Gb;have ep:W13.puts (x::It)=x.puts++pT:=by simp [W13.puts]
  rw [ep,aW];cases x with
  |one l=>
   have ih:=xtJ It l λ y hy=>hk y xzY
   show 9*(xLl l+1)≤66*(3+_);lia
  |rep n=>
   obtain⟨_,h66⟩:wa 3/\n≤66:=hx;have ih:=xtJ It a λ y hy=>hk y xzY
   rw [Sd (xTI (.rep n::It)) (xuJ n++xuR a),FD,Gy];show _≤66*(9+_);lia
def OX.low (h:C6)(t:mh):8≤Sj/\(mn 2->9≤Sj):=by
 have h1:=t.one;show xLz u
 ·obtain rfl:ps=Xy:=h;show LT xv2 ⟨by lia,λ _=>by lia⟩
 ·obtain rfl:ps=pR pz:=h
  suffices 14≤xW pz from⟨by lia,λ _=>by lia⟩
  have e:=xye T;cases z:pz with
  |nil=>rw [z] at e;rw [<-AI [] T e] at h1;cases h1
  |cons q rs=>rw [xrN,cu,cu];lia
 ·show Vf Pp w h;have hP1:=xtr w (by show mQ (Iu h1))
  suffices 9≤xBg from⟨by lia,λ _=>this⟩
  cases Pp with
  |nil=>cases hP1
  |cons x Pp=>
   rw [xuz,aW];cases x with
   |sg s=>exact Gz 9 _
   |cp b y=>show 9≤13+_;lia
 ·show jx Pp L It b w sl wi rfl;obtain⟨_,_,_,_,tok,hk,hd⟩:=xpd t w sl wi;have hl:=xtJ It 0 hk;rw [hd,tok.len] at hl;show LT aW ⟨by lia,λ _=>by lia⟩
 ·exact h.elim
def PB.parts (h:PB W T R)(t:mh):∃i ps Rb,i<4/\OX i W T ps/\xvF (NN 0) Sj Rb/\R=sld (WM (qY-1)++Rb)/\AK Rb.length/\Zu Rb.length:=by
 have hf:=(h.facts t).2;show jx i ps Rb hi hm hp hr rfl;refine⟨i,ps,Rb,hi,hp,hr,rfl,?_,?_⟩
 ·have h1:=hr.len;have h2:=(OX.low hp t).1;lia
 ·rw [xv1,FD] at hf;have:B4 (WM (qY-1)) 3:=rfl;lia
def xeY (F:OG K "take_block" "take_block" xpz dV f fd)(Z:Tbk K mg CK Ny C G C0 C1 C2 C3)(Wa:xCV G'):
  AH 39 x10 xjv:=by
 show yd N Z.H.need GN (ok_needrow (P:=P) (w:=w) (base:=base) N Z.H.N);show jf Ah Z.ahead Wn Z.win Nh Z.nhead Ho Z.headof;show jf Bs Z.bsize En Z.ends Wc Z.wcheck Ti Z.textin;show CQ t3 h3 Z.H.three t2 h2 Z.H.twoB;show AQ xsi (λ M7 A outer st H vs Q E hr h=>?_);obtain⟨x,z,W,T,R,rfl,hB,hW,pb,tw,k⟩:=h;have hb:=xRv.1;obtain⟨i,ps,Rb,hi,hp,hrow',rfl,ON,NH⟩:=xLr;have ht1:=tw.one;have ZG:=tw.le;have Ra:xON:=UF;have hr6:ED 6:=UF;have Ua:xIr:=UF;have hr8:ED 8:=UF;refine ju 2 xsi.nd (lJ GN Ua N SZ) (Zq 3 xsi.nd (lJ (xmk Ah Wn N Z.H.N) hr6 Ah PP) 4 xsi.nd (lJ (xeD Nh Ho Bs Z.H) Ra Nh Ty) (lB (lJ (xf5 En Wc Z.H.Y) hr8 En Ty)) (il (xf3 Ti Z.Z Wa Z.H.T) hr Ti (gk Ty xJE (xxh xyd (DT 2 h2 t2))) Ν π))
 generalize hX:WM (qY-1)++Rb=X at*;have hXl:X.length=xUK 3:=by rw [<-hX,FD];exact Kh 3 _
 show ZX (ZW x _ hB hb (qP l hn));have s1:=Ei xFa hn;have XT:ao H l xFa l=Au xFa:=ad;show SN H l xFa H1 (o9 (aN _ _ W rfl (.inr (lM z (Ec hW))) tw.wb tw.wl (λ lw H2 s2 nw hw2=>Aa)))
 clear g;have hl2':=C7 XT;have Pj:=dn;have eR:xFa=WM (qY-1)++(Rb++aY X):=by unfold sld;rw [<-hX,FJ]
 show ZX ⟨_,rfl,l,_,Rb.length,_,rfl,eR▸hl2',by omega,NH,ON,by show Af FD,λ p dx H3 np s3 N1=>Aa⟩;have XE:=Pj.trans s3;have Ou:=Cn hl2';show ZX (aN _ l X rfl Ou (λ b q=>zP (fu q)) (by lia) (λ H4 s4=>Υ (aV Aa)));have Vu:=XE.trans s4;refine⟨_,rfl,_,rfl,_,rfl,_,rfl,l,_,rfl,Ng.of (ES Ou),SC l5 n5⟩;have ec:ky (Ο xFa) (some 3) (-2)=xEa:=by
  rw [xaN _ (by rw [xv1];lia),xoL,<-hX];rfl
 rw [ec];have s5:=xIW xEa;have hx:=xay hp tw hrow';rw [show(qY-1)/64=i by lia,show(qY-1)%64+1=T.length by lia] at N1;exact⟨_,rfl,_,rfl,l5,p,lw,dx,Rb,W,T,i,T.length,_,_,rfl,ad,hrow'.byt,AZ (ES N1),AZ (ES (Cn hw2)),tw.wl,ZG,hi,hx.1,A4 hx,CJ hx,λ l' H' n' s6 h'=>k l' _ (none_of x6P n') ((x6P).trans s6) h'⟩
universe K25.Ck
namespace K25.Ck
open PySem L2 QQ W17 W16 BP
seal PE PA PS PSs PT PW PG PI
abbrev xt0:M5:=top 115
abbrev xur:M5:=top 116
abbrev xtT:M5:=xNO 0
abbrev xt1:M5:=xNO 1
abbrev xrr:M5:=xNO 2
abbrev xtI:M5:=xNO 4
def four (n:Nat):Id:=xOk++xN0
def tailR (n c:Nat):Id:=sld (xp++u6++aI)
def xpb (n):wL u6:=λ b h=>kb h (xwl tW b) (xwl tW b)
def xry:¬(jO="many_signs"):=Z8
def xro:¬(jO="signs_check"):=Z8
def xrf:¬(jO="group"):=Z8
def xrb:¬(xDr="signs_check"):=Z8
def xra:¬(xDr="group"):=Z8
def xrH:¬(xYC="group"):=Z8
def fO (b m:Nat) (ck g:MV):qw:=[("blocks",fb),("many_signs",D1),("signs_check",.ref ck),("group",.ref g)]
def xvS (b m)(ck g):xTo g (xH1 ck m b)=mK:=by
 show(xTo g (xXU ck (xEM "many_signs" (jO,fb) [("many_signs",D1)])))=_;rw [FY xry];show(xTo g (xEM "signs_check" (jO,fb) (xSy "signs_check" (xDr,D1) [("signs_check",.ref ck)])))=_;rw [FY xro,FY xrb];show(xEM "group" (jO,fb) (xSy "group" (xDr,D1) (gs "signs_check" "group" (Y9 xYC ck) [Y9 "group" g])))=_;rw [FY xrf,FY xra,FY xrH];rfl
def xrl (b m)(ck g):ZA mK "blocks"=RW:=by
 rw [<-xvS,ar,FY xrf,ar,FY xro,ar,FY xry,ar,AD]
def xL (b m)(ck g):ZA mK "many_signs"=oi:=by
 rw [<-xvS,ar,FY xra,ar,FY xrb,ar,AD]
def xrp (b m)(ck g):ZA mK "signs_check"=TD ck:=by
 rw [<-xvS,ar,FY xrH,ar,AD]
def xhO (b m)(ck g):ZA mK "group"=TD g:=by rw [<-xvS,ar,AD]
def xeq (b m)(ck g){x:Str}(h1:nZ "group")(h2:nZ "signs_check")(h3:nZ "many_signs")(h4:nZ "blocks"):yS mK x:=by
 rw [<-xvS,ar,gi,ar,rI,ar,FY h3,ar,FY h4];rfl
def xd7 (b m)(ck g):xEu mK:=by show AP 4
def xiF (b m b')(ck g):xXY b' mK=xAu b' m:=by
 show(Tp "blocks" "blocks" _ _)=_;show Af AD
def xiL (b m m')(ck g):tH "many_signs" m' mK=xAu b m':=by
 show(xEM "many_signs" (jO,fb) (Tp "many_signs" "many_signs" _ _))=_;rw [FY xry,AD];rfl
def xtB (b m)(ck g g'):xTo g' mK=fO b m ck g':=by
 show(xEM "group" (jO,fb) (xSy "group" (xDr,D1) (gs "signs_check" "group" (Y9 xYC ck) (Tp "group" "group" _ _))))=_;rw [FY xrf,FY xra,FY xrH,AD];rfl
structure xwN (C CK:MV)(H:Hp)(p ck g:MV)(S:Id)(b:Nat)(G:Id):Prop where
 ob:∃dx,CI=aG (xyw b ck g)
 ch:∃dk,H ck=Tu CK dk (fC 16 (jK S))
 gr:H g=Φ mv
 byt:Eg S
def xwN.keep (h:xwN C CK H p ck g S b G)(s:∀c o,W1=IO->c=p\/c=ck\/c=g->AE=IO):xwN C CK H' p ck g S b G:=
 ⟨h.ob.elim λ dx z=>ip (E6 z Dm),h.ch.elim λ dx z=>ip (yw z Dm),yw h.gr xj,h.byt⟩
structure xqa (K:Frag)(mg:Β)(CK CO:MV):Prop where
 Y:xCJ CK
 initd:∃f fd t,(∃dV,x1T dV f fd)/\xyl K xLg [VU 16]/\xNj CK
 cl:xG0 CO
 nB:xKi CO "blocks"
 nM:xKi CO "many_signs"
 nC:xKi CO "signs_check"
 nG:xKi CO "group"
 m:mg "Course"=TD CO
 gb:PL "GROUP_BLOCKS" 4
 four:Δ "in_four_bytes" xt0 k8
 tailof:Δ "tail_of" xur xLj
 init:∃f fd,x63 xtT/\xF3/\xNj CO
 win:oh CO "window" "Course.window" xt1
 go:∃f fd,qW CO "go_on" "Course.go_on" xrr xy5
 tail:oh CO "tail" "Course.tail" xtI
inductive xj8 (vs:NE) (H:Hp) (Q:VK) (Nf:XK):Prop
 |mk (n:Nat) (h0:vs=[Qh]) (h1:∀l H',Ξ->Ι->AL=Au u6->AS):xj8 vs H Q Nf
def xbv:Uf k8 k8 xt0:=Sc
def AT (F:Ζ "in_four_bytes" xt0 k8)(Z:Pg):xIz k8 xj8:=by
 show yd Tw Z.Y.two GT (xtX (P:=P) (w:=w) (base:=base) Tw);show Al xbv (λ M7 A outer st H vs Q E hr h=>?_);show Bq n rfl k h (XC (pd (g9 GT Tw (pW xvX (xIO xvW))) (g9 GT Tw (xIO xvX))));have e1:AA/2^Int.toNat 16=Ps (n/65536):=by
  show AA/65536=_;exact JG (Nat.ToInt.div_congr rfl rfl)
 have e2:∀m:Nat,xYE m 65535=Ps (m%65536):=λ m=>xvn m 16
 refine⟨_,rfl,_,_,rfl,rfl,(by show RG (Gl≤16)),_,_,rfl,rfl,?_⟩
 try dsimp only
 rw [e1,e2];refine oC tW xNU;have s1:=Ei xOk n1;have Qy:ao H l1 xOk l1=Au xOk:=ad;show SN H l1 xOk H1 vc
 try dsimp only
 show Η e2 (oC tW (SC l2 n2));have s2:=Ei xN0 n2;have Uk:ao H1 l2 xN0 l2=Au xN0:=ad;have h21:=C7 Qy;have Pj:=dn;show SN H1 l2 xN0 H2 ⟨l1,l2,_,_,rfl,rfl,h21,Uk,(by show jy 4),zR⟩;exact sN (xm Pj) x6V (by rw [ad,<-FV];rfl)
inductive xlr (vs:NE) (H:Hp) (Q:VK) (Nf:XK):Prop
 |mk (n c:Nat) (h0:vs=[Qh,Vb]) (h1:c<65536) (h2:∀l H',Ξ->Ι->AL=Au (tailR n c)->AS):xlr vs H Q Nf
def xgV:Uf xLj xLj xur:=Sc
def xfH (F:Ζ "tail_of" xur xLj)(Z:Pg):AH 8 xLj xlr:=by
 show jf Tw Z.Y.two Fo Z.four Hr Z.Y.headrow Wc Z.Y.withcheck;show Al xgV (λ M7 A outer st H vs Q E hr h=>?_);show dD n c hc k h;have NA:Bv:=UF;have Ql:oS:=UF;show xBO (g9 (xqH Wc Z.Y) Wc (pd (pd (UC (xqA Hr Z.Y) Hr aj aj) (lJ (AT Fo Z) Ql Fo SZ)) (mJ (xtX Tw) Tw PP))) ⟨0,0,rfl,Z9,Z9,λ l1 H1 n1 s1 Qy=>?_⟩;show Wp (Zk n (λ l2 H2 n2 s2 Uk=>?_)) ⟨l1,l2,_,_,rfl,rfl,C7 Qy,Uk,(by show jy 7),SC l3 n3⟩;rw [<-FV];have s3:=Ei (xp++u6) n3;have h33:ao H2 l3 (xp++u6) l3=qh xp u6:=ad;have VX:=xEr s3;show SN H2 l3 (xp++u6) H3 (wY _ c hc (SC l4 n4));have s4:=Ei aI n4;have Uj:ao H3 l4 aI l4=Au aI:=ad;have h43:=ES h33;have s04:=xZl;show SN H3 l4 aI H4 ⟨l3,l4,_,_,rfl,rfl,h43,Uj,(by show jy 9),SC l5 n5⟩;rw [<-FV];have s5:=Ei (xp++u6++aI) n5;have h55:ao H4 l5 (xp++u6++aI) l5=qh (xp++u6) aI:=ad;have ZD:=s04.trans s5;show SN H4 l5 (xp++u6++aI) H5 ⟨l5,_,rfl,h55,rK,(by show RG (kM 9)),λ l H6 nl s6 hl=>qb H6 (xm ZD) x7K hl⟩;show EM hb hb hb
 ·show EM hb hb hb
  ·exact xwq Z9 Z9 b hb
  ·exact xpb n b hb
 ·exact xwl hc b hb
def xaI (S T):jK (S++T)=crc 16 45 (jK S) T:=by
 unfold chk crc;rw [J5]
theorem cI (x)(v):∀l,El (putF x v l) (l.length+1)
 | []=>UV
 |(y,u)::l=>by
  unfold putF
  split
  ·simp
  ·have:=cI x v l;show xL5
def fOC:HO.ins CO dx mK≠HO.ins CK dk xBE:=by
 intro z;injection z with _ _ z
 have:=yt z;simp [fO,fC] at this
def xwN.ne (h:Bp H p g S b G):p≠ck/\xCm/\g≠ck:=by
 show CQ dx hp h.ob dk hk h.ch;exact⟨xOs hk fOC,xQ h.gr (by show Τ),aF h.gr hk (by show Τ)⟩
inductive xkp (CO CK:MV) (vs:NE) (H:Hp) (Q:VK) (Nf:XK):Prop
 |mk (p dx:MV) (h0:vs=Bf) (h1:CI=dE CO []) (h2:∀(ck g:MV) (H':Hp),xOS->A1 g->Bp H' p g [] 0 []->Fu (∀b o,E5=IO->yW->yC=IO)):xkp CO CK vs H Q Nf
def xbd:bS xtT:=Sc
def xpt (F:x63 xtT)(Z:Pg):zC 4 (xkp CO CK):=by
 obtain⟨_,_,W⟩:=Z.Y.Z.whole;obtain⟨_,_,t16,⟨_,FI⟩,B16,MI⟩:=Z.initd;show AQ xbd (λ M7 A outer st H vs Q E hr h=>?_);show dD p dx hp k h;show E9 (u5 aj (xBw xUg (V7 (xsI MI (x0b W Z.Y.Z.T Z.Y.Z.X) UF Z7 Z.Y.Z.T.m B16 (xVp (a:=V.int 16) CY) a7)) xUh)) ⟨_,rfl,p,CO,dx,[],rfl,hp,Z.cl,Z.nB,(by show AP 0),?_⟩ ⟨_,rfl,p,CO,dx,_,rfl,ad,Z.cl,Z.nM,(by show qc),?_⟩;have NB:(rL (rL H OI) (xQU pL OI)) p=dE CO (x3e 0 0):=ad;have Sl:∀c o,W1=IO->Γ->(rL (rL H OI) (xQU pL OI)) c=IO:=λ c o e n=>by rw [sM,sM];exact e
 show DR no2 (∀c,WF ((rL (rL H OI) (xQU pL OI)) c)->UU) (λ c e=>by
  by_cases n:c=p
  ·show D5 n ad e e
  ·rw [sM,sM] at e;exact e) (rL (rL H OI) (xQU pL OI)) H2;intro x dk nx Vw nek;have s0:=xB3 CK;have VY:p≠x:=ae NB nx;refine Fb x dk 16 45 xwZ ad (λ H3 hx NJ=>DY);have N1:=Cz (j7 NB) VY;have k13:∀c o,W1=IO->Γ->x3=IO:=λ c o e n=>Cz (j7 (y8 e n)) (ae (y8 e n) nx)
 clear NJ s0;have NH:=cI "many_signs" mq (xXY 0 []);have ON:=cI "blocks" mq [];have Ou:=cI "signs_check" Cw (x3e 0 0);have ZK:B4 ([]:qw) 0:=rfl;refine⟨_,rfl,p,CO,dx,_,rfl,N1,Z.cl,Z.nC,Cm [_,_,_] vF (xBh (Zr yr)) On 1000 NH (d8 ON ZK),?_⟩;have V1:(rL H3 (xH1 x 0 0)) p=dE CO (xH1 x 0 0):=ad;have hx4:(rL H3 (xH1 x 0 0)) x=Tu CK dk (fC 16 (2^16-1)):=by show XV VY.symm hx
 show DR k14 (∀c o,W1=IO->Γ->(rL H3 (xH1 x 0 0)) c=IO) (λ c o e n=>by show XV n (k13 _ _ e n)) (rL H3 (xH1 x 0 0)) H4;refine Bh (by show jy 0) g ng;have s5:=zi ng;have hg5:ni g [] g=az:=ad;have Ub:=AZ V1;have hx5:=AZ hx4;have ngp:xCm:=DH V1 ng;have hgH:A1 g:=by
  cases e:H g with
  |none=>rfl
  |some o=>show Μ (k14 _ _ e ngp) ng ng
 show EI H4 g [] H5 ⟨_,rfl,p,CO,dx,_,rfl,Ub,Z.cl,Z.nG,(YY [_,_,_,_] 1 (CN qE) (pO (xI1 (Zr Ψ))) On NH (Bb ON Ou (Fz ZK))),?_⟩;refine k x g _ (no2 x nx) hgH ⟨ip (MU ad (xzi l (xSF CO dx l) (xvS 0 0 x g))),⟨dk,by show XV VY.symm hx5⟩,by show XV ngp hg5,λ z hz=>by simp at hz⟩ λ c o e n=>?_
 show XV n (AZ (k14 _ _ e n))
inductive xkC (CO CK:MV) (vs:NE) (H:Hp) (Q:VK) (Nf:XK):Prop
 |mk (p ck g:MV) (S G:Id) (b:Nat) (h0:vs=Bf) (h1:Bp H p g S b G) (h2:∀l,Ξ->xNP mv):xkC CO CK vs H Q Nf
def xa8:bS xt1:=Sc
def xeU (F:Aj "window" "Course.window" xt1)(Z:Pg):ya (xkC CO CK):=by
 have T:=Z.Y.Z.X.R.X;show AQ xa8 (λ M7 A outer st H vs Q E hr h=>?_);obtain⟨p,ck,g,S,G,b,rfl,⟨⟨dx,hp⟩,_,hg,_⟩,k⟩:=h;refine XC (x7r xMt);exact⟨_,rfl,p,CO,dx,_,_,rfl,hp,Z.cl,Z.nG,xhO _ _ _ _,g,_,rfl,AN hg,k⟩
inductive xkq (CO CK:MV) (vs:NE) (H:Hp) (Q:VK) (Nf:XK):Prop
 |mk (p ck g:MV) (S G:Id) (b:Nat) (h0:vs=Bf) (h1:Bp H p g S b G) (h2:∀l H',Ξ->Ι->AL=Au x3S->AS):xkq CO CK vs H Q Nf
def xaH:bS xtI:=Sc
def xov (F:Aj "tail" "Course.tail" xtI)(Z:Pg):zC 9 (xkq CO CK):=by
 show ZV To Z.tailof Va Z.Y.Z.value;have CT:=Z.Y.Z.T;show AQ xaH (λ M7 A outer st H vs Q E hr h=>?_);obtain⟨p,ck,g,S,G,b,rfl,⟨⟨dx,hp⟩,⟨dk,hk⟩,hg,hb⟩,k⟩:=h;have NA:Bv:=UF;show xBO (UC (xfH To Z) To Α (BN Α CT.cl Va (xlK Va.F CT))) ⟨_,rfl,p,CO,dx,_,_,rfl,hp,Z.cl,Z.nM,xL _ _ _ _,_,rfl,p,CO,dx,_,_,rfl,hp,Z.cl,Z.nC,xrp _ _ _ _,ck,dk,_,rfl,hk,xJj,ck,dk,16,_,rfl,hk,?_⟩;exact EE _ _ xOy k
def grp (b:Nat) (G T:Id):Id:=EK ((b+1)%4) 0 [] (G++T)
inductive spOGo (CO CK:MV) (vs:NE) (H:Hp) (Q:VK) (Nf:XK):Prop
 |mk (p ck g a:MV) (S G T:Id) (b:Nat) (h0:vs=we) (h1:Bp H p g S b G) (h2:XL=EX) (h3:(wm)) (h4:kM (G.length+T.length)) (h5:∀(g':MV) (H':Hp),xGR->Bp H' p g' (S++T) (b+1) (grp b G T)->Fu (∀c o,W1=IO->Γ->rY->AE=IO)):spOGo CO CK vs H Q Nf
def xbX:Uf xy5 xy5 xrr:=Sc
def xnI (F:Aj "go_on" "Course.go_on" xrr)(Z:Pg):AH 6 xy5 (spOGo CO CK):=by
 have T:=Z.Y.Z.X.R.X;obtain⟨X,CT,⟨_,_,W⟩,⟨_,_,R⟩,⟨_,_,N⟩,⟨_,_,Yw⟩,_,⟨_,_,Ad⟩,_⟩:=Z.Y.Z;show DG tg hgb Z.gb (F.ok xbX λ M7 A outer st H vs Q E hr h=>?_)
 intro _;obtain⟨p,ck,g,a,S,G,T',b,rfl,hC,ha,hT,hl,k⟩:=h;obtain⟨X8,ngp,ngk⟩:=hC.ne;obtain⟨⟨dx,hp⟩,⟨dk,hk⟩,hg,hb⟩:=hC;have nap:DO a:=xQ ha (by show Τ);have nak:a≠ck:=aF ha hk (by show Τ);refine u5 (zk Α) (xBw (V7 (E8 Α (xC8 PP))) (xN Α CT.cl Ad (xnL Ad.F N R W Yw CT X) hr m8) (xHK (Ww (ap xxB Α (DT 4 hgb tg))) xUh (V7 (pd Α PP))))
 have e1:eN+1=jm b:=Lv _;have e2:Ε S.length+zB (T'.map vN)=Ps xyK:=by show Ai (Tz [_,_] P3 P3 [_,_] P3 P3)
 show Ff ⟨_,rfl,p,CO,dx,_,_,rfl,hp,Z.cl,Z.nB,xrl _ _ _ _,_,_,rfl,rfl,_,rfl,p,CO,dx,_,rfl,hp,Z.cl,Z.nB,dY,A3⟩
 try dsimp only
 rw [e1,xiF];have NX:(rL H (xyw (b+1) ck g)) p=dE CO (xyw (b+1) ck g):=ad;show DR k1 (∀c o,W1=IO->Γ->(rL H (xyw (b+1) ck g)) c=IO) (λ c o e n=>by show Sa n) (rL H (xyw (b+1) ck g)) H1;show Ff ⟨_,rfl,p,CO,dx,_,_,rfl,NX,Z.cl,Z.nM,xL _ _ _ _,_,rfl,a,_,rfl,AN (k1 _ _ ha nap),_,_,rfl,rfl,_,rfl,p,CO,dx,_,rfl,NX,Z.cl,Z.nM,dY,A3⟩
 try dsimp only
 rw [e2,xiL];have NB:(rL H1 (xAu (b+1) xyK)) p=dE CO (xAu (b+1) xyK):=ad;show DR k2 (∀c o,W1=IO->Γ->(rL H1 (xAu (b+1) xyK)) c=IO) (λ c o e n=>by show XV n (xXJ n)) (rL H1 (xAu (b+1) xyK)) H2;clear k1 NX;refine D2
 have Uc:=xJK hk X8.symm;show DE ⟨_,rfl,p,CO,dx,_,_,rfl,NB,Z.cl,Z.nC,xrp _ _ _ _,ck,dk,_,rfl,Uc,xJj,_,rfl,ck,dk,a,16,45,_,T',rfl,xwZ,xOy,Uc,xJK ha nap,hT,λ H3 hk3 NJ=>A3⟩;rw [<-xaI] at hk3;have N1:=Cz NB X8;have k3:∀c o,W1=IO->Γ->rY->x3=IO:=λ c o e n m=>Cz (xJK e n) m
 clear NJ Uc NB k2;have hg3:=UR hg ngp ngk;have ha3:=UR ha nap nak;have hbb:Eg (S++T'):=λ x hx=>kb hx iY (hT x)
 have eL:Vg S T'=xyK:=FD;have hgH:∀l,WF (H3 l)->Ξ:=λ l nl=>by
  cases e:sV with
  |none=>rfl
  |some o=>
   by_cases n:l=p
   ·show D5 n N1 nl nl
   ·by_cases m:l=ck
    ·show D5 m hk3 nl nl
    ·show Μ (UR e n m) nl nl
 have fin:∀l L H4,WF (H3 l)->H4=rL (qO H3 gU) (fO (b+1) xyK ck l)->L=grp b G T'->xu7 H4:=λ l L H4 nl e4 eL'=>by
  subst e4 eL';have OV:DP:=EW N1;have nlk:ZZ ck:=EW hk3;refine sN (hgH l nl) ⟨ip (by rw [ad,eL]),⟨dk,by rw [ai X8.symm,ai nlk.symm];exact hk3⟩,by rw [ai OV,ad],hbb⟩ λ c o e n m=>?_
  rw [sM,Tt (UR e n m) nl];exact UR e n m
 have e4:jm b%4=Ps ((b+1)%4):=JG (x43 rfl);refine⟨_,rfl,p,CO,dx,_,_,rfl,N1,Z.cl,Z.nB,xrl _ _ _ _,_,_,rfl,rfl,(by show sf 4),?_⟩
 try dsimp only
 show Η e4 (VT rfl _ (qR h h))
 ·have h0:(b+1)%4=0:=by
   have:V.int (Ps ((b+1)%4))=xy6:=DQ;injection this with this
   exact Int.ofNat_eq_zero.mp this
  refine Bh (by show jy 0) l nl;have OE:(qO H3 []) p=_:=(Tt N1 nl).trans N1;show p9 ⟨_,rfl,p,CO,dx,_,rfl,OE,Z.cl,Z.nG,dY,?_⟩ xtB (fin l [] _ nl rfl (by show CS grp (F8 h0)))
 ·have h0:¬(b+1)%4=0:=Re (h (FM (by show Af z)))
  refine⟨_,rfl,p,CO,dx,_,_,rfl,N1,Z.cl,Z.nG,xhO _ _ _ _,_,rfl,g,a,_,_,rfl,rfl,hg3,ha3,bG (by rw [Fy,Fy];exact gQ hl),zR⟩;have OE:(qO H3 (mv++T'.map vN)) p=_:=(Tt N1 nl).trans N1;refine⟨_,rfl,p,CO,dx,_,rfl,OE,Z.cl,Z.nG,dY,?_⟩;rw [xtB,<-FV];exact fin l (G++T') _ nl rfl (by show CS grp (FY h0))
abbrev xtd:M5:=xFV 0
abbrev xrk:M5:=xFV 1
abbrev xtQ:M5:=xFV 2
abbrev xth:M5:=xFV 3
abbrev xtn:M5:=xFV 4
abbrev xt7:M5:=xFV 5
abbrev xpI:M5:=top 130
def xrc:¬(jt="waiting"):=Z8
def xrq:¬(jt="begun"):=Z8
def xrv:¬(x3g jt):=Z8
def xrx:¬(xDL="begun"):=Z8
def xrs:¬(x3g xDL):=Z8
def xrj:¬(x3g x0W):=Z8
def xv0 (co wt:MV) (bg fn:Bool):qw:=[("course",.ref co),("waiting",x1B),("begun",.bl bg),("finished",xUP)]
def xus (co wt)(bg fn):xRW fn (x3a bg (xSo wt (pj "course" co [])))=QL:=by
 show(xRW fn (x3a bg (xFf "waiting" jt co [Y9 "waiting" wt])))=_;rw [FY xrc];show(xRW fn (xFf "begun" jt co (xXw "begun" xDL wt [("begun",x3r)])))=_;rw [FY xrq,FY xrx];show(xFf "finished" jt co (xXw "finished" xDL wt (gs "begun" "finished" (x0W,x3r) [("finished",V.bl fn)])))=_;rw [FY xrv,FY xrs,FY xrj];rfl
def xeT (co wt)(bg fn):ZA QL "course"=TD co:=by
 rw [<-xus,ar,FY xrv,ar,FY xrq,ar,FY xrc,ar,AD]
def xdL (co wt)(bg fn):ZA QL "waiting"=TD wt:=by
 rw [<-xus,ar,FY xrs,ar,FY xrx,ar,AD]
def xeN (co wt)(bg fn):SL (ZA QL "begun") (.bl bg):=by
 rw [<-xus,ar,FY xrj,ar,AD]
def xeZ (co wt)(bg fn):SL (ZA QL "finished") xUP:=by rw [<-xus,ar,AD]
def dl (co wt)(bg fn){x:Str}(h1:nZ "finished")(h2:nZ "begun")(h3:nZ "waiting")(h4:nZ "course"):yS QL x:=by
 rw [<-xus,ar,gi,ar,rI,ar,FY h3,ar,FY h4];rfl
def xdW (co wt)(bg fn):xEu QL:=by show AP 4
def xut (co wt Pq)(bg fn):xSo Pq QL=xys Pq bg fn:=by
 show(xFf "waiting" jt co (Tp "waiting" "waiting" _ _))=_;rw [FY xrc,AD];rfl
def x0 (co wt)(bg fn bg'):x3a bg' QL=xys wt bg' fn:=by
 show(xFf "begun" jt co (xXw "begun" xDL wt (Tp "begun" "begun" _ _)))=_;rw [FY xrq,FY xrx,AD];rfl
def wT (co wt)(bg fn SF):xRW SF QL=xDt SF:=by
 show(xFf "finished" jt co (xXw "finished" xDL wt (gs "begun" "finished" (x0W,x3r) (Tp "finished" "finished" _ _))))=_;rw [FY xrv,FY xrs,FY xrj,AD];rfl
structure xxe (K:Frag)(mg:Β)(C:MV):Prop where
 cl:yZ
 nC:fj "course"
 nW:x8J
 nB:fj "begun"
 nF:x7Z
 m:mg "Presser"=xM
 mark:∃d,mg "MARK"=uZ/\∀H,Px d [zx,b9,zI]
inductive spUn (C:MV) (vs:NE) (H:Hp) (Q:VK) (Nf:XK):Prop
 |mk (p dx co wt:MV) (bg:Bool) (h0:vs=Bf) (h1:CI=aG (xDt false)) (h2:Yv):spUn C vs H Q Nf
def xcP:bS xrk:=Sc
def xiN (F:Aj "need_unfinished" "Presser.need_unfinished" xrk)(T:xxe K mg C):ya (spUn C):=by
 show AQ xcP (λ M7 A outer st H vs Q E hr h=>?_);show jx p dx co wt bg rfl hp k;refine lE (zF xET xsN);exact⟨_,rfl,p,C,dx,_,_,rfl,hp,T.cl,T.nF,xi,false,rfl,xIa⟩
def mk (bg:Bool):Id:=E1 bg [] [184,66,1]
inductive xk3 (C:MV) (vs:NE) (H:Hp) (Q:VK) (Nf:XK):Prop
 |mk (p dx co wt:MV) (bg fn:Bool) (h0:vs=Bf) (h1:CI=aG QL) (h2:∀l H',Ξ->Dk=aG (xEs fn)->AL=Au Rw->(∀c o,W1=IO->Γ->AE=IO)->AS):xk3 C vs H Q Nf
def xar:bS xtQ:=Sc
def xo6 (F:Aj "mark_once" "Presser.mark_once" xtQ)(T:xxe K mg C)(X:wq):ya (xk3 C):=by
 show Bq dM mM hM T.mark (F.ok xar λ M7 A outer st H vs Q E hr h=>?_)
 intro _;obtain⟨p,dx,co,wt,bg,fn,rfl,hp,k⟩:=h;show Wp (xBy xET d5 (tC VN (xS8 HA (Bx (xAK dM Z7 mM))))) ⟨_,rfl,p,C,dx,_,_,rfl,hp,T.cl,T.nB,dX,bg,rfl,?_⟩;cases bg with
 |true=>
  refine cy (Bh (by show jy 0) l nl);exact sN nl (by show Ez hp nl hp) ad λ c o e _=>xCU
 |false=>
  refine aV ⟨_,rfl,p,C,dx,_,rfl,hp,T.cl,T.nB,RH,?_⟩;rw [x0];have NX:(rG H (xEs fn)) p=aG (xEs fn):=ad;refine EE dM _ (.inr (hM _)) zR;have OV:p≠l:=ae NX nl;refine sN (by show uj OV.symm nl nl) (by show XV OV NX) ad λ c o e n=>?_
  rw [Tt (by show Sa n) nl,sM];exact e
def nb (A:Id):Nat:=A.length/64
def wn (A:Id) (i:Nat):Id:=(A.take (64*i)).drop (i/4*256)
structure PrAt (C CO CK:MV)(H:Hp)(p co ck:MV)(A:Id)(bg:Bool):Prop where
 ob:∃dx wt g,CI=aG (xDt false)/\H wt=Au (A.drop (64*d7))/\uc H g (A.take (64*d7)) d7 (wn A d7)
 byt:Eg A
def xvc (t:sZ)(kp:∀c o,W1=IO->(∀C dx fs,o≠ xPz)->(∀xs,o≠ xEq)->AE=IO):rP:=by
 show Bq ps h z t ⟨ps,B1 h (by intro _ _ _ z;cases z) (by intro _ z;cases z),z.imp id λ z9=>by obtain⟨c',oc,vs,t,e,hc,r⟩:=z9;exact⟨c',oc,vs,t,e,B1 hc (by intro _ _ _ z;cases z) (by intro _ z;cases z),r⟩⟩
structure Prz (K:Frag)(mg:Β)(B D G CW C0 C1 C2 C3 c CK Ny CO C:MV):Prop where
 xru:Bks K mg B D G CW C0 C1 C2 C3 c CK Ny
 Cr:Pg
 T:xxe K mg C
 bs:PL "BLOCK_SIGNS" 64
 putblock:∃f fd,xN4 "put_block" xpX Jaf f fd
 init:∃f fd,x6u xtd/\xF3/\yD
 un:BL "need_unfinished" "Presser.need_unfinished" xrk
 mark:BL "mark_once" "Presser.mark_once" xtQ
 next:∃f fd,qW C "next_block" "Presser.next_block" xth xZo
 feed:∃f fd,qW C "feed" "Presser.feed" xtn xy5
 finish:BL "finish" "Presser.finish" xt7
inductive xkK (C CO CK:MV) (vs:NE) (H:Hp) (Q:VK) (Nf:XK):Prop
 |mk (p dx:MV) (h0:vs=Bf) (h1:CI=xBf) (h2:∀(co ck:MV) (H':Hp),A1 co->xOS->xWm CO CK H' p co ck [] false->Fu (∀b o,E5=IO->yW->yC=IO)):xkK C CO CK vs H Q Nf
def xad:bS xtd:=Sc
def xhu (F:x6u xtd)(Z:xQm c CK Ny CO C):zC 6 (xkK C CO CK):=by
 have T:=Z.T;show Dd Z.Cr.init;show AQ xad (λ M7 A outer st H vs Q E hr h=>?_);show dD p dx hp k h;refine u5 (iW (xpt FI Z.Cr) hr Z7 Z.Cr.m bI a7) (xBw xUh VN VN)
 intro x dk nx Vw nek;have s0:=xB3 CO;have VY:p≠x:=sF nx;refine Dx x dk (λ ck g H1 VZ ng hC OY=>DY);have NX:=xq (j7 hp) VY;have k1:∀b o,E5=IO->xIF=IO:=λ b o e=>xq SH SP
 have TM:xOS:=EF VZ;clear OY s0;refine⟨_,rfl,p,C,dx,[],rfl,NX,T.cl,T.nC,(by show AP 0),?_⟩;have NB:(rG H1 lQ) p=aG lQ:=ad;show DR k2 (∀b o,xIF=IO->yW->(rG H1 lQ) b=IO) (λ b o e n=>by show Sa n) (rG H1 lQ) H2;refine Bh (by show jy 0) wt nwt;have s3:=zi nwt;have XN:Du H2 wt [] wt=az:=ad;have N1:=Cn NB;have ZE:DO wt:=DH NB nwt;show EI H2 wt [] H3 ⟨_,rfl,p,C,dx,_,rfl,N1,T.cl,T.nW,(by show qc),?_⟩;have ON:=cI "course" Cw [];have NH:=x8h x1B lQ;have Ou:=cI "begun" xR5 (xSo wt lQ);have ZK:B4 ([]:qw) 0:=rfl;show Wp ⟨_,rfl,p,C,dx,_,rfl,ad,T.cl,T.nB,(YY [_,_,_] 1 Dz (pO (Zr Ψ)) On ON (d8 NH ZK)),?_⟩ ⟨_,rfl,p,C,dx,_,rfl,ad,T.cl,T.nF,(YY [_,_,_,_] 1 (DX Dz) (pO (xBh (Zr Y2))) On ON (Bb NH Ou (Fz ZK))),?_⟩;rw [d9,d9,xus];show Zy X8 ngp ngk hC.ne TH xOX (Re (by show B0 hp TM TM))
 have hgp:xCm:=Re (by
  show xCx hC.gr NX)
 have k3:∀b o,xIF=IO->yW->(rG H3 (xYY x wt)) b=IO:=λ b o e n=>by show XV n (Cn (xJK e n))
 refine k x ck _ nx TM (vV ⟨dx,wt,g,ad,by show XV ZE XN,hC.keep λ c o e hc=>UR e ?_⟩ z hz (by simp at hz)) λ b o e n=>UR xXJ n
 show xOe hc
 ·exact VY.symm
 ·exact TH
 ·exact hgp
inductive xkB (Tb C CO CK:MV) (vs:NE) (H:Hp) (Q:VK) (Nf:XK):Prop
 |mk (p dx co wt ck g a:MV) (bg fn:Bool) (S G T:Id) (b:Nat) (h0:vs=we) (h1:CI=aG QL) (h2:uc H g S b G) (h3:XL=EX) (h4:TW T G) (h5:sZ) (h6:∀(l g':MV) (R:Id) (H':Hp),Ξ->xGR->PB G T R->AL=qz->uc H' g' (S++T) (b+1) (grp b G T)->(∀c o,EC Tb->W1=IO->xBc->rY->AE=IO)->rP->AS):xkB Tb C CO CK vs H Q Nf
def xkd:Uf (gK "signs" "block") xZo xth:=Sc
def xoT (F:Aj "next_block" "Presser.next_block" xth)(Z:xQm c CK Ny CO C)(hC:uA)(XY:qm)(hK:fU):AH 41 xZo (xkB Tb C CO CK):=by
 have T0:=Z.T;show xQR Pb Z.putblock FP Pb.F;show ZV Wi Z.Cr.win Go Z.Cr.go;show AQ xkd (λ M7 A outer st H vs Q E hr h=>?_);obtain⟨p,dx,co,wt,ck,g,a,bg,fn,S,G,T,b,rfl,hp,VD,ha,tw,hT,k⟩:=h;have NA:Bv:=UF;have hr6:ED 6:=UF;show yy (Fc 2 xkd.nd (BI (xeM FP Z.xru hC XY hK) hr Pb.m Pb.kp Pb.b (xH PP (BN Α Z.Cr.cl Wi (x3s Z.Cr)))) (xN Α Z.Cr.cl Go (xnI Go.F Z.Cr) hr6 m8) Ty) D2
 show DG Xl Qi VD.ob ⟨_,rfl,_,rfl,p,C,dx,_,_,rfl,hp,T0.cl,T0.nC,xg,co,Xl,_,rfl,Qi,dW,co,ck,g,S,G,b,rfl,VD,SC lw XG⟩;have s1:=Az mv XG;have hw1:Du H lw mv lw=Φ mv:=ad;show BE H lw mv H1 Oi xLC;show DE ⟨a,.ref lw,T,G,rfl,gO,.inr (lM lw hw1),tw,Oi,λ l R H2 nl pb hl sT Xj=>A3⟩;have k2:∀{e} {o},H e=IO->(∀ps,o≠ jg)->H2 e=IO:=λ h hn=>C5 (Oi.ne (Ec h) hn) (Ec h)
 have NB:=k2 hp (by intro ps z;cases z);have Uu:uc H2 g S b G:=by
  show De dk hk VD.ch ⟨⟨Xl,k2 Qi (by intro ps z;cases z)⟩,⟨dk,k2 hk (by intro ps z;cases z)⟩,k2 VD.gr (by intro ps z;cases z),VD.byt⟩
 have Su:=k2 ha (by intro ps z;cases z);have Sn:=tw.le;have Yd:=tw.wl;refine D2
 show DG dxo2 Rg Uu.ob ⟨_,rfl,p,C,dx,_,_,rfl,NB,T0.cl,T0.nC,xg,co,dxo2,_,rfl,Rg,dW,_,rfl,co,ck,g,a,S,G,T,b,rfl,Uu,Su,tw.tb,(YY [_,_] 1 LE (Y6 64 192) P3 Sn Yd),λ g' H3 ng' TK NJ=>A3⟩;clear g1;show S8 dk2 Uc Uu.ch hTb3 (xDs H3) (xvc Xj λ e o h hn _=>Cz h (aF h Rg (oj _ _)) (aF h Uc (oj _ _)))
 have Ou:=Cz hl (aF hl Rg (by show Τ)) (aF hl Uc (by show Τ));exact Υ (qb g' R H3 (vK nl) (vK (xps Xj sT ng')) pb Ou TK (λ c o n e n1 n2=>Cz (C5 n D4) n1 n2) hTb3)
def blk (F:Id) (i:Nat):Id:=(F.drop (64*i)).take 64
def Bl (F:Id)(i:Nat)(R:Id):Prop:=PB xQf xA8 R
def xwr (F:Id)(i):F.take (64*i)++xA8=F.take (64*(i+1)):=by
 unfold blk;rw [AI (64*(i+1)) (64*i+64) (Nat.mul_succ 64 _),MF]
def xtg (h:xWZ (64*i)):El xQf 192:=by
 unfold wn;rw [FU,FW];lia
def xoS {F:Id}(h:xWZ (64*(i+1))):grp i xQf xA8=wn F (i+1):=by
 unfold grp wn;by_cases z:(i+1)%4=0
 ·rw [F8 z,HB];show UK (qe [_,_,_,_] (Tv 64 (A9 (bD yr))) (Qv Cy (Qv yr (bD (WJ 4 Be)))) (xA9 256) (Es 64 z) (Fx DN (Es 64 (IM _ _).symm)))
 ·rw [FY z,<-xwr,Iv (by rw [FW];lia),AI ((i+1)/4) (i/4) (Nat.succ_div_of_mod_ne_zero z)]
def xof {F:Id}(h:xWZ (64*(i+1))):B4 xA8 64:=by
 unfold blk;rw [FW,FU];lia
def xnK {F:Id}(h:xWZ (64*(i+1)))(hb:Eg F):TW xA8 xQf:=
 ⟨λ x hx=>iY (G8 xE8),by show oN (xof h),by show oN (xof h),λ x hx=>iY (G9 xER),xtg (Nat.le_of_add_right_le h)⟩
inductive xnp (Tb C CO CK:MV) (vs:NE) (H:Hp) (Q:VK) (Nf:XK):Prop
 |mk (p a co ck:MV) (A:Id) (bg:Bool) (T:Id) (h0:vs=we) (h1:xWm CO CK H p co ck A bg) (h2:XL=EX) (h3:(wm)) (h4:kM (Vg A T)) (h5:sZ) (h6:tU l MV Rs CA Hp (Ξ->d7+Rs.length=nb (A++T)->(∀j R,yO Rs R->Bl (A++T) (d7+j) R)->AL=Au (xEE Rw)->xWm CO CK H' p co ck (A++T) true->(∀e o,Uw->H e=IO->DL->e≠co->xCI->H' e=IO)->rP->AS)):xnp Tb C CO CK vs H Q Nf
def xxU:Uf ["self","text","signs","told","begin"] xy5 xtn:=Sc
inductive xlc (CK:MV) (CO:MV) (C:MV) (Tb:MV) (H:Hp) (p:MV) (a:MV) (co:MV) (ck:MV) (bg:Bool) (dx:MV) (wt:MV) (l2:MV) (F':Id) (n0:Nat) (l3:MV) (m:Nat) (σ:St) (H4:Hp):Prop
 |mk (j:Nat) (Rs:CA) (g4:MV) (h0:m=Py-(n0+j)) (h1:σ=[Qg,Bm,TD l2,xOG,Χ (64*j)]) (h2:n0+j≤Py) (h3:xXr j) (h4:xY0 (69*j)) (h5:(∀i R,A7 Rs R->Bl F' (n0+i) R)) (h6:H4 l3=Au (xEE Rw)) (h7:H4 l2=Au (xTr n0)) (h8:H4 p=aG x0p) (h9:uc H4 g4 (F'.take (64*(n0+j))) (n0+j) (wn F' (n0+j))) (V5:(∀e o,Uw->H e=IO->DL->e≠co->xCI->H4 e=IO)) (Qy:xDs H4):xlc CK CO C Tb H p a co ck bg dx wt l2 F' n0 l3 m σ H4
def xa7 (F:Aj "feed" "Presser.feed" xtn)(Z:xQm c CK Ny CO C)(hC:uA)(XY:qm)(hK:fU):AH 42 xy5 (xnp Tb C CO CK):=by
 have T0:=Z.T;have X:=Z.Cr.Y.Z.X.R.X;show vO Un Z.un Mo Z.mark Nx Z.next;obtain⟨tb,hbs⟩:=Z.bs;show vO W Z.Cr.Y.Z.whole Ri Z.Cr.Y.Z.isrow Nr Z.Cr.Y.Z.needrow;show AQ xxU (λ M7 A outer st H vs Q E hr h=>?_);obtain⟨p,a,co,ck,A',bg,T,rfl,hP,ha,Pm,hlen,hT,k⟩:=h;have NA:Bv:=UF;have Ua:xIr:=UF;refine u9 (xBl Un (xiN Un.F T0) NA) (Cg 2 xxU.nd (pd Α (lJ (ok_needrow Nr Z.Cr.Y.Z.X.R) Ua Nr PP)) (Cg 3 xxU.nd (xBl Mo (xo6 Mo.F T0 X) NA) (oG 4 xxU.nd aj (zX (CZ xwT (xo (vJ Ty) Ν) (DT 64 hbs tb)) (sQ (xE3 IX Jt xwx π (xNi SZ Nx (xoT Nx.F Z hC XY hK) hr (Bx (gk Ty Ν (E8 Ν (DT 64 hbs tb)))))) (oW xxU.nd (E8 Ν (DT 64 hbs tb))))) (V7 (nr Ty Ν)) π)))
 obtain⟨⟨dx,wt,g,hp,hw,VD⟩,hA⟩:=id hP;show Ff ⟨_,rfl,p,dx,_,rfl,hp,wk,p,dx,co,wt,bg,rfl,hp,A3⟩;refine Z2 ⟨_,rfl,p,C,dx,_,_,rfl,hp,T0.cl,T0.nW,wj,_,rfl,a,T,rfl,ha,Pm,xNU⟩
 have s1:=Az pZ n1;have Qy:Du H l1 pZ l1=EX:=ad;show vo H l1 pZ H1;have hn64:64*jB≤A'.length:=by show wU nb (Gp _ 64)
 show DE ⟨wt,l1,_,_,rfl,rfl,xFK,Qy,bG (by rw [Fy,Fy,FU];show ρ FD hlen (B7 [_,_,_] DC LE (w6 Tm) P3 (.n 2000) hlen Qn)),BU l2 n2⟩;have e2:Ο (A'.drop (64*jB))++pZ=Ο (ku A' T (64*jB)):=by rw [<-FV,Iv hn64]
 rw [e2];have s2:=Ei (ku A' T (64*jB)) n2;have Uk:ao H1 l2 (ku A' T (64*jB)) l2=Au (ku A' T (64*jB)):=ad;have XF:=dn;show vo H1 l2 (Ο (ku A' T (64*jB))) H2;clear s1 s2 n1 n2 Qy;have NB:=XF _ _ hp;have Uu:uc H2 g ((oV).take (64*jB)) jB (wn oV jB):=by
  have e:(oV).take (64*jB)=A'.take (64*jB):=Hy hn64;have e':wn oV jB=wn A' jB:=by show CS wn e
  rw [e,e'];exact VD.keep λ c o z _=>XF _ _ z
 have hF:∀y∈oV,EB y:=λ y hy=>kb hy (hA y) (Pm y)
 have hnF:jB≤nb oV:=by show Rq nb FD (BF 64 [_,_,_,_] (xEh xTV) (CN xE0) Os xXy)
 have hFl:64*nb oV≤Vg A' T/\Vg A' T<64*nb oV+64:=by unfold nb;show A5 jI (Nat.lt_mul_div_succ _ Z9)
 show xuB oV F' jB n0;show Ff ⟨_,rfl,p,dx,_,rfl,NB,wk,p,dx,co,wt,bg,false,rfl,NB,λ l3 H3 n3 N1 Ou NJ=>A3⟩;show xAA;show CQ Xl Rg Uu.ob dk Xw Uu.ch;have npc:DO co:=Re (by show xzL z NB Rg Rg Rg;injection Rg with _ _ z;cases(x0n z))
 have X8:xOX:=Re (by show xzL z NB Xw Xw Xw;injection Xw with _ _ z;have:=yt z;cases this)
 have ngp:xCm:=aF Uu.gr NB (by show Τ);have nl2p:DO l2:=aF Uk NB (by show Τ);have nH3:A1 l3:=x01 n3;refine Z2 (AG (xlc CK CO C Tb H p a co ck bg dx wt l2 F' n0 l3) ⟨Py-n0,0,[],g,rfl,rfl,hnF,rfl,AM,λ i R e=>by simp at e,by show CR Ou,Cz Uk nl2p,N1,Uu.keep λ e o z hz=>Cz z (by show xQe hz npc X8;exact ngp),
   λ e o _ z n _ _=>Cz (XF _ _ z) n,xvc (hT.same XF) λ e o z hn _=>Cz z (Ve NB (oj _ _))⟩)
 rintro m σ H4 ⟨j,Rs,g4,rfl,rfl,hj,Ym,hR69,hRs,hl34,hl24,V1,Xx,fr4,hT4⟩;refine⟨_,rfl,l2,_,rfl,AN hl24,_,rfl,_,_,rfl,rfl,_,_,rfl,rfl,_,rfl,qR hc hc⟩
 ·clear g1;have hj1:64*(n0+j+1)≤F'.length:=by
   show zc xOu Fy FU;lia
  have hjb:n0+j+1≤Py:=Z5;refine xFN;have tw:=xnK (i:=n0+j) hj1 hF;have e64:Ps (64*j)+64=Ps (64*j+64):=(BJ xE1 xE1 xE1 xE1);refine kL g2 ⟨_,rfl,oI hl34,_,rfl,p,dx,_,rfl,V1,wk,_,rfl,_,rfl,_,rfl,_,rfl,_,_,rfl,rfl,_,rfl,l2,_,rfl,Ng.of hl24,SC ls nls⟩
  try dsimp only
  rw [e64,xp0 _ Z5 (by rw [Fy,FU];exact(Bu [_,_,_,_] (Qv (AJ xJ) Tm) (CN (Aw xMA)) xE1 Os hj1 Ω)),AI (64*j+64-64*j) 64 (xIc 64),<-IN,Ih,<-IP,show 64*n0+64*j=64*(n0+j) by exact EN [_,_] xUl xUo [_,_] xUo xUl];have s5:=Ei (xNN (n0+j)) nls;have hls:ao H4 ls (xNN (n0+j)) ls=Au (xNN (n0+j)):=ad;have e5:pC H4 ls ((xTr (n0+j)).take 64)=pC H4 ls (xNN (n0+j)):=rfl;rw [e5];clear e5;show BE H4 ls (Ο (xNN (n0+j))) H5 Yl (hT4.same s5);refine⟨p,dx,co,wt,ck,g4,ls,true,false,_,_,_,n0+j,rfl,AZ V1,Xx.keep λ e o z _=>AZ z,hls,tw,Yl,λ l6 g6 R H6 n6 ng6 pb ZJ hC6 Se hT6=>?_⟩;have hR:=xRv;have Xv:=AZ hl34;have hl25:=AZ hl24;have Ub:=AZ V1;show CQ dxo4 YN Xx.ob dk4 hck4 Xx.ch;have nlst:∀{e} {xs},H5 e=Ar->H6 e=Ar:=Re (BS (Yl.ne z (by intro ps y;cases y)) z (Ve (AZ YN) (by show Tc)) (Ve (AZ hck4) (by show Tc)))
  have Rc:=nlst Xv;have hl26:=nlst hl25;have Xf:=BS (Yl.ne Ub (by intro ps y;cases y)) Ub npc.symm X8.symm;show xI ⟨l3,l6,_,_,rfl,rfl,Rc,ZJ,bG (by
   have XS:El Rw 3:=by cases bg<;>decide
   rw [Fy,Fy,FD];exact Cm [_,_,_,_,_,_] (xIB (Aw (CD 2 (bD (AJ xEU)) qA))) (zD 2 1000 (CD 69 vI (xIB (Y6 69 3)))) xD6 2000 (bh hlen) (Bb hR69 (bh hj1) (Fx hR.2 XS))),Zw⟩;have n36:l3≠l6:=ae Xv n6;have nl23:l2≠l3:=by
   intro z;show D5 z Uk n3 n3
  have e66:Ps (64*j)+64=Ps (64*(j+1)):= sP;refine⟨_,rfl,_,_,rfl,rfl,Py-(n0+(j+1)),xSB hjb,j+1,Rs++[R],g6,rfl,?_,hjb,by show xL5,?_,Fw i R',?_,?_,?_,?_,λ e o n z n1 n2 n3'=>?_,?_⟩
  ·try dsimp only
   show Af e66
  ·rw [IR,FD,show [R].flatten=R by simp];show AY hR.2 (Fx hR69 hR.2)
  ·show CM i Rs.length h h
   ·show ρ (G7 h) e (hRs i R' e)
   ·rw [Gv h] at e;have hi0:i-Rs.length=0:=by
     rcases JW (i-Rs.length) with q|q
     ·exact q
     ·show kD (GZ (by show xL5))
    show kD hi0;have:i=j:=(FA (xC7 hi0) h).trans Ym;show LT this pb
  ·rw [ad,IR,<-FJ,FV (l₁:=xEE Rw)];simp
  ·show XV nl23 hl26
  ·show XV (xJl Xf (by show Τ)) Xf
  ·rw [show n0+(j+1)=n0+j+1 by exact EN [_,_] EA qH [_,_] qH EA,<-xwr,<-xoS hj1];refine hC6.keep λ e o z hz=>?_
   show iz hco6 hC6.ob hck6 hC6.ch;show XV (by
    show xOe hz
    ·exact xJl hco6 (by show Tc)
    ·exact xJl hck6 (by show Tc)
    ·exact DH Xv ng6) z
  ·show Ez z nH3 (BS n (AZ (fr4 _ _ n z n1 n2 n3')) n2 n3')
  ·exact xvc hT6 λ e o z _ hn=>by
    show XV (Ve Rc oj) z
 ·have hnb:n0+j=Py:=by
   have h1:¬(Ε 64≤yi (Ο (xTr n0))-Ps (64*j)):=Re (hc xAp)
   rw [Fy,FU] at h1;lia
  show DE A3;refine⟨_,rfl,_,rfl,_,rfl,l2,_,rfl,Ng.of hl24,SC lw XG⟩
  try dsimp only
  rw [dm,<-IN,Ih,show 64*n0+64*j=64*Py by exact uL (bM xUo zv xUl zv (Wu hj)) zv xUo zv xUl (Es 64 hnb.symm)];show CQ dxo4 YN Xx.ob dk4 hck4 Xx.ch;have s5:=Ei xF9 XG;have hco5:=AZ YN;have hlw:ao H4 lw xF9 lw=Au xF9:=ad;have Ub:=AZ V1;have Yl:=hT4.same s5;have hCo5:=Xx.keep (H':=pC H4 lw xF9) λ e o z _=>AZ z
  have Xv:=AZ hl34;have Sv:∀e o,Uw->H e=IO->DL->e≠co->xCI->ao H4 lw xF9 e=IO:=λ e o n z n1 n2 n3=>AZ (fr4 _ _ n z n1 n2 n3)
  show SN H4 lw xF9 H5 ⟨_,rfl,p,C,dx,_,rfl,Ub,T0.cl,T0.nW,RH,?_⟩;rw [xut];have OV:∀{e} {xs},H5 e=Ar->DL:=Re (Ve Ub (by show Tc))
  refine Υ (k l3 Rs _ nH3 (FA (B7 [_,_,_,_] qE Os Eo P3 Tm hj (Fz Ym)) (rS [_,_,_,_] 3 Tm (Aw qE) Tm P3 Ym.symm (Fz hnb.symm))) hRs (by show XV (OV Xv) Xv) ⟨⟨dx,lw,g4,ad,by show XV (OV hlw) hlw,?_⟩,hF⟩ (λ e o n z n1 n2 n3=>by show XV n1 (Bk n z n1 n2 n3)) (xvc Yl λ e o z hn _=>by show XV (Ve Ub (oj _ _)) z))
  ·show Bg hnb (hCo5.keep λ e o z hz=>by
    show XV (by show xQe hz npc X8;exact OV hCo5.gr) z)
def xxc (A R:Id):Prop:=(A.length%64=0/\R=[])\/(A.length%64≠0/\PB (wn A d7) (A.drop (64*d7)) R)
def xod (hb:Eg A)(h:A.length%64≠0):TW (A.drop (64*d7)) (wn A d7):=
 ⟨λ x hx=>iY xER,by rw [FU];show wU nb (by show Bg Lk (K4 h)),by rw [FU];show wU nb (by show Bg Lk (Gi tW)),λ x hx=>iY (G9 xER),xtg (by show wU nb (Gp _ 64))⟩
inductive spFin (Tb C CO CK:MV) (vs:NE) (H:Hp) (Q:VK) (Nf:XK):Prop
 |mk (p co ck:MV) (A:Id) (bg:Bool) (h0:vs=Bf) (h1:xWm CO CK H p co ck A bg) (h2:kM A.length) (h3:sZ) (h4:tU l MV R Id Hp (Ξ->xxc A R->AL=qh (Rw++R) (tailR A.length (jK A))->(∀e o,Uw->H e=IO->DL->e≠co->xCI->H' e=IO)->rP->AS)):spFin Tb C CO CK vs H Q Nf
def xnk:xuH (pF "told") xt7:=Sc
def xb3 (F:Aj "finish" "Presser.finish" xt7)(Z:xQm c CK Ny CO C)(hC:uA)(XY:qm)(hK:fU):zC 42 (spFin Tb C CO CK):=by
 have T0:=Z.T;have X:=Z.Cr.Y.Z.X.R.X;show jf Un Z.un Mo Z.mark Nx Z.next Ta Z.Cr.tail;show AQ xnk (λ M7 A outer st H vs Q E hr h=>?_);obtain⟨p,co,ck,A',bg,rfl,⟨⟨dx,wt,g,hp,hw,VD⟩,hA⟩,hlen,hT,k⟩:=h;have NA:Bv:=UF;have XO:ED 9:=UF;show xZ (u9 (xBl Un (xiN Un.F T0) NA) (ac VN
  (Fc 1 xnk.nd (xBl Mo (xo6 Mo.F T0 X) NA) (zF (tT cL Α aj) (xE3 IX Jt xwx PP (xNi SZ Nx (xoT Nx.F Z hC XY hK) hr xMt))) (pd PP (bw Α Z.Cr.cl Ta (xov Ta.F Z.Cr) XO))))) ⟨_,rfl,p,dx,_,rfl,hp,wk,p,dx,co,wt,bg,rfl,hp,A3⟩;show CQ Xl Qi VD.ob dk TH VD.ch;have npc:DO co:=Re (by show xzL z hp Qi Qi Qi;injection Qi with _ _ z;cases(x0n z))
 have X8:xOX:=Re (by show xzL z hp TH TH TH;injection TH with _ _ z;have:=yt z;cases this)
 have ngp:xCm:=xQ VD.gr (by show Τ);have ZE:DO wt:=xQ hw (by show Τ);show Ff ⟨_,rfl,p,C,dx,_,rfl,hp,T0.cl,T0.nF,RH,A3⟩;rw [wT];have NX:(xXi) p=aG (xDt true):=ad;have k1:∀e o,H e=IO->DL->(xXi) e=IO:=λ e o z n=>by show XV n z
 show DR no1 (∀e,WF ((xXi) e)->A1 e) (λ e z=>by
  by_cases n:e=p
  ·show D5 n NX z z
  ·show uj n z z) xXi H1;show Ff ⟨_,rfl,p,dx,_,rfl,NX,wk,p,dx,co,wt,bg,true,rfl,NX,λ l3 H3 n3 N1 Ou NJ=>A3⟩;have k3:∀e o,H e=IO->DL->H3 e=IO:=λ e o z n=>Cz (k1 _ _ z n) n
 have nH3:=no1 _ n3;have hCo3:uc H3 g (A'.take (64*jB)) jB (wn A' jB):=VD.keep λ e o z hz=>UR z (by show xQe hz npc X8;exact ngp)
 have XN:=UR hw ZE;have hT3:xDs H3:=xvc hT λ e o z hn _=>UR z (Ve hp (oj _ _))
 clear NJ k1 NX no1;refine D2
 have J:∀R S G b g5 H5,xxc A' R->S=A'->uc H5 g5 S b G->xEC 100->H5 l3=qh Rw R->H5 p=aG (xEs true)->(∀e o,Uw->H e=IO->DL->e≠co->xCI->H5 e=IO)->xDs H5->R1 [Qg,xOG] H5:=by
  intro R S G b g5 H5 hLB eS hC5 hR Yi Ub Sv Yl;subst eS;refine A3;show DG dxo5 hco5 hC5.ob ⟨_,rfl,_,rfl,p,C,dx,_,_,rfl,Ub,T0.cl,T0.nC,xg,co,dxo5,_,rfl,hco5,dW,co,ck,g5,_,G,b,rfl,hC5,λ lt H6 nt s56 M8=>?_⟩;refine⟨l3,lt,_,_,rfl,rfl,s56 _ _ Yi,M8,bG (by
   have XS:El Rw 3:=by cases bg<;>decide
   rw [Fy,Fy,FD];show ux (_+11);exact(ow [_,_] 1 LE (Y6 100 3) (lL 11) hR XS)),zR⟩
  have s67:=xBU (Ο (Rw++R)++Ο x3S);refine qb R _ ?_ hLB (by rw [ad,<-FV]) (λ e o n z n1 n2 n3=>s67 _ _ (s56 _ _ (Bk n z n1 n2 n3))) ((Yl.same s56).same s67);have n5:WF (H5 l):=xm s56;cases e:sV with
  |none=>rfl
  |some o=>
   exfalso;by_cases z1:l=p
   ·show D5 z1 Ub n5 n5
   ·by_cases z2:l=co
    ·show D5 z2 hco5 n5 n5
    ·by_cases z3:l=ck
     ·obtain⟨_,hk5⟩:=hC5.ch;show D5 z3 hk5 n5 n5
     ·by_cases z4:l=Tb
      ·obtain⟨ps,h,_⟩:=Yl;show D5 z4 h n5 n5
      ·show Μ (Bk z4 e z1 z2 z3) n5 n5
 clear g1;refine⟨_,rfl,p,C,dx,_,_,rfl,N1,T0.cl,T0.nW,wj,wt,_,rfl,AN XN,_,_,rfl,rfl,_,rfl,qR hc hc⟩
 ·have h0:A'.length%64≠0:=by
   show zc xOu Fy FU;unfold nb at this;omega
  show rF tw (xod hA h0) ⟨_,rfl,oI Ou,_,rfl,p,dx,_,rfl,N1,wk,_,rfl,p,C,dx,_,_,rfl,N1,T0.cl,T0.nW,wj,?_⟩ ⟨p,dx,co,wt,ck,g,wt,true,true,_,_,_,jB,rfl,N1,hCo3,XN,tw,hT3,λ l6 g6 R H6 n6 ng6 pb ZJ hC6 Se hT6=>?_⟩;have hR:=xRv.2;have hco3:=hCo3.ob;have hck3:=hCo3.ch;show iz hco3 hco3 hck3 hck3;have Rc:=BS (hT3.ne Ou (by intro ps y;cases y)) Ou (aF Ou hco3 (by show Tc)) (aF Ou hck3 (by show Tc));show rF Xf (BS (hT3.ne N1 (by intro ps y;cases y)) N1 npc.symm X8.symm) ⟨l3,l6,_,_,rfl,rfl,Rc,ZJ,bG (by
   have XS:El Rw 3:=by cases bg<;>decide
   rw [Fy,Fy];exact(ow [_,_] 1 LE (Y6 69 3) P3 hR XS)),?_⟩ (J R _ _ _ g6 _ (qG h0 pb) (Gf _ _) (hC6.keep λ e o z hz=>?_) (gQ hR) (by rw [ad,FV]) (by show XV (xJl Xf (by show Τ)) Xf) (λ e o n z n1 n2 n3'=>?_) (xvc hT6 λ e o z _ hn=>by show XV (Ve Rc oj) z))
  ·show iz hco6 hC6.ob hck6 hC6.ch;show XV (by
    show xOe hz
    ·exact xJl hco6 (by show Tc)
    ·exact xJl hck6 (by show Tc)
    ·exact DH Ou ng6) z
  ·show Ez z nH3 (BS n (UR z n1) n2 n3')
 ·have h0:A'.length%64=0:=by
   have h1:¬(Gl<zB (Ο (A'.drop (64*jB)))):=Re (hc xAp)
   rw [Fy,FU] at h1;unfold nb at h1;omega
  refine J [] _ _ _ g H3 (.inl (Ex h0)) (Gh (by show wU nb (rS [_,_,_] 2 LE (bV (xMR Tm)) LE U0 h0 (xV3 (IM _ _))))) hCo3 Z9 (by show LT GU Ou) N1 (λ e o _ z n _ _=>UR z n) hT3
def xw3 (T Z:Id):Prop:=∃(Rs:CA) (R:Id),xXr (nb T)/\(∀j R,yO Rs R->Bl T j R)/\xxc T R/\Z=xEE [184,66,1]++R++xQj
inductive xjB (Tb:MV) (vs:NE) (H:Hp) (Q:VK) (Nf:XK):Prop
 |mk (a:MV) (T:Id) (h0:vs=CV) (h1:XL=EX) (h2:(wm)) (h3:W5) (h4:sZ) (h5:tU l MV Y Id Hp (Ξ->xw3 T Y->AL=Φ sj->(∀e o,Uw->H e=IO->H' e=IO)->rP->AS)):xjB Tb vs H Q Nf
def xqu:Uf ["text","presser","bale"] xTD xpI:=Sc
theorem xlL (hb:Eg F):∀(Rs:CA) i,i+Rs.length≤nb F->(∀j R,yO Rs R->Bl F (i+j) R)->xY0 (69*Rs.length)
 | [],_,_,_=>AM
 |R::Rs,i,h,hR=>by
  rw [F2] at h;have h1:=xlL hb Rs (i+1) (bM EA Tm xzW Tm h) λ j R' e=>by
   have:=hR (j+1) R' (by show xGo);show LT (show i+1+j=i+(j+1) by exact EN [_,_] xzW EA [_,_] EA xzW) this
  have h0:Bl F i R:=hR 0 R rfl;have h2:=(h0.facts (xnK (by unfold nb at h;exact(Bu [_,_,_,_] (Qv xzS xMA) (Tv 64 Os) (bD On) Os (Wu h) jI)) hb)).2;rw [HJ,FD,F2];exact(Fp [_,_,_] 1 LE (CF (pN 69) 69) P3 (.m 69 yr) h1 h2)
def xxc.len (h:xxc A R)(hb:Eg A):xEC 69:=by
 rcases h with⟨_,rfl⟩|⟨h0,h⟩
 ·decide
 ·exact(h.facts (xod hb h0)).2
def xfD (F:Ζ "pressed" xpI xTD)(Z:xQm c CK Ny CO C)(hC:uA)(XY:qm)(hK:fU):AH 43 xTD (xjB Tb):=by
 have T0:=Z.T;show xV9;show ZV Fe Z.feed Fi Z.finish;show Al xqu (λ M7 A outer st H vs Q E hr h=>?_);show jx a T rfl ha hb hl hT k;have Ye:xIq:=UF;show yy (Cg 1 xqu.nd (iW (xhu FI Z) Ye Z7 T0.m bI a7) (Cg 2 xqu.nd (xNi PP Fe (xa7 Fe.F Z hC XY hK) hr Ew) (f9 (pd Ty (xQK PP Fi (xb3 Fi.F Z hC XY hK) hr))))) D2
 intro p dp np T4 Ya;have s0:=xJW C;show DE (Dx p dp (λ co ck H1 nco VZ hP OY=>xOQ));have s1:mE:=λ e o z=>xq (j7 z) (ae z np)
 have ncoH:=EF nco;have TM:=EF VZ;clear OY s0;refine D2
 obtain⟨⟨PN,wt1,gg1,NX,_,_⟩,_⟩:=id hP;show DE ⟨_,rfl,p,PN,_,rfl,NX,wk,_,rfl,p,a,co,ck,[],false,T,rfl,hP,gO,hb,hl,xLC,λ l Rs H2 nl Ym hRs NH hP2 fr2 Xj=>A3⟩;obtain⟨⟨TL,wt2,gg2,NB,_,_⟩,_⟩:=id hP2;have hRl':xXr (nb T):=by
  have:nb ([]:Id)=0:=rfl;rw [this,HG] at Ym;exact Ym
 have hRs':∀j R,yO Rs R->Bl T j R:=λ j R e=>by
  show zh (hRs j R e) (AI (nb ([]:Id)+j) j (HG j))
 refine⟨_,rfl,_,rfl,p,TL,_,rfl,NB,wk,p,co,ck,T,true,rfl,hP2,hl,Xj,λ l5 R H5 nl5 hLB Yi Sv Yl=>?_⟩;have OV:∀{e} {xs},H2 e=Ar->DL/\e≠co/\xCI/\Uw:=Re (by
  obtain⟨⟨_,_,_,h,_,VD⟩,_⟩:=hP2;show iz Qi VD.ob TH VD.ch;exact⟨Ve h (by show Tc),Ve Qi (by show Tc),Ve TH (by show Tc),Xj.ne z (by intro ps y;cases y)⟩)
 obtain⟨m1,m2,m3,m4⟩:=OV NH;have hl25:=Bk m4 NH m1 m2 m3;have hfl:=xlL hb Rs 0 (yI LE xAd (Fz hRl')) λ j R e=>by show LT HG (hRs' j R e)
 have V':=hLB.len hb;have hnb:nb T≤15:=by show wU nb (BF 64 [_,_] (Aw xyI) xMx (.n 15) (ZY hl))
 have ht11:B4 xQj 11:=rfl;refine⟨l,l5,_,_,rfl,rfl,hl25,Yi,bG (by
  rw [Fy,Fy,FD,FD,FD,ht11];show ux (3+_+(0+_+11));exact Cm [_,_,_,_] (VM 69 (A9 (Aw (RA 69)))) (Tv 69 (VM 69 (Br 69 (.m 69 (.n 15))))) (.a xEe (CF (Zz 0) 11)) 2000 (Es 69 hRl') (Bb hfl V' (FE 69 hnb))),SC l6 n6⟩
 have s6:=Az (Ο (xEE (mk false))++Ο (mk true++R++xQj)) n6;have frA:∀e o,Uw->H e=IO->H5 e=IO:=λ e o n z=>by
  have n1:DL:=ae z np;have n2:e≠co:=ae z ncoH;have n3:xCI:=ae z TM;exact Bk n (fr2 _ _ n (Ec z) n1 n2 n3) n1 n2 n3
 refine k l6 _ _ (xps Yl frA n6) ⟨Rs,R,hRl',hRs',hLB,rfl⟩ ?_ (λ e o n z=>tx (frA _ _ n z)) (Yl.same s6);rw [ad,<-FV];show some (HO.lst (Ο (xEE [184,66,1]++([]++R++xQj))))=_;rw [Hl,<-FJ]
universe K25.Ck
namespace HT
open PySem PySem.Spec PyProof.Rows
def xdj {lo hi:dI}{Q:AB}(ht:xVW t)(hs:xQJ vl vu .none)(pl:xST lo)(pu:xSU hi)
  (hw:jq=0/\qq=items.size) (h:Q wG s):qk (x3b wG):=by
 show aE os hos VA hds hs;have hTs:s.TypeIs xRk "slice":=⟨os,hos,VA⟩;unfold getItem
 try with_reducible refine xWS
 first|show AR vD|skip
 show lG (x4I Z9 ?_) (IF (name:=x4N) ht.typeIs HS
  (x77 HS ht.typeIs ?_ (x5c _)))
 show QD (x4B>>=_);show lG (x59 ?_) (x6a ?_);show xBI Z9 (xmq hs pl pu ?_);have hyes:SB (xO7==0&&E7==1&&xSN (qq-jq)):=by
  rw [hw.1,hw.2];simp
 show gc (xO7==0&&E7==1&&xSN (qq-jq)) _ _;show xBI hyes ?_;show Ej Builtin.Tuple.tupleIsExact (wpAny_typeOf ht.typeIs vD);show xBI (by rfl) (J8 ?_)
 first|exact xNV|exact F3 (Υ h)
universe HT
namespace L2
open PySem PySem.Spec PyProof.Rows QQ
def xcO (K:Frag):V->dI->xPG:=λ x lo hi H Q=>∃a xs,x=ω/\xBY a/\Oy=0/\xyJ xMJ/\Q ω H
def xbh:xAZ (xcO X.K):=by
 intro M6 s σ H x v vl vu lo hi sl Q I rx hs pl pu h;show dS a xs rfl hx h1 h2 q;cases rx;show k6 r ht hz hx;have hlen:x5x:=by show LT F1 r.length.symm
 refine⟨"tuple",_,HS.lookup,ht.typeIs,?_⟩;exact HT.xdj ht hs pl pu (by show LT hlen ⟨h1,h2⟩) (Vj ω H I q)
def xiQ (K:Frag):R2:=λ x y H Q=>∃(p q:MV) (ns ms:wd),x=Bw/\y=Y5/\Px p U7/\Px q xYT/\ns.length=ms.length/\xv (! Dy ns ms)
def xik {X:Cx}(hu:xPv):xEB (xiQ X.K):=by
 intro M6 s σ H x y v u Q I rx ry h;obtain⟨p,q,ns,ms,rfl,rfl,ha,hb,hl,k⟩:=h;show vS rx ry;show k6 rv pl hz ha;obtain⟨N2,Vk,Vv,Sm⟩:=I.tuple hb;show AO l1;have l2:=Vk.length;rw [Fy] at l1 l2;refine L8 (e:=xF j (ns[j]?=ms[j]?)) (xuD p its.toArray pl) (xuD q N2.toArray Vv) (by exact(yI xUi On hu)) (τ j h1 h2) _ _ _ _ ?_
 ·have j1:xMi j:=by show vW h1 (rS [_,_,_] 2 On Θ On Os l1.symm h1)
  have j2:j<ms.length:=by exact(rS [_,_,_] 2 On Θ On Os hl j1)
  show pB u1 e1 r1 (xHP j (V.int ns[j]) (by simp [j1])) u2 e2 r2 (x1Z j (x:=V.int ms[j]) (by simp [j2]));have g1:xSE j=u1:=by
   show xFZ z e1 z
  have g2:xS9 j=u2:=by
   show xFZ z e2 z
  rw [g1,g2];have e:=xtP (A:=X.A.in1) (s:=s) r1 r2 rfl rfl;have ee:eqV (V.int ns[j]) (V.int ms[j])=Dy ns[j]? ms[j]?:=by
   rw [FL j1,FL j2];show(ns[j]==ms[j])=_;show CR KB
  show ρ ee e e
 ·refine BO (.bl _) I ?_ k;show xuT=xuT;congr 1;congr 1;rw [F1,F1,<-l1,<-l2,<-hl,Nat.min_self,KB];simp only [Kn,MM,Kr,decide_eq_true_eq,beq_self_eq_true,and_true];refine⟨Re (Ix (o6 j)),λ z j _=>by rw [z]⟩;show CM j ns.length q q
  ·exact z j q
  ·rw [GZ q,GZ (by exact(qe [_,_,_] Dz DC Os U3 q))]
universe L2
namespace K25.Ck
open PySem L2 QQ W17 W16 BP
seal PE PA PS PSs PT PW PG PI
abbrev xtY:M5:=Zf 38 3
abbrev xte:M5:=xNO 3
abbrev xq7:M5:=top 120
abbrev xpZ:M5:=top 121
abbrev xtp:M5:=top 122
abbrev xs6:M5:=top 123
structure Prt (K:Frag)(mg:Β)(C Ny CO:MV):Prop where
 H:xPM C Ny
 R:xqa K mg C CO
 tuple:x00
 mark:∃d,mg "MARK"=uZ/\∀H,Px d [zx,b9,zI]
 signs:PL "BLOCK_SIGNS" 64
 tbytes:PL "TAIL_BYTES" 11
 headof:xIw "head_of" xwj
 bsize:Δ "block_size" xx2 xzH
 nmark:Δ "need_mark" xq7 xTE
 nexth:Δ "next_head" xpZ xSI
 partat:Δ "part_at" xtp xRV
 nlast:Δ "need_last" xs6 xAJ
 ctwin:BL "twin" "Check.twin" xtY
 otwin:oh CO "twin" "Course.twin" xte
abbrev mk3:Id:=[184,66,1]
inductive xja (vs:NE) (H:Hp) (Q:VK) (Nf:XK):Prop
 |mk (a:MV) (B:Id) (h0:vs=CV) (h1:XL=vv) (h2:xDm=mk3.take B.length) (h3:xBt):xja vs H Q Nf
def xjU:Uf ["bale","begin"] xTE xq7:=Sc
def xeI (F:Ζ "need_mark" xq7 xTE)(Z:xCA C):fV xTE xja:=by
 have X:=Z.H.N.X;show Bq d hm hd Z.mark (F.F.ok xjU λ M7 A outer st H vs Q E hr h=>?_)
 intro _;show Zj a B ha hB k;show xCZ;show yy (pX 1 xjU.nd (xvu xmm Z7 Z.tuple K5 (Bx (xBi SZ bU (vJ (xMT VO Z7 hm))))) (QF (xik hu) PP (xsL (SlR.or xbz xbh) (xMT VO Z7 hm) bU (xxE (vJ PP))))) (o9 ⟨_,rfl,d,_,rfl,x2q H,_,rfl,a,_,rfl,Ng.of ha,zR⟩)
 have ec:xAN vM (yi ([zx,b9,zI]:NE))=xM4:=by rw [Sd (zB ([zx,b9,zI]:NE)) (Ps 3),xvl,IP]
 rw [ec];have s1:=Ei xDm nl;show Z1 (VT l _ (.inl (vV OM t nt Aa))) g;have s2:=OD xM4;have ht:Fm ((dt (pC H l xDm) t xM4) t) xM4:=ad;show hJ Pj dn (dt (pC H l xDm) t xM4) H2;show SX n hn eB n (n<4/\xDm=mk3.take n) ⟨min B.length 3,by lia,by show LT hB (List.take_eq_take_iff.2 (by show min _ 3=min (min _ 3) 3;lia))⟩;rw [eB] at ht;refine⟨_,rfl,_,rfl,t,_,rfl,.inr x9,_,rfl,?_⟩;have fin:∀q H3 (R:VK),dz H3->ND K H3 q (Ο (mk3.take n))->R xR5 H3->xiQ K wG Y5 H3 R:=λ q H3 R s3 hq r=>by
  have ht3:=Cn ht;rw [gL] at ht3 hq;show p9 ⟨t,q,_,_,rfl,rfl,ND.of ht3,hq,rfl,?_⟩ QN r
 match n,hn with
 |0,_=>show BB ⟨d,_,rfl,xOb,(by rintro⟨_,z⟩;show AX z (by decide)),λ q nq=>fin q _ _ xR0 jh x2T⟩
 |1,_=>show BB ⟨d,_,rfl,xOb,(by rintro⟨_,z⟩;show AX z (by decide)),λ q nq=>fin q _ _ xR0 jh x2T⟩
 |2,_=>show BB ⟨d,_,rfl,xOb,(by rintro⟨_,z⟩;show AX z (by decide)),λ q nq=>fin q _ _ xR0 jh x2T⟩
 |3,_=>show CU (Qc d _ rfl xOb rfl (fin d H2 _ x0d xOb (Υ (aV (iE Pj)))))
inductive xjc (Ny:MV) (vs:NE) (H:Hp) (Q:VK) (Nf:XK):Prop
 |mk (x:MV) (a b m:Nat) (h0:vs=[Cw,D1]) (h1:BM=Au tQ) (h2:EB a) (h3:xPh) (h4:b=0->a=0) (hm:bO->m%64=0) (h5:b=0->xBt) (h6:bO->∀p dx H',Ι->Dk=dE Ny (xwu (a/64) (a%64+1) b)->Fj Bw):xjc Ny vs H Q Nf
def xjV:Uf ["row","many_signs","head"] xSI xpZ:=Sc
def xfu (F:Ζ "next_head" xpZ xSI)(Z:xCA C):sD xSI (xjc Ny):=by
 obtain⟨_,_,O⟩:=Z.headof;show xV t64 NM Z.signs xjV (λ M7 A outer st H vs Q E hr h=>?_) _;obtain⟨x,a,b,m,rfl,hx,ha,hb,Vq,hm,k0,k1⟩:=h;show yy (Fc 2 xjV.nd (g9 (xmK O Z.H) O SZ) (xuF (xEz (CZ xaA Ty cz) (CZ xvR (ap xxB PP (DT 64 NM t64)) aj))) Ty) ⟨_,rfl,x,a,b,rfl,hx,ha,hb,Vq,τ z H1 s1,λ z p dx H1 np s1 hp=>?_⟩
 ·exact qQ (aV (xFI (k0 z _ s1)))
 ·have e:uf%64=0:=Int.ofNat_inj.2 (hm z);refine qQ (cy ⟨_,rfl,_,_,rfl,rfl,(by show sf 64),rfl,_,rfl,?_⟩)
  try dsimp only
  show vU (xFI (k1 z p dx _ s1 hp))
inductive xlf (vs:NE) (H:Hp) (Q:VK) (Nf:XK):Prop
 |mk (x:MV) (B r y z:Id) (p m a b:Nat) (h0:vs=[Cw,xIj,D1]) (h1:BM=vv) (hp:yz p) (hB:B.drop p++y=tQ++(r++z)) (h2:EB a) (h3:xPh) (h4:b=0->a=0) (hm:bO->m%64=0) (hl:r.length=EK b 0 8 (b+2)) (h5:aC p<xBk->xBt) (h6:xBk≤aC p->∀t v H',Ι->kz t [v,vN (p+(xBk))]->((b=0/\qj v)\/(bO/\∃h,v=xNM))->xOT):xlf vs H Q Nf
def xsW:Uf ["bale","place","many_signs","head_end","head","end"] xRV xtp:=Sc
def xfF (F:Ζ "part_at" xtp xRV)(Z:xCA C):AH 34 xRV xlf:=by
 have X:=Z.H.N.X;show ZV Nh Z.nexth Bs Z.bsize;show CQ t3 h3 Z.H.three t11 Qy Z.tbytes;show Al xsW (λ M7 A outer st H vs Q E hr h=>?_);obtain⟨x,B,r,y,z,p,m,a,b,rfl,hx,hpB,hB,ha,hb,Vq,hm,hl,kN,k⟩:=h;have NA:Bv:=UF;refine Ep (vP 3 xsW.nd (xFL xJE) (xDQ (tT dZ SZ π) cz) (Zq 4 xsW.nd (UC (xfu Nh Z) Nh (gk SZ PP π) Ty) 5 xsW.nd (xFL (xvo (o7 xuy cz) (DT 11 Qy t11) (mJ (xpf Bs Z.H) Bs Ν))) (xDQ (tT dZ SZ C8) cz) (Y4 Ν C8)))
 have e3:xIT+3=i9 3:=rfl;refine vc
 try dsimp only
 show Η e3 (o9 ⟨_,rfl,x,_,rfl,AN hx,_,rfl,_,_,rfl,rfl,_,rfl,xAM (λ h=>Aa)⟩)
 ·have h:=DQ;show ρ Fy h (kN (by lia) _ xzb)
 clear g;have h3':yz (p+3):=by
  show CM B.length (p+3) q q
  ·show Wv (by rw [Fy];lia) h
  ·exact q
 clear h;have ec:ky vM (gh p) (i9 3)=Ο tQ:=by
  rw [xp0 _ rQ (by show Ai h3'),HZ,<-IN,<-IP];show SK (xQI 3 hB) (Hy (by rw [FU];lia));show Af this
 refine⟨_,rfl,_,rfl,_,rfl,_,rfl,_,rfl,x,_,rfl,Ng.of hx,zR⟩
 try dsimp only
 rw [ec];have s1:=Ei tQ nl;have lt:SB (vB (yi vM) xXB)->aC p<xBk:=λ h=>by
  show Ay h DQ Fy h;lia
 have ge:¬(SB (vB (yi vM) xXB))->xBk≤aC p:=λ h=>by
  show CM B.length (p+(xBk)) q q
  ·show Wv (by rw [Fy];lia) h
  ·lia
 refine⟨_,rfl,l,a,b,m,rfl,ad,ha,hb,Vq,hm,τ z H2 s2,λ z ph dx H2 s2 hph=>?_⟩
 ·have hE:xIT+11=xXB:=by rw [hl,F8 z];rfl
  have hv:(b=0/\qj V.non)\/(bO/\∃h,V.non=xNM):=.inl (Ex z);refine ZW _ rfl _ rfl (cy (ue _ _ ?_))
  try dsimp only
  show Η hE ⟨_,rfl,x,_,rfl,AN (xVX hx),_,rfl,_,_,rfl,rfl,_,rfl,aT (λ h=>kN (lt h) _ dn) (λ h=>wY _ _ (by show b8) (λ t nt=>k (ge h) t _ _ (xEr xVK) ad hv))⟩
 ·have hE:xIT+Ps (b+5)=xXB:=by rw [hl,FY (JB z)];rfl
  have hv:(b=0/\qj (V.ref ph))\/(bO/\∃h,V.ref ph=xNM):=.inr (kq z ph);refine ZW _ rfl _ rfl (aV ⟨_,rfl,ph,dx,_,_,b,rfl,hph,_,_,rfl,rfl,?_⟩)
  try dsimp only
  show Η hE ⟨_,rfl,x,_,rfl,AN (xVX hx),_,rfl,_,_,rfl,rfl,_,rfl,aT (λ h=>kN (lt h) _ dn) (λ h=>wY _ _ (by show b8) (λ t nt=>k (ge h) t _ _ (xEr xVK) ad hv))⟩
inductive xjZ (vs:NE) (H:Hp) (Q:VK) (Nf:XK):Prop
 |mk (a:MV) (h0:vs=[ω,mq]) (h1:XL=az) (h2:Yv):xjZ vs H Q Nf
def xmO:Uf xAJ xAJ xs6:=Sc
def rc (F:Ζ "need_last" xs6 xAJ)(Z:xCA C):fV xAJ xjZ:=by
 have X:=Z.H.N.X;show Al xmO (λ M7 A outer st H vs Q E hr h=>?_);show Qb a rfl ha k;refine lE (QF cL (vJ SZ) PP);exact⟨_,rfl,a,_,rfl,AN ha,_,rfl,_,_,rfl,rfl,_,rfl,xIa⟩
inductive xkj (C:MV) (vs:NE) (H:Hp) (Q:VK) (Nf:XK):Prop
 |mk (p dx:MV) (s:Nat) (h0:vs=Bf) (h1:CI=VQ 16 s) (h2:∀x dk H',A1 x->Ι->H' x=Tu C dk (fC 16 s)->Fj Cw):xkj C vs H Q Nf
def xka:xuH xZq xtY:=Sc
def xgU (F:Aj "twin" "Check.twin" xtY)(Z:Chk K mg C):zC 4 (xkj C):=by
 obtain⟨X,T,⟨_,_,W⟩,_,_,_,⟨_,_,_,FI,bI,M⟩,_⟩:=Z;show AQ xka (λ M7 A outer st H vs Q E hr h=>?_);show iP p dx s rfl hp k;show yy (Fc 1 xka.nd (xvi M (x0b W T X) hr Z7 T.m bI .nil a7 xMt) xNf PP) ⟨_,rfl,p,C,dx,_,_,rfl,hp,T.cl,T.nW,xlI _ _,λ x dk nx Vw nek=>?_⟩;have s0:=xB3 C;refine Fb x dk 16 45 xwZ ad (λ H1 hx kp=>DY);have s1:mE:=λ b o e=>kp b o xu SP
 show p9 ⟨_,rfl,p,C,dx,_,_,rfl,zd,T.cl,T.nS,xpP _ _,_,rfl,x,C,dk,_,rfl,hx,T.cl,T.nS,xnF _ _,?_⟩ xnJ (Υ (k x dk _ nx (λ c o e=>by show pQ nx D4) ad))
def xcK (b m)(ck ck' g):xXU ck' mK=fO b m ck' g:=by
 show(xEM "signs_check" (jO,fb) (xSy "signs_check" (xDr,D1) (Tp "signs_check" "signs_check" _ _)))=_;rw [FY xro,FY xrb,AD];rfl
inductive xkr (CO CK:MV) (vs:NE) (H:Hp) (Q:VK) (Nf:XK):Prop
 |mk (p ck g:MV) (S G:Id) (b:Nat) (h0:vs=Bf) (h1:Bp H p g S b G) (h2:∀p' ck' g' H',A1 p'->A1 ck'->xGR->xX1 H' p' ck' g' S b G->Ι->x2x p'):xkr CO CK vs H Q Nf
def xkc:xuH xZq xte:=Sc
def xgR (F:Aj "twin" "Course.twin" xte)(Z:xCA CK):zC 6 (xkr CO CK):=by
 have R:=Z.R;have CT:=R.Y.Z.T;show Dd R.init;show ZV Tw Z.ctwin Wi R.win;show AQ xkc (λ M7 A outer st H vs Q E hr h=>?_);obtain⟨p,ck,g,S,G,b,rfl,hC,k⟩:=h;have Ua:xIr:=UF;have NA:Bv:=UF;refine Ep (vP 1 xkc.nd (iW (xpt FI R) hr Z7 R.m bI a7) xNf (ac xNf
  (ac (xNe (bw Α CT.cl Tw (xgU Tw.F R.Y.Z) Ua))
  (tC (xNe (BN SZ R.cl Wi (x3s R))) PP))))
 intro x dk nx Vw nek;have s0:=xB3 CO;refine Dx x dk (λ ck1 g1 H1 VZ ng Yq OY=>DY);have s1:mE:=λ b o e=>OY b o xu SP
 show CQ dx hp hC.ob dck TH hC.ch;obtain⟨PN,T7⟩:=Yq.ob;clear s0 OY Vw nek;have VY:p≠x:=sF nx;have NX:=zd;show rE ⟨_,rfl,p,CO,dx,_,_,rfl,NX,R.cl,R.nB,xrl _ _ _ _,_,rfl,x,CO,PN,_,rfl,T7,R.cl,R.nB,dY,?_⟩ xiF ⟨_,rfl,p,CO,dx,_,_,rfl,Tq VY NX,R.cl,R.nM,xL _ _ _ _,_,rfl,x,CO,PN,_,rfl,ad,R.cl,R.nM,dY,?_⟩;rw [xiL,d9];have s2:ZC (qV H1 x CO xTH):=λ c o e=>by show pQ nx D4
 show DR hx2 ((qV H1 x CO xTH) x=Tu CO PN xTH) ad (qV H1 x CO xTH) H2;refine⟨_,rfl,p,CO,dx,_,_,rfl,C7 hp,R.cl,R.nC,xrp _ _ _ _,ck,dck,_,rfl,C7 TH,xJj,ck,dck,_,rfl,C7 TH,λ c dc H3 nc s3 hc=>?_⟩;have ncx:EC x:=DH hx2 nc;refine⟨_,rfl,x,CO,PN,_,rfl,Cn hx2,R.cl,R.nC,dY,?_⟩;rw [xcK];have s4:ZC (qV H3 x CO xNx):=λ c o e=>by show pQ nx xVh
 have hx4:(qV H3 x CO xNx) x=Tu CO PN xNx:=ad;show DR hc4 ((qV H3 x CO xNx) c=Tu CK dc (fC 16 (jK S))) (Tq ncx hc) (qV H3 x CO xNx) H4;have hC4:Bp H4 p g S b G:=iZ c o e gj
 refine⟨_,rfl,p,dx,_,rfl,ES hp,dW,p,ck,g,S,G,b,rfl,hC4,zR⟩;have s5:=xBU mv;have Yi:(qO H4 mv) l=Φ mv:=ad;have nlx:ZZ x:=EW hx4;show EI H4 l mv H5 ⟨_,rfl,x,CO,PN,_,rfl,AZ hx4,R.cl,R.nG,dY,?_⟩;show LT xtB (Υ (k x c l _ nx (none_of s2 nc) (xm s4) ⟨⟨PN,ad⟩,⟨dc,Tq ncx (AZ hc4)⟩,Tq nlx Yi,hC.byt⟩ λ c o e=>by show pQ nx (AZ gj)))
abbrev xp3:M5:=xAt 0
abbrev xty:M5:=xAt 1
abbrev xud:M5:=xAt 2
abbrev o0:M5:=xAt 3
abbrev xpo:M5:=xAt 4
abbrev xrY:M5:=xAt 5
abbrev xr6:M5:=xAt 6
structure CRe (K:Frag)(mg:Β)(C:MV):Prop where
 cl:yZ
 nC:fj "course"
 nW:x8J
 nB:fj "begun"
 nF:x7Z
 m:mg "Reading"=xM
structure xsU (K:Frag)(mg:Β)(B D G' CW C0 C1 C2 C3 CK Ny CO C G Ce:MV):Prop where
 pr:xCA CK
 bk:Tbk K mg CK Ny C G C0 C1 C2 C3
 wl:xCV G'
 tt:xHt
 take:∃f fd,xN4 "take_block" xpz x10 f fd
 init:∃f fd,x6v xp3/\xF3/\xNj Ce
 twin:oh Ce "twin" "Reading.twin" xty
 mark:oh Ce "read_mark" "Reading.read_mark" xud
 tail:∃f fd,qW Ce "read_tail" "Reading.read_tail" o0 xRP
 block:∃f fd,qW Ce "read_block" "Reading.read_block" xpo xZp
 parts:oh Ce "read_parts" "Reading.read_parts" xrY
 thru:∃f fd,qW Ce "go_through" "Reading.go_through" xr6 Jah
structure xxX (Ce CO CK:MV)(H:Hp)(p co ck g wt:MV)(S:Id)(b:Nat)(G W:Id)(bg fn:Bool):Prop where
 ob:∃dx,CI=dE Ce QL
 cr:uc H g S b G
 ws:H wt=mD
def xxX.ne (h:xWQ W bg fn):DO co/\xOX/\xCm/\DO wt/\wt≠co/\wt≠ck:=by
 show yj dx hp hw h;show iz Qi hC.ob TH hC.ch;refine⟨xw,xw,xQ hC.gr (by show Τ),xQ hw (by show Τ),aF hw Qi (by show Τ),aF hw TH (by show Τ)⟩
 ·show xzL z hp Qi Qi Qi;injection Qi with _ _ z;cases(x0n z)
 ·show xzL z hp TH TH TH;injection TH with _ _ z;have:=yt z;cases this
def xwN.off (h:uc H g S b G)(s:∀c o,W1=IO->Γ->AE=IO)(h1:DO co)(h2:xOX)(h3:xCm):uc H' g S b G:=h.keep λ c o e hc=>s c o e (by rcases hc with rfl|rfl|rfl<;>assumption)
inductive xlg (Ce CO CK:MV) (vs:NE) (H:Hp) (Q:VK) (Nf:XK):Prop
 |mk (p dx:MV) (h0:vs=Bf) (h1:CI=dE Ce []) (h2:∀co ck g wt H',A1 co->xOS->A1 g->A1 wt->xAh H' g [] 0 [] [] false false->Fu (∀c o,W1=IO->Γ->AE=IO)):xlg Ce CO CK vs H Q Nf
def xgA:bS xp3:=Sc
def xmB (F:x6v xp3)(T:xHt)(R:Pg):zC 6 (xlg Ce CO CK):=by
 show Dd R.init;show AQ xgA (λ M7 A outer st H vs Q E hr h=>?_);show dD p dx hp k h;refine u5 (iW (xpt FI R) hr Z7 R.m bI a7) (xBw xUh VN VN)
 intro x dk nx Vw nek;have s0:=xB3 CO;have VY:p≠x:=sF nx;refine Dx x dk (λ ck g H1 VZ ng hC OY=>DY);have NX:=xq (j7 hp) VY;have k1:∀b o,E5=IO->xIF=IO:=λ b o e=>xq SH SP
 have TM:xOS:=EF VZ;have ngH:A1 g:=EF ng;clear OY s0;refine⟨_,rfl,p,Ce,dx,[],rfl,NX,T.cl,T.nC,(by show AP 0),?_⟩;have NB:(xIX lQ) p=dE Ce lQ:=ad;show DR k2 (∀b o,xIF=IO->yW->(xIX lQ) b=IO) (λ b o e n=>by show Sa n) (xIX lQ) H2;refine Bh Z9 wt nwt;have s3:=zi nwt;have XN:Du H2 wt [] wt=az:=ad;have N1:=Cn NB;have ZE:DO wt:=DH NB nwt;show EI H2 wt [] H3 ⟨_,rfl,p,Ce,dx,_,rfl,N1,T.cl,T.nW,(by show qc),?_⟩;have ON:=cI "course" Cw [];have NH:=x8h x1B lQ;have Ou:=cI "begun" xR5 (xSo wt lQ);have ZK:B4 ([]:qw) 0:=rfl;show Wp ⟨_,rfl,p,Ce,dx,_,rfl,ad,T.cl,T.nB,(YY [_,_,_] 1 Dz (pO (Zr Ψ)) On ON (d8 NH ZK)),?_⟩ ⟨_,rfl,p,Ce,dx,_,rfl,ad,T.cl,T.nF,(YY [_,_,_,_] 1 (DX Dz) (pO (xBh (Zr Y2))) On ON (Bb NH Ou (Fz ZK))),?_⟩;rw [d9,d9,xus];have k3:∀b o,xIF=IO->yW->(Tj H3 p Ce (xYY x wt)) b=IO:=λ b o e n=>by show XV n (Cn (xJK e n))
 refine k x ck g wt _ nx TM ngH (by
  cases e:H wt with
  |none=>rfl
  |some o=>show Μ (xJK xXJ ZE) nwt nwt) ⟨xGU,hC.off k3 VY.symm (Re (by show B0 hp TM TM)) (Re (by show xCx hC.gr NX)),by show XV ZE XN⟩ λ b o e n=>UR xXJ n
def xcE (co co' wt)(bg fn):pj "course" co' QL=xv0 co' wt bg fn:=by
 show(Tp "course" "course" _ _)=_;show Af AD
inductive xlk (Ce CO CK:MV) (vs:NE) (H:Hp) (Q:VK) (Nf:XK):Prop
 |mk (p co ck g wt:MV) (S:Id) (b:Nat) (G W:Id) (bg fn:Bool) (h0:vs=Bf) (h1:xWQ W bg fn) (h2:∀p' co' ck' g' Pq H',A1 p'->A1 co'->A1 ck'->xGR->xOR->xQE H' p' co' ck' g' Pq S b G W bg fn->Ι->x2x p'):xlk Ce CO CK vs H Q Nf
def xi0:xuH xZq xty:=Sc
def xlX (F:Aj "twin" "Reading.twin" xty)(Z:wZ):zC 8 (xlk Ce CO CK):=by
 have T:=Z.tt;have X:=Z.pr.H.N.X;show xV9;show xDz Tw Z.pr.otwin xi0 (λ M7 A outer st H vs Q E hr h=>?_);obtain⟨p,co,ck,g,wt,S,b,G,W,bg,fn,rfl,⟨⟨dx,hp⟩,hC,hw⟩,k⟩:=h;have Ye:xIq:=UF;have hr6:ED 6:=UF;refine Ep (vP 1 xi0.nd (iW (xmB FI T Z.pr.R) Ye Z7 T.m bI a7) (xNe (bw Α Z.pr.R.cl Tw (xgR Tw.F Z.pr) hr6)) (ac (xNe (xS8 HA xMt))
  (ac xNf
  (tC xNf PP))))
 intro x dk nx Vw nek;have s0:=xB3 Ce;refine Dx x dk (λ co1 ck1 g1 wt1 H1 _ _ _ _ h1 OY=>DY);have s1:mE:=λ b o e=>OY b o xu SP
 obtain⟨PN,T7⟩:=h1.ob;clear s0 OY Vw nek h1;show DG Xl Qi hC.ob ⟨_,rfl,p,Ce,dx,_,_,rfl,zd,T.cl,T.nC,xg,co,Xl,_,rfl,Ec Qi,dW,co,ck,g,S,G,b,rfl,iZ c o e D4,λ V6 ck2 g2 H2 nco VZ ng V4 s2=>?_⟩;have nxo:V6≠x:=DH T7 nco;have nxk:ck2≠x:=DH T7 VZ;have nxg:g2≠x:=DH T7 ng;refine⟨_,rfl,x,Ce,PN,_,rfl,C7 T7,T.cl,T.nC,RH,?_⟩;rw [xcE];have s3:ZC (qV H2 x Ce xP7):=λ c o e=>by show pQ nx (C7 D4)
 have hx3:(qV H2 x Ce xP7) x=Tu Ce PN xP7:=ad;show DR TK (xX1 (qV H2 x Ce xP7) V6 ck2 g2 S b G) (V4.off (λ c o e n=>by show Sa n) nxo nxk nxg) (qV H2 x Ce xP7) H3;refine⟨_,rfl,p,Ce,dx,_,_,rfl,Cn hp,T.cl,T.nW,wj,wt,_,rfl,AN (Cn hw),zR⟩;have s4:=xBU ve;have Vz:(qO H3 ve) l=mD:=ad;have nlx:ZZ x:=EW hx3;have hC4:=TK.keep λ c o e _=>gj
 have s4:=xQG;have hx4:(qO H3 ve) x=_:=Tq nlx.symm hx3;show vo H3 l ve H4;have VY:p≠x:=sF nx;show rE ⟨_,rfl,x,Ce,PN,_,rfl,hx4,T.cl,T.nW,RH,?_⟩ xut ⟨_,rfl,p,Ce,dx,_,_,rfl,Tq VY (ES hp),T.cl,T.nB,dX,_,rfl,x,Ce,PN,_,rfl,ad,T.cl,T.nB,RH,?_⟩;rw [x0,d9];refine⟨_,rfl,p,Ce,dx,_,_,rfl,Tq VY (ES hp),T.cl,T.nF,xi,_,rfl,x,Ce,PN,_,rfl,ad,T.cl,T.nF,RH,?_⟩;rw [wT,d9];exact Υ (k x V6 ck2 g2 l _ nx (vK nco) (vK VZ) (vK ng) (xm s3) (qT PN ad (hC4.off (λ c o e n=>by show Sa n) nxo nxk nxg) (by show XV nlx Vz)) λ c o e=>by show pQ nx gj)
inductive xlh (Ce CO CK:MV) (vs:NE) (H:Hp) (Q:VK) (Nf:XK):Prop
 |mk (p co ck g wt:MV) (S:Id) (b:Nat) (G W:Id) (h0:vs=Bf) (h1:xWQ W false false) (h2:W.take 3=x5Z) (h3:W.length<3->xBt) (h4:∀Y Pq H',xOR->W=184::66::1::Y->xPp g Pq S b G Y true false->Fu (∀c o,W1=IO->Γ->AE=IO)):xlh Ce CO CK vs H Q Nf
def xif:bS xud:=Sc
def xgL (F:Aj "read_mark" "Reading.read_mark" xud)(Z:wZ):zC 2 (xlh Ce CO CK):=by
 have T:=Z.tt;have X:=Z.pr.H.N.X;obtain⟨_,_,Nm⟩:=Z.pr.nmark;show Bq d hm hd Z.pr.mark (F.ok xif λ M7 A outer st H vs Q E hr h=>?_)
 intro _;obtain⟨p,co,ck,g,wt,S,b,G,W,rfl,hR,h3,k0,k⟩:=h;obtain⟨n1,n2,n3,n4,_⟩:=hR.ne;show yj dx hp hw hR;show E9 (u9 (lJ (xeI Nm Z.pr) UF Nm Α) (af (mX (tT xwT Α (vJ (xMT VO Z7 hm))) (sQ VN (V7 (nr Α (vJ (xMT VO Z7 hm)))))))) ⟨_,rfl,p,Ce,dx,_,_,rfl,hp,T.cl,T.nW,wj,wt,W,rfl,hw,h3,SC H1 s1⟩ ⟨_,rfl,p,Ce,dx,_,_,rfl,zd,T.cl,T.nW,wj,wt,_,rfl,AN xFK,d,_,rfl,x2q H1,_,_,rfl,rfl,_,rfl,xAM (λ h=>k0 (Ko (Re (h (FM ?_)))) _ s1)⟩
 rotate_left
 ·rw [Fy];show Ε 3≤_;exact xO (UG EZ EZ z)
 show Ay h DQ Fy h;have h:3≤W.length:=by
  have:Ε 3≤x0m:=h;exact(UG EZ EZ (xRf this))
 show x5 Y Y (W=184::66::1::Y) ⟨W.drop 3,by
  show zc (Gf 3 W) h3 (Gh h);exact this.symm⟩
 show rE ⟨_,rfl,p,Ce,dx,_,rfl,zd,T.cl,T.nB,RH,?_⟩ x0 ⟨_,rfl,p,Ce,dx,_,_,rfl,ad,T.cl,T.nW,wj,d,_,rfl,x2q _,_,rfl,wt,_,rfl,Ng.of (Tq n4 xFK),zR⟩;have ec:xE6 (Ο (184::66::1::Y)) (some (yi ([zx,b9,zI]:NE)))=sj:=dm _ 3;rw [ec];have OV:DP:=Re (by show B0 ad nl nl)
 refine⟨_,rfl,p,Ce,dx,_,rfl,xIm OV.symm,T.cl,T.nW,RH,?_⟩;rw [xut];have kp:∀c o,W1=IO->Γ->xRc (qO (xIX x0p) sj) l true false c=IO:=λ c o e n=>by
  have h1:(xIX x0p) c=IO:=xAC D4;rw [sM,Tt h1 nl];exact h1
 exact k Y l _ (by
  cases e:sV with
  |none=>rfl
  |some o=>show WR (ai OV) D4 nl nl) rfl ⟨xGU,xJY kp,xIm OV⟩ kp
inductive xli (Ce CO CK:MV) (vs:NE) (H:Hp) (Q:VK) (Nf:XK):Prop
 |mk (p co ck g wt a:MV) (S:Id) (b:Nat) (G W:Id) (h0:vs=we) (h1:xXH W false) (h2:XL=Au x3S) (h3:Ft (xAh H' g S b G W true true->Fu (∀c o,W1=IO->Γ->AE=IO))):xli Ce CO CK vs H Q Nf
def xid:Uf xRP xRP o0:=Sc
def xf0 (F:Aj "read_tail" "Reading.read_tail" o0)(Z:wZ):AH 10 xRP (xli Ce CO CK):=by
 have T:=Z.tt;show xDz Ta Z.pr.R.tail xid (λ M7 A outer st H vs Q E hr h=>?_);obtain⟨p,co,ck,g,wt,a,S,b,G,W,rfl,hR,ha,k⟩:=h;obtain⟨n1,n2,n3,n4,_⟩:=hR.ne;show yj dx hp hw hR;show xCZ;refine Tg (QF fJ PP (bw Α Z.pr.R.cl Ta (xov Ta.F Z.pr.R) hr)) (af VN)
 show DG Xl Qi hC.ob ⟨_,rfl,_,rfl,p,Ce,dx,_,_,rfl,hp,T.cl,T.nC,xg,co,Xl,_,rfl,Qi,dW,co,ck,g,S,G,b,rfl,hC,λ l H1 nl s1 hl=>?_⟩;have Vo:=gO;rw [gL] at Vo hl;show rE ⟨a,l,_,_,rfl,rfl,x1O,xL7,_,rfl,?_⟩ QN (aV ⟨_,rfl,p,Ce,dx,_,rfl,zd,T.cl,T.nF,RH,?_⟩);rw [wT];have kp:∀c o,W1=IO->Γ->(xIX (xEs true)) c=IO:=λ c o e n=>xAC D4
 exact iE ⟨xGU,xJY kp,B1 hw n4⟩ kp
inductive xjD (Ce CO CK:MV) (vs:NE) (H:Hp) (Q:VK) (Nf:XK):Prop
 |mk (p co ck g wt a:MV) (S:Id) (b:Nat) (G W R T:Id) (h0:vs=we) (h1:xXH W false) (h2:XL=qz) (h3:PB G T R) (h4:TW T G) (h5:∀l g' H',Ξ->xGR->AL=EX->xAh H' g' (S++T) (b+1) (grp b G T) W true false->(∀c o,W1=IO->xBc->rY->AE=IO)->AS):xjD Ce CO CK vs H Q Nf
def xiX:Uf (gK "block" "text") xZp xpo:=Sc
def xfZ (F:Aj "read_block" "Reading.read_block" xpo)(Z:wZ):AH 40 xZp (xjD Ce CO CK):=by
 have T:=Z.tt;have R:=Z.pr.R;show xQR Tb Z.take FT Tb.F;show ZV Wi R.win Go R.go;show AQ xiX (λ M7 A outer st H vs Q E hr h=>?_);obtain⟨p,co,ck,g,wt,a,S,b,G,W,Rb,T',rfl,hR,ha,pb,tw,k⟩:=h;obtain⟨n1,n2,n3,n4,n5,n6⟩:=hR.ne;show yj dx hp hw hR;have NA:Bv:=UF;have hr6:ED 6:=UF;refine Ep (Fc 2 xiX.nd (BI (xeY FT Z.bk Z.wl) hr Tb.m Tb.kp Tb.b (xH PP (BN Α R.cl Wi (x3s R)))) (xN Α R.cl Go (xnI Go.F R) hr6 Rl) Ty)
 show DG Xl Qi hC.ob ⟨_,rfl,_,rfl,p,Ce,dx,_,_,rfl,hp,T.cl,T.nC,xg,co,Xl,_,rfl,Qi,dW,co,ck,g,S,G,b,rfl,hC,SC lw XG⟩;have s1:=Az mv XG;refine⟨a,lw,G,T',Rb,rfl,gO,ad,pb,tw,λ l H2 nl s2 hl=>?_⟩;have s2:=dn;have V4:=iZ c o e jQ
 show CQ dxo2 Rg V4.ob dk2 Xw V4.ch;have h1:=tw.le;have h2:=tw.wl;refine⟨_,rfl,p,Ce,dx,_,_,rfl,C7 hp,T.cl,T.nC,xg,co,dxo2,_,rfl,Rg,dW,_,rfl,co,ck,g,l,S,G,T',b,rfl,V4,hl,tw.tb,by exact(YY [_,_] 1 LE (Y6 64 192) P3 h1 h2),λ g' H3 ng TK kp=>?_⟩;have NJ:∀c o,W1=IO->xBc->rY->x3=IO:=λ c o e n m=>B1 jQ n m
 exact Υ (qb g' H3 (vK nl) (none_of s2 ng) (B1 hl (aF hl Rg (by show Τ)) (aF hl Xw (by show Τ))) (Dp (Cz hp n1.symm n2.symm) TK (Cz hw n5 n6)) NJ)
def nB (T:Id):Nat:=(T.length+63)/64
def xsR (T:Id)(Rs:CA):Prop:=xXr Bn/\∀j R,yO Rs R->Bl T j R
abbrev tl (T:Id):Id:=xQj
def xw3.all (h:xw3 T Z):∃Rs,vX/\Z=184::66::1::(xD7 xt):=by
 show iP Rs R hl hRs hL rfl;unfold nb at hl;rcases hL with⟨h0,rfl⟩|⟨h0,pb⟩
 ·exact⟨Rs,⟨by show wU nB (BC (BF 64 [_,_,_,_] (xEh (xz9 (Vh 3 63) zv)) (xOO (xzP xE0)) Os (Bb (Es 64 hl) zK jI)) (EL 64 [_,_,_,_,_] (xOO (DX (xMR qS))) (xEh (bV (.a (Vh 4 63) (xOO Be)))) Os LE (Wz (Wu U3) h0 (d8 jI (IM _ _).symm)))),hRs⟩,by show Af GU⟩
 ·refine⟨Rs++[R],⟨by rw [FD];show _+1=_;unfold nB;lia,Fw j R'⟩,by show CR IR⟩;show CM j Rs.length h h
  ·show ρ (G7 h) e (hRs j R' e)
  ·rw [Gv h] at e;have hj:j-Rs.length=0:=xQT (x4H e).1;show kD hj;obtain rfl:j=nb T:=by show wU nb (BC (rS [_,_,_,_] 2 xJ (Aw (bV ml)) LE Os hl (Fx (Fz hj) Ω)) (Fp [_,_,_] 1 Tm qA Os LE U3 h))
   unfold Bl blk;show LT (Gh (by rw [FU];unfold nb;show Bg Lk (Gi tW))) pb
def xwV (h:64*i<F.length)(hb:Eg F):TW xA8 xQf:=by
 have hl:B4 xA8 (min 64 (F.length-64*i)):=by unfold blk;rw [FW,FU]
 exact⟨λ x hx=>iY (G8 xE8),by lia,by exact Cm [_,_] P3 (Rn 64) LE 64 xUc DN,λ x hx=>iY (G9 xER),xtg (Gi h)⟩
def rem (T:Id)(Rs:CA)(j:Nat):Id:=(Rs.drop j).flatten++xt
def nxt (T:Id)(Rs:CA)(j:Nat):Id:=Rs.getD j xt
def xwf (h:bK j):xBD=Rs[j]++xzC (j+1)/\nxt T Rs j=Rs[j]:=by
 unfold rem nxt;rw [Ig h,HJ,FJ];exact qN (by rw [Gu,FL h];rfl)
def xyb (h:O2 Rs.length):xBD=xt/\nxt T Rs j=xt:=by
 unfold rem nxt;show LT (HB h) (qN (by rw [Gu,GZ h];rfl))
structure Op (T:Id)(Rs:CA)(bg fn:Bool)(j:Nat)(G W rest:Id):Prop where
 jn:j≤Bn
 gw:mn (64*j)->G=wn T j
 re:xGN->oJ W=E1 bg xBD oH
 b0:Ρ bg->j=0/\xGN/\W.length<3
 b1:SB bg->xGN->W.length<(nxt T Rs j).length
 fi:xGQ->j=Bn/\W=[]/\rest=[]
structure Nws (H:Hp)(g l g' Pq:MV):Prop where
 g:g'=g\/xGR
 lg:ZZ g'
 w:xOR
 lw:ZZ Pq
def xnw {p co ck c:MV}{H H':Hp}(fr:∀c o,W1=IO->Γ->xBc->rY->AE=IO)(h1:SL Dk o1)(h2:SL (H' co) o2)(h3:SL (H' ck) o3)(n:WF AE):UU:=by
 cases e:W1 with
 |none=>rfl
 |some o=>show Μ (xGl e (DH h1 n) (DH h2 n) (DH h3 n)) n n
inductive xjE (Ce CO CK:MV) (vs:NE) (H:Hp) (Q:VK) (Nf:XK):Prop
 |mk (p co ck g wt:MV) (T Y G rest:Id) (Rs:CA) (j0:Nat) (h0:vs=Bf) (h1:xAh H g (jW j0) j0 G Y true false) (h2:wm) (h3:W5) (h4:vX) (h5:j0≤Bn) (h6:mn (64*j0)->G=wn T j0) (h7:oJ Y=xzC j0) (h8:∀l j fn g' Pq G' W' H',Ξ->Nws H g l g' Pq->AL=cU j (64*j0)->xPp g' Pq Ws j G' W' true fn->x2R true fn j G' W' rest->O2 j0->(∀c o,W1=IO->Γ->xBc->rY->AE=IO)->AS):xjE Ce CO CK vs H Q Nf
def NP:xuH ["self","signs","place","part","row"] xrY:=Sc
inductive xjm (CK:MV) (CO:MV) (Ce:MV) (H:Hp) (p:MV) (co:MV) (ck:MV) (g:MV) (wt:MV) (T:Id) (Y:Id) (rest:Id) (Rs:CA) (j0:Nat) (l:MV) (m:Nat) (σ:St) (H4:Hp):Prop
 |mk (j:Nat) (pl:Nat) (fn:Bool) (g4:MV) (G4:Id) (v3:BV) (v4:BV) (h0:σ=[Qg,ye,Χ pl,v3,v4]) (h1:((g4=g\/A1 g4)/\ZZ g4)) (h2:yh=cU j (64*j0)) (h3:xAh H4 g4 Ws j G4 Y true fn) (h4:(∀c o,W1=IO->Γ->xBc->rY->H4 c=IO)) (h5:O2 j0) (h6:j≤Bn) (h7:(mn (64*j)->G4=wn T j)) (h8:pl≤Y.length) (h9:((xGN/\m=Bn+1-j/\oJ xzf=xBD)\/(xGQ/\m=0/\j=Bn/\xzf=[]/\rest=[]))):xjm CK CO Ce H p co ck g wt T Y rest Rs j0 l m σ H4
def xfq (F:x7V "read_parts" xrY)(Z:wZ):zC 41 (xjE Ce CO CK):=by
 have T0:=Z.tt;have R0:=Z.pr.R;show vO Pa Z.pr.partat Ta Z.tail Bl Z.block;show AQ NP (λ M7 A outer st H vs Q E hr h=>?_);obtain⟨p,co,ck,g,wt,T,Y,G,rest,Rs,j0,rfl,hR,hT,Oi,⟨Ym,hRs⟩,hj0,hG0,hY,k⟩:=h;have hr34:ED 34:=UF;have hr10:ED 10:=UF;show xZ (ju 1 NP.nd d5 (oG 2 NP.nd aj (zX (wK Α) (vP 3 NP.nd (il (xfF Pa Z.pr) hr34 Pa Α Ty (xsP Α rfl)) (zF (CZ xuy π cz) xlB) (Cg 4 NP.nd (gk Α Ty xzU) (pX 2 NP.nd xzU (xHK (CZ xuy xzU cz) (xN SZ T0.cl Ta (xf0 Ta.F Z) hr10 (Bx Ν)) (xE3 IX Jt xwx PP (xNi SZ Bl (xfZ Bl.F Z) hr (Bx Ν)))))))) (V7 (nr Α Ty)) PP)) xJg;have s0:=xG2;obtain⟨⟨dx0,QZ⟩,hC0,hw0⟩:=id hR;show iz hco0 hC0.ob hck0 hC0.ch;have OV:DP:=EW QZ;have XH:ZZ co:=EW hco0;have nlk:ZZ ck:=EW hck0;have XG:ZZ wt:=EW hw0;show Ff A3;have hnB:xC3 (64*Bn)/\64*Bn<T.length+64:=by unfold nB;show A5 (BX xUj xE0 LE U0 zK) (BX U0 (D7 63) (AJ U0) (D7 64) jI)
 have hTn:jW Bn=T:=Gh hnB.1;have hD0:pA j0 (64*j0)=[]:=HB (by show UK DN);show Wp D2 ((λ(J:∀j pl fn g4 G4 v3 v4 H4,(g4=g\/H g4=none)/\l≠g4->H4 l=some (.lst (((T.take (64*j)).drop (64*j0)).map vN))->xxX Ce CO CK H4 p co ck g4 wt (T.take (64*j)) j G4 Y true fn->(∀c o,H c=some o->c≠p->c≠co->c≠ck->H4 c=some o)->j0≤j->Op T Rs true fn j G4 (Y.drop pl) rest->R1 [some (.ref p),some (.ref l),some (vN pl),v3,v4] H4)=>?_) (λ j pl fn g4 G4 v3 v4 H4 hg4 Vz OB fr hjj op=>A3))
 rotate_left
 ·obtain⟨n1,n2,n3,n4,n5,n6⟩:=OB.ne;show yj dx hp hw OB;refine⟨_,rfl,p,Ce,dx,_,_,rfl,hp,T0.cl,T0.nW,wj,_,rfl,_,rfl,wt,_,rfl,Ng.of hw,SC lw nlw'⟩
  try dsimp only
  rw [dm,<-IN];have s5:=Ei xzf nlw';refine⟨_,rfl,p,Ce,dx,_,rfl,xW2,T0.cl,T0.nW,RH,?_⟩;rw [xut];have ZE:DO lw:=DH hp nlw';have kp:∀c o,H4 c=IO->Γ->xRc (pC H4 lw xzf) lw true fn c=IO:=λ c o e n=>xAC (AZ e)
  show iz YN hC.ob hck4 hC.ch;exact Υ (qb j fn g4 lw G4 _ _ nl ⟨hg4.1,hg4.2,xnw fr hp YN hck4 nlw',ae Vz nlw'⟩ (B1 Vz OV) ⟨xGU,xJY kp,xIm ZE⟩ op hjj λ c o e a1 a2 a3=>B1 xPV a1)
 clear g1;refine AG (xjm CK CO Ce H p co ck g wt T Y rest Rs j0 l) ⟨_,j0,0,false,g,G,none,none,rfl,⟨Dm,EW hC0.gr⟩,by show LT hD0 ad,qT dx0 (j7 QZ) (hC0.keep λ c o e _=>SH) (j7 hw0),λ c o e _ _ _=>SH,UV,hj0,hG0,AM,xIu rfl hY⟩
 rintro m σ H4 ⟨j,pl,fn,g4,G4,v3,v4,rfl,hg4,Vz,OB,fr,hjj,hj,hG,OE,hc⟩;obtain⟨n1,n2,n3,n4,n5,n6⟩:=OB.ne;show yj dx hp hw (id OB);obtain⟨Xl,Qi⟩:=hC.ob;rcases hc with⟨rfl,rfl,hd⟩|⟨rfl,rfl,rfl,hd,YR⟩
 rotate_left
 ·exact⟨_,rfl,p,Ce,dx,_,_,rfl,hp,T0.cl,T0.nF,xi,true,rfl,aV (J _ pl _ g4 G4 v3 v4 H4 hg4 Vz OB fr hjj ⟨hj,hG,nofun,nofun,nofun,λ _=>Wr hd YR⟩)⟩
 show Wp ⟨_,rfl,p,Ce,dx,_,_,rfl,hp,T0.cl,T0.nF,xi,false,rfl,Wl⟩ xFN;have hdl:B4 xzf x3Q:=FU;have cut:∀{R r:Id},xEC x3Q->oJ xzf=R++r->ky sj (gh pl) (Ps (pl+R.length))=pG/\oJ (Y.drop (xVS pl))=r/\xVS pl≤Y.length:=λ {R r} h e=>by
  have e1:(xzf).take R.length=R:=by
   have:=xQI R.length e
   rwa [Hy (by show LT hdl h),Mu] at this
  refine oB ?_ (by exact(Fp [_,_,_,_] 1 xJ ml P3 Tm h (Zi [_,_] LE LE OE)))
  ·rw [xp0 _ rQ (by show Ai (Fp [_,_,_,_] 1 xJ ml P3 Tm h (Zi [_,_] LE LE OE))),HZ,<-IN,<-IP,e1]
  ·have:=congrArg (List.drop R.length) e
   rwa [Iv (by show LT hdl h),Ks,Ih] at this
 have none:x3Q<(nxt T Rs j).length->∀H5,C' H4 H5->R1 [Qg,ye,Χ pl,some .non,v4] H5:=λ h H5 s5=>J j pl false g4 G4 _ _ H5 hg4 (AZ Vz) (Dp xW2 (iZ c o e (AZ e)) (AZ hw)) (λ c o e a1 a2 a3=>AZ xPV) hjj ⟨hj,hG,λ _=>hd,nofun,λ _ _=>by show LT hdl h,nofun⟩
 show CM j Bn Vm Vm
 ·
  have NM:xNY (64*j):=by exact(B7 [_,_,_] (AJ zv) (bD On) (.a (Rn 64) zv) xMB Os hnB.2 (Wu Vm))
  have hjR:bK j:=by show LT Ym Vm
  have pb:=hRs j _ (FL hjR);have tw:=xwV NM hT;obtain⟨er,en⟩:=xwf (T:=T) hjR;rw [er] at hd;rw [en] at none;generalize Rs[j]=R at*;obtain⟨i,ps,Rb,hi,_,_,eR,ON,NH⟩:=xLr;have ht1:=tw.one;have ZG:=tw.le;have hlT:B4 Ws (64*j):=List.length_take_of_le (Gi NM);have eR':R=WM (64*i+d6-1)++(Rb++aY (WM (64*i+d6-1)++Rb)):=by rw [eR];show CS sld FJ
  have T9:Vg Rb (aY (WM (64*i+d6-1)++Rb))=xUK 2:=by show Af FD
  have V':xGq (xUK 5):=by rw [eR,xv1,FD];show 3+_+2=_;exact EN AV xOl (D7 5) AV (D7 5) xOl
  show Wp ⟨_,rfl,p,Ce,dx,_,_,rfl,hp,T0.cl,T0.nW,wj,_,rfl,_,rfl,p,Ce,dx,_,_,rfl,hp,T0.cl,T0.nC,xg,co,CO,Xl,_,_,rfl,Qi,R0.cl,R0.nM,xL _ _ _ _,?_⟩ ⟨wt,Y,_,rest,xzC (j+1),pl,_,64*i+d6-1,Rb.length,rfl,hw,OE,by rw [hd,<-FJ,<-eR'],by exact Cm [_,_,_] xWC (zD 64 4 xUx) On 256 xUe (xb ZG [_,_] AU Os AU xMM ht1),NH,Re (by exact(uv (qe [_,_,_,_] (Qv Ψ (CD 255 AU (DX (VM 255 On)))) (zD 64 4 (VM 255 (iU (CD 255 Cy (xMR Be))))) Cy xUe (Bb (FE 255 ON) ZG (xb (Es 255 z) [_,_] AU Os AU xMM ht1))))),λ _=>by rw [hlT];lia,by rw [T9,FY (by lia)],λ h H5 s5=>qQ (cy (none (by exact(rS [_,_,_,_] 3 (.a (Vh 2 5) On) (.a (Vh 2 2) (Aw (Vh 3 3))) On Os T9 (Fx (Fz V'.symm) h))) H5 s5)),λ h t v H5 s5 ht hv=>?_⟩;show x5 h h (v=xNM) (by rcases hv with⟨z,_⟩|⟨_,z⟩;exact Dw bq xFz (d8 ON z);exact z)
  rw [T9] at ht;obtain⟨ec,ed,hpl'⟩:=cut (by lia) hd;rw [V'] at ec ed hpl';refine qQ oo;have Ub:=xW2;refine⟨_,rfl,p,Ce,dx,_,_,rfl,Ub,T0.cl,T0.nW,wj,_,rfl,_,rfl,_,rfl,t,_,_,_,rfl,rfl,x9,wu,_,rfl,wt,_,rfl,Ng.of (AZ hw),SC lr Pk⟩
  try dsimp only
  rw [ec];have s6:=Az pG Pk;have Yh:Du H5 lr pG lr=qz:=ad;have s6:=x0e;have ht6:=Az pG Pk _ _ ht;show EI H5 lr pG H6 ⟨_,rfl,t,_,_,_,rfl,rfl,xSX,wu,?_⟩;refine⟨_,rfl,t,_,_,_,rfl,rfl,xSX,tO,rfl,_,rfl,oo⟩;show Ay ZJ (tx Vz) (hG (Gi NM)) hC;refine⟨_,rfl,oI ZJ,_,rfl,p,dx,_,rfl,xNs,wk,_,rfl,p,co,ck,g4,wt,lr,_,j,_,Y,R,_,rfl,Dp xNs (iZ c o e xHU) (tx hw),Yh,pb,tw,λ l7 g7 H7 n7 ng7 hl7 hR7 Ys=>?_⟩;have hl76:=xJT ZJ XH nlk;have e7:Ο (pA j (64*j0))++Ο (blk T j)=Ο (pA (j+1) (64*j0)):=by rw [<-FV,<-xwr,Iv (by show LT hlT (BX xyI U0 xyI U0 (Wu hjj)))]
  refine⟨l,l7,_,_,rfl,rfl,hl76,hl7,bG (by rw [Fy,Fy,FU,hlT];exact(ow [_,_,_,_] 2 (xz9 xMA DD) (w6 (CN (iU xMA))) P3 Oi (Bb NM ZG Qn))),?_⟩
  try dsimp only
  rw [e7];have kp7:∀c o,H7 c=IO->sk->ao H7 l (pA (j+1) (64*j0)) c=IO:=λ c o e n=>xJn
  obtain⟨_,TH⟩:=hC.ch;have ng0:H g7=.none:=xnw (λ c o e a1 a2 a3=>tx xPV) xNs (tx Qi) (tx TH) ng7;obtain⟨⟨dx7,hp7⟩,hC7,hw7⟩:=hR7;rw [xwr] at hC7;refine⟨Bn+1-(j+1),Ie (J9 Vm) (HW j),j+1,pl+(xUK 5),false,g7,_,_,_,rfl,⟨.inr ng0,ae ZJ ng7⟩,ad,qT dx7 (xJB hp7 OV.symm) (hC7.off kp7 XH.symm nlk.symm (DH ZJ ng7)) (xJB hw7 XG.symm),λ c o e a1 a2 a3=>xJB (xJT (tx xPV) a2 a3) (W2 nl),by exact(mH LE LE hjj),Vm,Re (xoS z),hpl',xIu rfl ed⟩
 ·
  obtain rfl:j=Bn:=FA hj Vm;obtain⟨er,en⟩:=xyb (T:=T) (Fz Ym);rw [er] at hd;rw [en] at none;show rF hd' (hd.trans (xTd _)) ⟨_,rfl,p,Ce,dx,_,_,rfl,hp,T0.cl,T0.nW,wj,_,rfl,_,rfl,p,Ce,dx,_,_,rfl,hp,T0.cl,T0.nC,xg,co,CO,Xl,_,_,rfl,Qi,R0.cl,R0.nM,xL _ _ _ _,?_⟩ ⟨wt,Y,(xt).drop 3,rest,[],pl,_,0,0,rfl,hw,OE,hd',Z9,Z9,E2,(BQ),rfl,λ h H5 s5=>qQ (cy (none h H5 s5)),λ h t v H5 s5 ht hv=>?_⟩;obtain rfl:qj v:=by rcases hv with⟨_,z⟩|⟨z,_⟩;exact z;cases z
  obtain⟨ec,ed,hpl'⟩:=cut (R:=xt) h hd';obtain⟨ed,erest⟩:=xX6 ed;rw [hTn] at hC;show Wp (qQ oo) ⟨_,rfl,p,Ce,dx,_,_,rfl,xW2,T0.cl,T0.nW,wj,_,rfl,_,rfl,_,rfl,t,_,_,_,rfl,rfl,x9,wu,_,rfl,wt,_,rfl,Ng.of (AZ hw),SC lr Pk⟩;have ec:ky sj (gh pl) (Ps (xBo pl ((xt).drop 3)+3))=Ο xt:=ec
  try dsimp only
  erw [ec]
  have s6:=Ei xt Pk;have ht6:=tx ht;have Yh:ao H5 lr xt lr=Au xt:=ad;have s6:=x0e;show SN H5 lr xt H6 ⟨_,rfl,t,_,_,_,rfl,rfl,xSX,wu,?_⟩;show Wp ⟨_,rfl,t,_,_,_,rfl,rfl,xSX,tO,rfl,_,rfl,Wl⟩ ⟨_,rfl,p,dx,_,rfl,xNs,wk,_,rfl,p,co,ck,g4,wt,lr,T,Bn,G4,Y,rfl,Dp xNs (iZ c o e xHU) (tx hw),Yh,τ H7 hR7 Ys⟩;exact⟨0,by exact(BX Ψ P3 DW LE Ω),Bn,_,true,g4,G4,_,_,rfl,hg4,xJT (tx Vz) OV,by show LT hTn hR7,λ c o e a1 a2 a3=>xJT (tx xPV) a1,hjj,UV,hG,hpl',.inr (EE rfl rfl ed erest)⟩
abbrev xtv:M5:=N3 126
abbrev xr5:M5:=NQ 126
abbrev xtw:M5:=nN 126
abbrev xxx:M5:=Zf 126 3
abbrev xwi:M5:=top 127
def xws (r:MV):qw:=[("reading",jl)]
def xtE (r):pj "reading" r []=cx:=rfl
def xre (r):ZA cx "reading"=xCc:=by rw [<-xtE,ar,AD]
def xdU (r){x:Str}(h:nZ "reading"):yS cx x:=by
 rw [<-xtE,ar,Qo];rfl
def xh1 (r r'):pj "reading" r' cx=xws r':=by
 show(Tp "reading" "reading" _ _)=_;show Af AD
structure xqc (K:Frag)(mg:Β)(C:MV):Prop where
 cl:yZ
 nR:fj "reading"
 m:mg "Opener"=xM
 init:∃f fd,x62 xtv/\xF3/\yD
 feed:∃f fd,qW C "feed" "Opener.feed" xr5 Jah
 over:BL "over" "Opener.over" xtw
 fin:BL "finish" "Opener.finish" xxx
def xcB (h:W++z=mk3++Y):W.take 3=x5Z:=by
 show CM W.length 3 q q
 ·show zc (xQI W.length h) Mu (Hy (Gi q));rw [<-this,Gh (Gi q)]
 ·show SK (xQI 3 h) (Hy q);rw [this,Gh (show mk3.length≤_ from q)];rfl
inductive xlj (Ce CO CK:MV) (vs:NE) (H:Hp) (Q:VK) (Nf:XK):Prop
 |mk (p co ck g wt a:MV) (T G W r rest:Id) (Rs:CA) (j0:Nat) (bg:Bool) (h0:vs=we) (h1:xAh H g (jW j0) j0 G W bg false) (h2:wm) (h3:W5) (h4:vX) (h5:xPR false j0 G W (oJ r)) (h6:XL=gR) (h7:ux (Vg W r)) (h8:∀l j fn bg' g' Pq G' W' H',Ξ->Nws H g l g' Pq->AL=cU j (64*j0)->xPp g' Pq Ws j G' W' bg' fn->x2R bg' fn j G' W' rest->O2 j0->(∀c o,W1=IO->Γ->xBc->rY->AE=IO)->AS):xlj Ce CO CK vs H Q Nf
def xsc:Uf (gK "row" "signs") Jah xr6:=Sc
def xf4 (F:x7W "go_through" xr6)(Z:wZ):AH 42 Jah (xlj Ce CO CK):=by
 have T0:=Z.tt;show vO Ma Z.mark Pa Z.parts La Z.pr.nlast;show AQ xsc (λ M7 A outer st H vs Q E hr h=>?_);obtain⟨p,co,ck,gA,wt,a,T,G,W,r,rest,Rs,j0,bg,rfl,hR,hT,Oi,hN,op,ha,hl9,k⟩:=h;obtain⟨n1,n2,n3,n4,n5,n6⟩:=hR.ne;show yj dx hp hw hR;have NA:Bv:=UF;have Ql:oS:=UF;show Wp (u5 (pd Α PP) (ac (zF (wK Α) (aB (xBl Ma (xgL Ma.F Z) Ql)))
  (Fc 2 xsc.nd (xvo xET (xBl Pa (xfq Pa.F Z) hr) d5) (zF xET (aB (sh (rc La Z.pr) NA La Α aj))) Ty))) (o9 ⟨_,rfl,p,Ce,dx,_,_,rfl,hp,T0.cl,T0.nW,wj,_,rfl,wt,a,_,_,rfl,rfl,hw,ha,bG (by rw [<-FD,<-FV,Fy];exact hl9),xV7⟩)
 rw [<-FV];have hre:=op.re rfl;rw [<-FJ] at hre;generalize W++r=Y at*;have s1:=Az sj X9;have OV:DO l1:=DH hp X9;show Z1 ⟨_,rfl,p,Ce,dx,_,rfl,zd,T0.cl,T0.nW,RH,Aa⟩ g;rw [xut];have OY:∀c o,W1=IO->Γ->om sj l1 bg false c=IO:=λ c o e n=>xAC D4
 have NX:om sj l1 bg false p=dE Ce (xys l1 bg false):=ad;show DR hw1 (om sj l1 bg false l1=Φ sj) (xIm OV) (om sj l1 bg false) H1;have Yq:=xJY OY;have nn:∀{c} {H2:Hp},(∀c o,W1=IO->Γ->yf=IO)->(∃o,H2 p=IO)->WF yf->UU:=λ {c H2} kp ⟨o,h⟩ n=>by
  cases e:W1 with
  |none=>rfl
  |some o=>
   by_cases z:c=p
   ·show B0 h n n
   ·show Μ (Ry z) n n
 show Wp (xLE g) ((λ(J:∀bg (wt:MV) (Y:List Nat) (H2:Hp),H wt=none->xxX Ce CO CK H2 p co ck gA wt (T.take (64*j0)) j0 G Y bg false->(bg=true->Y++rest=rem T Rs j0)->(bg=false->j0=0/\Y.length<3/\Y++rest=mk3++rem T Rs 0)->(∀c o,H c=some o->c≠p->H2 c=some o)->R2 [some (.ref p),some (.ref a),none] H2)=>?_) (λ bg wt Y H2 nwt Oe N8 Xi Sl=>Aa))
 ·cases bg with
  |true=>exact⟨_,rfl,p,Ce,dx,_,_,rfl,NX,T0.cl,T0.nB,dX,true,rfl,aV (J true l1 Y H1 X9 (Dp NX Yq hw1) (λ _=>hre) nofun OY)⟩
  |false=>
   obtain⟨ej,_,_⟩:=op.b0 rfl;show Wp ⟨_,rfl,p,Ce,dx,_,_,rfl,NX,T0.cl,T0.nB,dX,false,rfl,Wl⟩ ⟨_,rfl,p,dx,_,rfl,NX,wk,p,co,ck,_,l1,_,j0,G,Y,rfl,Dp NX Yq hw1,xcB hre,τ h3 H2 s2,λ Y' wt2 H2 nw2 e Oe Sl=>?_⟩
   ·exact J false l1 Y H2 X9 (Dp (C7 NX) (Yq.keep λ c o e _=>jQ) (C7 hw1)) nofun (λ _=>⟨ej,h3,hre⟩) λ c o e n=>C7 (xq e n)
   ·show Fs (J true wt2 Y' H2 (nn OY (Bt NX) nw2) Oe (λ _=>by show LT ej (List.append_cancel_left (as:=mk3) hre)) nofun λ c o e n=>y8 (xq e n) n)
 clear g;show DG TL NB Oe.ob (aq (SC R3 g))
 refine(λ(J:∀(l:MV) (j:Nat) (fn bg':Bool) (g' Pq:MV) (G' W':List Nat) (H':Hp),H l=none->Nws H gA l g' Pq->H' l=some (.lst (((T.take (64*j)).drop (64*j0)).map vN))->xxX Ce CO CK H' p co ck g' Pq (T.take (64*j)) j G' W' bg' fn->Op T Rs bg' fn j G' W' rest->j0≤j->(∀c o,H c=some o->c≠p->c≠co->c≠ck->H' c=some o)->R3 [some (.ref p),some (.ref a),some (.ref l)] H')=>?_) (λ l j fn bg' g' Pq G' W' H' nl X7 hl Uh op' hj fr=>Aa)
 ·cases bg with
  |true=>exact⟨_,rfl,p,Ce,TL,_,_,rfl,NB,T0.cl,T0.nB,dX,true,rfl,cy ⟨_,rfl,p,TL,_,rfl,NB,wk,p,co,ck,_,wt,T,Y,G,rest,Rs,j0,rfl,Oe,hT,Oi,hN,op.jn,op.gw,N8 rfl,λ l j fn g3 wt3 G3 W3 H3 nl X7 hl Ox op3 hj fr=>J l j fn true g3 wt3 G3 W3 H3 (nn Sl xTT nl) ⟨X7.g.imp_right (nn Sl xTT),X7.lg,nn Sl xTT X7.w,X7.lw⟩ hl Ox op3 hj λ c o e a1 a2 a3=>xGl (y8 e a1) a1 a2 a3⟩⟩
  |false=>
   show Bq ej h3 hb (Xi rfl) ⟨_,rfl,p,Ce,TL,_,_,rfl,NB,T0.cl,T0.nB,dX,false,rfl,aV (Bh Z9 l nl)⟩;have s3:=xG2;show p9 (J l j0 false false _ wt G Y _ (nn Sl xTT nl) ⟨Dm,EW Oe.cr.gr,nwt,EW Oe.ws⟩ ?_ (qT TL (Cn NB) (Oe.cr.keep λ c o e _=>Cn e) (Cn Oe.ws)) ⟨op.jn,op.gw,λ _=>hb,λ _=>lM ej h3,nofun,nofun⟩ UV λ c o e a1 _ _=>Cn (y8 e a1)) (AI (pA j0 (64*j0)) [] (HB (by show UK DN))) ad
 clear g;show xHZ PK N1 Uh.ob last (qb j fn bg' g' Pq G' W' H' nl X7 hl Uh op' hj fr);cases fn with
 |false=>exact⟨_,rfl,p,Ce,PK,_,_,rfl,N1,T0.cl,T0.nF,xi,false,rfl,xFI last⟩
 |true=>
  have hw':=Uh.ws;show ρ (A4 (op'.fi rfl)) hw' ⟨_,rfl,p,Ce,PK,_,_,rfl,N1,T0.cl,T0.nF,xi,true,rfl,cy ⟨_,rfl,p,Ce,PK,_,_,rfl,N1,T0.cl,T0.nW,wj,Pq,rfl,hw',_,rfl,last⟩⟩
def xvK (Cp Ce CO CK:MV)(N:Wk)(H:Hp)(p:MV)(T:Id)(Rs:CA)(fn:Bool)(j:Nat)(rest:Id):Prop:=∃dx r co ck g wt G W bg,CI=dE Cp cx/\N r/\N co/\N ck/\N g/\N wt/\xQE H r co ck g wt Ws j G W bg fn/\xPR fn j G W rest
def xvK.keep {rest:Id}(h:Ze N H fn j)(s:∀c o,W1=IO->c=p\/N c->AE=IO):Ze N H' fn j:=by
 obtain⟨dx,r,co,ck,g,wt,G,W,bg,h0,h1,h2,h3,h4,h5,⟨⟨dr,hr⟩,hC,hw⟩,op⟩:=h;obtain⟨⟨_,c1⟩,⟨_,c2⟩,c3,c4⟩:=hC;exact⟨dx,r,co,ck,g,wt,G,W,bg,E6 h0 Dm,h1,h2,h3,h4,h5,qT dr (yw hr h1) ⟨Bt (yw c1 h2),Bt (yw c2 h3),yw c3 h4,c4⟩ (yw hw h5),op⟩
def xvK.mono {rest:Id}(h:Ze N H fn j)(s:∀c o,W1=IO->(∀ps,o≠ jg)->N c->N' c):Ze N' H fn j:=by
 obtain⟨dx,r,co,ck,g,wt,G,W,bg,h0,h1,h2,h3,h4,h5,⟨⟨dr,hr⟩,hC,hw⟩,op⟩:=h;obtain⟨⟨_,c1⟩,⟨_,c2⟩,c3,c4⟩:=id hC;exact⟨dx,r,co,ck,g,wt,G,W,bg,h0,xLV hr h1,xLV c1 h2,xLV c2 h3,xLV c3 h4,xLV hw h5,qT dr hr hC hw,op⟩
def Op.done (h:xPR fn j G W [])(hN:vX):xGQ/\j=Bn:=by
 cases fn with
 |true=>exact qN (h.fi rfl).1
 |false=>
  exfalso;show Ay e (yt (h.re rfl)) GU e;cases bg with
  |false=>
   have:=CJ x0P;rw [NZ,FD] at e;have:mk3.length=3:=rfl;lia
  |true=>
   have:=x3U;rw [AD] at e;show CM j Rs.length z z
   ·obtain⟨e1,e2⟩:=xwf z;rw [e1,FD] at e;show jC e2 (WT [_,_,_] (lF Θ) DD (xEK this))
   ·obtain⟨e1,e2⟩:=xyb z;rw [e1] at e;show jC e2 (WT [_,_] (Aw On) P3 (Vt xu2))
def xsR.one (hN:vX)(hb:wm)(h:bK m):xTq Rs[m]/\El Rs[m] 69:=by
 have pb:=hN.2 m _ (FL h);have tw:=xwV (i:=m) (by rw [xOz] at h;unfold nB at h;exact(Bu [_,_,_] (Qv On zv) (xOO xEV) xMB Os (Wu h) jI)) hb;refine xXb xRv.2;obtain⟨i,ps,Rb,_,_,_,e,_⟩:=xLr;rw [e,xv1];exact MS 1 _
def Op.wl {rest:Id}(h:xPR false j G W rest)(hN:vX)(hb:wm):xQt 69:=by
 cases bg with
 |false=>show AY (CJ x0P) (UB 3 LE 69 this)
 |true=>
  have:=x3U;show CM j Rs.length z z
  ·rw [(xwf z).2] at this;have:=(hN.one hb z).2;lia
  ·show jC (xyb z).2 (xNp this (show 11≤69 by decide))
inductive xi6 (Cp Ce CO CK:MV) (vs:NE) (H:Hp) (Q:VK) (Nf:XK):Prop
 |mk (p dx:MV) (h0:vs=Bf) (h1:CI=dE Cp []) (h2:Ft ((∀T Rs,xED (λ c=>UU) H' false 0 oH)->Fu (∀c o,W1=IO->Γ->AE=IO))):xi6 Cp Ce CO CK vs H Q Nf
def xha:bS xtv:=Sc
def xq2 (F:x62 xtv)(Z:wZ)(O:RM):zC 8 (xi6 Cp Ce CO CK):=by
 show xV9;show AQ xha (λ M7 A outer st H vs Q E hr h=>?_);show dD p dx hp k h;refine lE (V7 (iW (xmB FI Z.tt Z.pr.R) hr Z7 Z.tt.m bI a7));intro x dk nx Vw nek;have s0:=xB3 Ce;refine Dx x dk (λ co ck g wt H1 nco VZ ng nw hR OY=>DY);have s1:mE:=λ b o e=>OY b o xu SP
 have NX:=zd;refine⟨_,rfl,p,Cp,dx,[],rfl,NX,O.cl,O.nR,Z9,?_⟩;rw [xtE];show yj PN T7 hw hR;have kp:∀c o,xCk=IO->Γ->(Tj H1 p Cp (xws x)) c=IO:=λ c o e n=>xJn
 have ne:∀{c},UU->Γ:=λ n z=>by show B0 hp n n
 have hq:∀{xs:NE} {c},xCk=Ar->Γ:=λ e=>cD NX (by show Τ)
 have nco:=EF nco;have VZ:=EF VZ;exact iE (λ T Rs=>⟨dx,x,co,ck,g,wt,[],[],false,ad,nx,nco,VZ,EF ng,EF nw,qT PN (B1 T7 (ne nx)) (hC.off kp (ne nco) (ne VZ) (hq hC.gr)) (B1 hw (hq hw)),⟨AM,E2,E2,λ _=>Wr rfl Z9,nofun,nofun⟩⟩) λ c o e n=>B1 D4 n
inductive xqq (Cp Ce CO CK:MV) (vs:NE) (H:Hp) (Q:VK) (Nf:XK):Prop
 |mk (p a:MV) (N:Wk) (T r rest:Id) (Rs:CA) (j:Nat) (h0:vs=we) (h1:xXa false j (oJ r)) (h2:wm) (h3:W5) (h4:vX) (h5:XL=gR) (h6:Eg r) (h7:xD3) (h8:∀l j' fn H',Ξ->AL=cU j' (64*j)->Ze (λ c=>UU/\sk) H' fn j'->j≤j'->(∀c o,W1=IO->Γ->AE=IO)->AS):xqq Cp Ce CO CK vs H Q Nf
def Oa:Uf ["self","row","come","trial","signs"] Jah xr5:=Sc
def xpU (F:Aj "feed" "Opener.feed" xr5)(Z:wZ)(O:RM):AH 43 Jah (xqq Cp Ce CO CK):=by
 have T0:=Z.tt;show vO N' Z.pr.H.need Tw Z.twin Th Z.thru;show AQ Oa (λ M7 A outer st H vs Q E hr h=>?_);obtain⟨p,a,N,T,r,rest,Rs,j,rfl,⟨dx,r0,co,ck,g,wt,G,W,bg,hp,_,_,_,_,_,⟨⟨dr,TC⟩,hC,hw⟩,op⟩,hT,Oi,hN,ha,hb,hl9,k⟩:=h;have Ua:xIr:=UF;have hr8:ED 8:=UF;show yy (Cg 2 Oa.nd (BI (ok_needrow N' Z.pr.H.N) Ua N'.m N'.F.kp N'.b m8) (Zq 3 Oa.nd (xQK Α Tw (xlX Tw.F Z) hr8) 4 Oa.nd (xNi π Th (xf4 Th.F Z) hr Rl) (V7 π) Ν)) (ZW a _ ha hb xV7);have s1:=Az yl X9;have ON:Du H l1 yl l1=gR:=ad;show EI H l1 yl H1 ⟨_,rfl,p,Cp,dx,_,_,rfl,zd,O.cl,O.nR,xre _,r0,dr,_,rfl,Ec TC,wk,r0,co,ck,g,wt,_,j,G,W,bg,false,rfl,qT dr (Ec TC) (iZ c o e D4) xFK,λ q V6 ck2 g2 wt2 H2 nq no nk ng nw Oe s2=>?_⟩;show xHZ dq hq Oe.ob s2' dn;have Yd:=op.wl hN hT;refine⟨_,rfl,q,dq,_,rfl,hq,wk,_,rfl,q,V6,ck2,g2,wt2,l1,T,G,W,r,rest,Rs,j,bg,rfl,Oe,hT,Oi,hN,op,C7 ON,by show mQ (ow [_,_] 1 LE (Y6 1900 69) P3 hl9 Yd),λ l3 j3 fn bg3 g3 wt3 G3 W3 H3 nl3 X7 Ou Ox op3 hj SE=>?_⟩;have kp:∀c o,W1=IO->x3=IO:=λ c o e=>BZ (s2' _ _ e) (ae D4 nq) (ae D4 no) (ae D4 nk)
 have YH:=B1 hp;refine⟨_,rfl,_,rfl,p,Cp,dx,_,rfl,YH,O.cl,O.nR,(by show qc),?_⟩;rw [xh1];have ne:∀{c},vz c->Γ:=λ n z=>by show B0 zd n n
 have NJ:∀c o,x3=IO->Γ->(Tj H3 p Cp (xws q)) c=IO:=λ c o e n=>xJn
 have Sr:∀{xs:NE} {c},x3=Ar->Γ:=λ e=>cD YH (by show Τ)
 obtain⟨⟨PK,hx3⟩,TK,XN⟩:=Ox;have ng3:A1 g3:=by
  show Ed X7.g
  ·show LT z (vK ng)
  ·exact xLs z
 show iz c1 TK.ob c2 TK.ch;have li:∀{c} {C D:MV} {fs},x3=Tu C D fs->EC l3:=λ e=>(aF Ou e (by show Τ)).symm
 exact Υ (k l3 j3 fn _ (xLs nl3) (Cz Ou (Sr Ou)) ⟨dx,q,V6,ck2,g3,wt3,G3,W3,bg3,ad,xHL nq hx3,xHL no c1,xHL nk c2,⟨ng3,X7.lg.symm⟩,⟨xLs X7.w,X7.lw.symm⟩,qT PK (Cz hx3 (ne nq)) (TK.off NJ (ne no) (ne nk) (Sr TK.gr)) (Cz XN (Sr XN)),op3⟩ hj λ c o e n=>Cz Ry n)
inductive xi7 (Cp Ce CO CK:MV) (vs:NE) (H:Hp) (Q:VK) (Nf:XK):Prop
 |mk (p:MV) (N:Wk) (T rest:Id) (Rs:CA) (j:Nat) (fn:Bool) (h0:vs=Bf) (h1:Ze N H fn j) (h3:xv fn):xi7 Cp Ce CO CK vs H Q Nf
def zn:bS xtw:=Sc
def xs4 (F:Aj "over" "Opener.over" xtw)(T:xHt)(O:RM):ya (xi7 Cp Ce CO CK):=by
 show AQ zn (λ M7 A outer st H vs Q E hr h=>?_);obtain⟨p,N,T',rest,Rs,j,fn,rfl,⟨dx,r,co,ck,g,wt,G,W,bg,hp,_,_,_,_,_,hR,_⟩,k⟩:=h;show De dr TC hR.ob ⟨_,f9 (xsP Α rfl),_,rfl,p,Cp,dx,_,_,rfl,hp,O.cl,O.nR,xre _,r,Ce,dr,_,_,rfl,TC,T.cl,T.nF,xi,k⟩
inductive xkJ (Cp Ce CO CK:MV) (vs:NE) (H:Hp) (Q:VK) (Nf:XK):Prop
 |mk (p:MV) (N:Wk) (T rest:Id) (Rs:CA) (j:Nat) (h0:vs=Bf) (h1:Ze N H true j) (h3:Yv):xkJ Cp Ce CO CK vs H Q Nf
def xok:bS xxx:=Sc
def xhv (F:Aj "finish" "Opener.finish" xxx)(T:xHt)(O:RM):zC 2 (xkJ Cp Ce CO CK):=by
 show xDz Ov O.over xok (λ M7 A outer st H vs Q E hr h=>?_);obtain⟨p,N,T',rest,Rs,j,rfl,ho,k⟩:=h;show vi dx hp ho;refine lE (lB (bw SZ O.cl Ov (xs4 (CO:=CO) (CK:=CK) Ov.F T O) hr));exact⟨_,rfl,p,dx,_,rfl,hp,D8,p,N,T',rest,Rs,j,true,rfl,ho,_,rfl,xIa⟩
inductive xle (vs:NE) (H:Hp) (Q:VK) (Nf:XK):Prop
 |mk (a:MV) (T Y:Id) (h0:vs=CV) (h1:wm) (h2:W5) (h3:xw3 T Y) (h4:XL=Φ sj) (h5:∀l H',Ξ->AL=EX->Ι->AS):xle vs H Q Nf
def xwE:Uf ["row","opener","text"] Jal xwi:=Sc
theorem xsR.facts (hb:wm)(hl:W5)(h:vX):(Eg (xD7 xt))/\xY0 1300:=by
 have hf:∀j (hj:bK j),QM Rs[j]/\El Rs[j] 69:=λ j hj=>(fG j _ (FL hj)).facts (xwV (by rw [DJ] at hj;unfold nB at hj;exact(Bu [_,_,_] (Qv On zv) (xOO xEV) xMB Os (Wu hj) jI)) hb)
 have NC:∀R∈Rs,xIK/\xEC 69:=λ R hR=>by
  show B8 j hj rfl (List.getElem_of_mem hR) (hf j hj)
 refine Fh xQl
 ·show Ed (xQM hx)
  ·show B8 R hR hx (List.mem_flatten.1 z) ((NC R hR).1 x hx)
  ·refine xnZ (SC b Ow) x z;show EM Ow Ow Ow
   ·show EM Ow Ow Ow
    ·exact xwq Z9 Z9 b Ow
    ·exact xpb _ b Ow
   ·exact xwl xOy b Ow
 ·have h1:∀L:CA,(∀R∈L,xEC 69)->L.flatten.length≤69*L.length:=λ L=>by
   induction L with
   |nil=>exact λ _=>AM
   |cons R L ih=>
    intro h;have:=ih λ R' Uh=>QC R' Uh
    have:=aw R;rw [HJ,FD,F2];lia
  have:=h1 Rs λ R hR=>(NC R hR).2
  have h2:=DJ;unfold nB at h2;exact(BF 64 [_,_,_,_] (WJ 69 (xEh (VM 4416 (.m 69 xMA)))) (zD 69 1000 (Qv (pN 69) (Tv 4416 (.m 69 xEV)))) (.n 1300) (Bb (FE 69 hl) (Wu this) (Fx (Es 4416 h2) (FE 69 jI))))
def xgG (F:Ζ "opened" xwi Jal)(Z:wZ)(O:RM):AH 44 Jal xle:=by
 show Dd O.init;show ZV Fe O.feed Fi O.fin;show Al xwE (λ M7 A outer st H vs Q E hr h=>?_);obtain⟨a,T,Y,rfl,hT,Oi,hW,ha,k⟩:=h;show Vf Rs hN hW.all;show S8 hb hl9 (hN.facts hT Oi) XO (ED 9) UF;have Ql:oS:=UF;refine ju 1 xwE.nd (iW (xq2 FI Z O) XO Z7 O.m bI a7) (Fc 2 xwE.nd (bo PP O.cl Fe (xpU Fe.F Z O) hr Ew) (aB (bw PP O.cl Fi (xhv (CO:=CO) (CK:=CK) Fi.F Z.tt O) Ql)) Ty)
 intro p dp np T4 Ya;have s0:=xJW Cp;refine Dx p dp (λ H1 ho OY=>DY);have s1:mE:=λ b o e=>OY b o xu m6
 have ho:=ho T Rs;show vi dx hp ho;refine⟨_,rfl,p,dx,_,rfl,hp,D8,_,rfl,p,a,_,T,_,[],Rs,0,rfl,xTd oH▸ho,hT,Oi,hN,gO,xQl,?_,λ l j fn H2 nl hl V2 _ fr=>?_⟩
 ·show Ed (xQM (jr x (mk3++(xD7 xt)) hx))
  ·exact(by decide:Eg mk3) x z
  ·exact iY z
 ·show xK2 (Vg Rs.flatten xt+3);rw [FD];show xK2 (_+11+3);exact(P9 1300 (CF (D7 11) 3) 1900 hl9)
 show xX7 TL NB op V2;show WY (op.done hN);show ρ (AI (pA Bn (64*0)) T (Gh (by show wU nB (BX xUj xE0 LE U0 zK)))) hl ⟨_,rfl,p,TL,_,rfl,NB,D8,p,_,T,_,Rs,_,rfl,V2,_,rfl,xPk (vK nl) hl λ c o e=>xGl D4 m6⟩
universe K25.Ck
namespace K25.Ck
open PySem L2 QQ
seal PE PA PS PSs PT PW PG PI
abbrev xua:M5:=top 132
abbrev xyf:M5:=top 133
inductive xnn (K:Frag) (vs:NE) (H:Hp) (Q:VK) (Nf:XK):Prop
 |mk (a:MV) (ns:wd) (k:Nat) (h0:vs=[ω,vN k]) (h1:xCP a U7) (h2:Zv (ns.getD k 0)):xnn K vs H Q Nf
def xbD:Uf xLk xLk xua:=Sc
def xg3 (F:Ζ "_law_cell_at" xua xLk)(X:wq):fV xLk (xnn K):=by
 show Al xbD (λ M7 A outer st H vs Q E hr h=>?_);show iP a ns k rfl hS q;show E9 (xBy (CZ dZ PP (vJ SZ)) (TP PP) xMr) ⟨_,rfl,_,rfl,a,_,rfl,.inl hS,_,_,rfl,rfl,_,rfl,?_⟩ Za
 ·have h2:xMi k:=by show wB OQ Fy xzk
  refine⟨_,rfl,_,rfl,a,_,_,V.int (ns.getD k 0),rfl,rfl,hS,aD ?_,q⟩;rw [Gs,FL h2,Gu,FL h2];rfl
 ·have PJ:vB lR (yi U7)≠true:=h1;have h2:xLO k:=by
   rw [Fy] at PJ;by_cases h:lR<x8w
   ·show Wv h PJ
   ·exact Mp.mp (xZi h)
  try dsimp only
  rw [Gu,GZ h2] at q;exact q
def xrK (c k:Int):Int:=((c*48271+16807*k*k+69621*k+11)%2147483647*69621)%2147483629
def mixN (c k:Int):Nat:=(xrK c k).toNat
def xbb (c k):Ε x3V=xrK c k:=Int.toNat_of_nonneg (x50 Z9)
inductive xkn (vs:NE) (H:Hp) (Q:VK) (Nf:XK):Prop
 |mk (c k:Int) (h0:vs=[xLS,xWq]) (h1:0≤k) (h2:kM k) (h3:uq x3V):xkn vs H Q Nf
def xg0:Uf xDB xDB xyf:=Sc
def xol (F:Ζ "_law_mixed" xyf xDB):fV xDB xkn:=by
 show Al xg0 (λ M7 A outer st H vs Q E hr h=>?_);show Zj c k h0 h1 q;show E9 (XC (ji (pW xx6 (ji (pW xqU (E8 (E8 (xIO xx6) (ap xx6 (xBr PP) PP)) (xBr PP))))))) ⟨_,rfl,_,_,rfl,rfl,.inr cN,_,rfl,_,_,rfl,rfl,xM2,_,rfl,_,_,rfl,rfl,qG Z5 Z5,_,_,rfl,rfl,?_⟩ ⟨_,rfl,_,_,rfl,rfl,xM2,_,_,rfl,rfl,_,_,rfl,rfl,_,_,rfl,rfl,(by show sf 2147483647),_,_,rfl,rfl,.inr cN,_,_,rfl,rfl,(by show sf 2147483629),?_⟩
 try dsimp only
 show ρ (AI (vN x3V:V) (V.int (xrK c k)) (xRl (xbb c k))) q q
universe K25.Ck
namespace K25.Ck
open PySem L2 QQ W17 W16 BP
seal PE PA PS PSs PT PW PG PI
abbrev xsy:M5:=top 135
def xoC (xs)(h:xJq):ky xs (some zU) AA=oM (xs.drop m) n m:=by
 show dR;rw [HT.Oh,HT.Oh];rcases Mq m xs.length with h1|h1
 ·rw [G2 h1];rcases Mq n xs.length with h2|h2
  ·rw [G2 h2]
  ·rw [HY h2,Gh (by show zw UV),Gh (by show zw (Jb h2 _))]
 ·rw [HY h1,HY (FK h1 h),HB h1,LH];simp
def xoj (hx:xDy x ([xFd,yJ k,x8i z,xFT y]:xu4) .cell\/xDy x ([xFd,yJ k,x8i z,xFT y]:xu4) .free):x=y:=by
 rcases hx with hx|hx
 ·have m':=dv;show xXp
 ·have m':=dv;simp at m'
def xhT:xE x0q:=Z8
inductive xjj (v:V) (H:Hp) (l:MV) (p:Nat) (ys:NE) (σ:St) (H2:Hp):Prop
 |mk (v0:BV) (S:Id) (h0:σ=[v0,wA]) (h1:ys=WV) (h2:xFl p) (h3:QM S) (h4:RZ=gm) (h5:SR):xjj v H l p ys σ H2
def xon {te:TE}{σ0:St}{R:MV->lI}(hk:kM k)(h0:σ0=[none,wA])(hte:pk j H' Hp Q VK (kM j->Ι->(∀b,xCg->Fj fb)->te [Χ j,wA] H' Q))(mt:∀σ H (A B:VK),(∀v H',sJ->sG)->xI9->xJa)
  (h:tU l MV S Id Hp (Ξ->Ι->AL=zW->xFl k->QM S->R l H')):∀l,Ξ->∃W:uw,(∃m,W 0 m [] σ0 xAP)/\∀i m ys σ' H',cq->
   (xIY (Xo 0 k)/\R l H')\/(xJm (Xo 0 k)/\∀x H2,xJb (Xo 0 k) x H2->UT x σ' H2 λ σ3 H3=>xBj λ y H4=>
    yh=gm/\EG/\Fq (m'<m/\Dl)):=λ l nl=>by
 subst h0;refine xlU (g:=UT) (te:=te) (lo:=0) (l:=l) (k:=k) (xjj v H l)
  (Fb none [] rfl rfl (jJ h h) ad P6) ?_ ?_ (λ x σ H A B h z=>tN) mt
 ·rintro p ys σ H2 hp ⟨v0,S,rfl,rfl,hl,hb,h2,sm⟩;have e:Gl+uI=uI:=Int.zero_add ↑_;show Η e (hte p H2 _ (xNp hp hk) sm λ b Ow=>⟨h2,bx (by show Ai (ow [_,_,_] 1 (pO LE) (w6 Θ) LE hk (d8 hp hl))),_,S++BH,rfl,by show Af FV,by rw [FD,hl];rfl,xQl,ad,λ d o e=>by show PH bL⟩)
  show BD hx
  ·exact rD z
  ·show Qe z Ow
 ·rintro ys σ H2 ⟨v0,S,rfl,rfl,hl,hb,h2,sm⟩;exact h l S H2 nl sm h2 hl hb
inductive xkF (vs:NE) (H:Hp) (Q:VK) (Nf:XK):Prop
 |mk (c:Int) (s:Nat) (h0:vs=[xLS,Zx]) (h1:s≤520) (h2:tU l MV T Id Hp (Ι->Ξ->AL=EX->T.length=s->xIL->AS)):xkF vs H Q Nf
def Oc:Uf ["_law_cell","_law_size","_law_text_here","_law_turn","_law_number","_law_way","_law_long","_law_begin"] xQY xsy:=Sc
def xbi (F:Ζ "_law_text" xsy xQY)(Mi:Dv "_law_mixed" xyf xDB fm fdm)(X:wq):gW xQY xkF:=by
 have GM:=xol (P:=P) (w:=w) (base:=base) Mi;show Al Oc (λ M7 A outer st H vs Q E hr h=>?_);show dD c s hs k h;have NA:Bv:=UF;show xCZ;refine ju 2 Oc.nd d5 (Fc 3 Oc.nd aj (zX (tT dZ Ty PP) (Cg 4 Oc.nd (sh GM NA Mi SZ π) (Cg 3 Oc.nd (zk π) (Cg 5 Oc.nd (ji Ν) (pX 6 Oc.nd (E8 aj (Qu Ν)) (xHK xUd (xWv (xNG (Qu Ν) bu)) (xHK xUd (xWv (xpB (N:=x0q) (js:=[none,some 4]) (cl:=[("_law_number",xKO 1)]) (g:=UT) rfl ⟨rfl,Z8,Z8,Z7,λ x c h=>(by show WY (xsB h);rfl),λ x hx=>(by obtain rfl:=xoj hx;exact CY),rfl,λ i x j h1 h2=>?c1⟩ (xBn (Bx bu)) (λ fp s H=>xCp xhT) (λ fp s H=>Qu (sh GM NA Mi PP SZ)))) (xHK xUd (xWv (xpB (N:=x0q) (js:=[none,some 4]) (cl:=[("_law_number",xKO 1)]) (g:=UT) rfl ⟨rfl,Z8,Z8,Z7,λ x c h=>(by show WY (xsB h);rfl),λ x hx=>(by obtain rfl:=xoj hx;exact CY),rfl,λ i x j h1 h2=>?c2⟩ (xBn (Bx bu)) (λ fp s H=>xCp xhT) (λ fp s H=>E8 xUp (Qu (sh GM NA Mi PP SZ))))) (xvx (xUR xUd (CZ fJ Ty d5)) (pX 7 Oc.nd (ap xxB (xBT Ν) (vJ Ty)) (xWv (gk Ty cb (E8 cb bu)))) (af (U9 Ty (Qu Ν)))))))))))) (xBi Ty bU PP))
 case c1=>show uN (xtL h1 h2) (xP8 (λ c h=>h))
 case c2=>show uN (xtL h1 h2) (xP8 (λ c h=>h))
 show DE (eK g1 (jA (BU l0 n0)));show xHQ (Z2 (AG (λ m σ H2=>∃(v4 v5 v6 v7:BV) (l:MV) (A:Id) (t:Nat),m=s-t/\σ=[xCe,Vc,ye,Χ t,v4,v5,v6,v7]/\t≤A.length/\A.length≤s+20/\QM A/\RZ=Φ (A.map vN)/\Ξ/\SR) ⟨s,none,none,none,none,l0,[],0,rfl,rfl,AM,AM,(jJ h h),ad,n0,ak n0⟩))
 rintro m σ H2 ⟨v4,v5,v6,v7,l,A',t,rfl,rfl,ht,hA,hb,hl,nl,sm⟩;refine⟨_,rfl,l,_,rfl,AN hl,_,rfl,_,_,rfl,rfl,_,rfl,?_⟩
 try dsimp only
 show Η Fy Za
 rotate_left
 ·have OO:s≤A'.length:=by
   have:=Ku (Bool.not_eq_true _▸h1);lia
  refine g1 _ _ ⟨_,rfl,_,rfl,_,rfl,l,_,rfl,xL7,SC l2 n2⟩
  try dsimp only
  rw [xvl,<-IP];exact k l2 (A'.take s) _ (sm.trans (ak n2)) (none_of sm n2) ad (by show UK (G2 OO)) λ b Ow=>zP (G9 Ow)
 clear g1;have M8:A'.length<s:=by show AY OQ xzk
 show xZ (Ep (λ σ' H' z=>z)) ⟨_,rfl,_,rfl,c,Ps t,rfl,pS,xO (YY [_,_,_] 1 Dz (Br 520 (CN (Rn 20))) LE hs (Fx ht hA)),A3⟩;show Ff (UJ _ rfl A3);generalize mixN c (Ps t)=n;show Ff (ZW _ _ rfl (by show sf 5) A3);show Ff ⟨_,rfl,_,_,rfl,rfl,cN,_,_,rfl,rfl,(by show sf 20),_,_,rfl,rfl,A3⟩;obtain⟨L,hL1,Ut,eL⟩:∃L,AK L/\L≤20/\E7+rX/5%20=Ps L:=⟨1+n/5%20,Gz 1 (_/5%20),(UB 20 bq 20 xMK),(BJ bq bq bq bq)⟩;have e256:rX/100%256=Ps (n/100%256):=(BJ LE LE LE LE);have hn256:EB (n/100%256):=tW
 try dsimp only
 rw [eL];have J:∀v7 (l2:MV) (S:Id) (H3:Hp),yK 1->xTp 20->QM S->H3 l2=Au (A'++S)->A1 l2->ZC H3->Fq (m'<s-t/\∃(v4 v5 v6 v7':BV) (l':MV) (A2:Id) (t':Nat),m'=s-t'/\[xCe,Vc,TD l2,tG (Ps t+1),yc,tG (rX%5),tG (Ps L),v7]=[xCe,Vc,TD l',Χ t',v4,v5,v6,v7']/\x12 t'/\A2.length≤s+20/\QM A2/\H3 l'=Φ xZI/\A1 l'/\ZC H3):=
  λ v7 l2 S H3 h1 h2 h3 h4 h5 h6=>⟨s-(t+1),xSB (GQ ht M8),_,_,_,v7,l2,A'++S,t+1,rfl,rfl,by show mQ (Fx ht h1),by show mQ (B7 [_,_,_] On Os (Vh 2 20) P3 (Vh 2 20) M8 h2),λ b Ow=>kb Ow zP (h3 b),h4,h5,h6⟩
 have one:wL [n/100%256]:=λ b Ow=>by show Qe Ow hn256
 have fin:∀{v7:BV} {lj:MV} {S:Id} {H3:Hp},dz H3->H3 lj=zW->yK 1->xTp 20->QM S->rCat A8 (.ref lj) H3 λ v H4=>Fq (m'<s-t/\∃(v4 v5 v6 v7':BV) (l':MV) (A2:Id) (t':Nat),m'=s-t'/\[xCe,Vc,wA,tG (Ps t+1),yc,tG (rX%5),tG (Ps L),v7]=[xCe,Vc,TD l',Χ t',v4,v5,v6,v7']/\x12 t'/\A2.length≤s+20/\QM A2/\H4 l'=Φ xZI/\A1 l'/\xOM):=
  λ {v7 lj S H3} s3 h3 h1 h2 hS=>⟨l,lj,_,_,rfl,rfl,Cn hl,h3,bG (by rw [Fy,Fy];exact(ow [_,_,_] 2 P3 (Br 520 (CF (Vh 2 20) 20)) P3 hs (Fx hA h2))),λ l5 n5=>by
   show Bg FV (J v7 l5 S _ h1 h2 hS ad (xL2 xRo) ((xRo).trans (ak n5)))⟩
 refine Wq _ _ EH EH
 ·refine⟨_,rfl,_,rfl,_,_,rfl,rfl,cN,_,_,rfl,rfl,(by show RG xMy),(by show qa),SC l3 n3⟩
  try dsimp only
  rw [e256];have s3:=Az [vN (n/100%256)] n3;refine⟨_,rfl,l3,_,_,rfl,rfl,ad,Ka (2^63) _,Z5,bG (by show 1*_≤_;lia),SC l4 n4⟩
  try dsimp only
  rw [Gr,xoy];have s4:=Ei (List.replicate L (n/100%256)) n4;show p9 (fin xQG ad (by show LT Gy hL1) (by show LT Gy Ut) (SC b Ow)) (List.eq_of_mem_replicate Ow) hn256
 refine Wq _ _ EH EH
 ·refine aN _ _ rfl _ rfl Z5 (xNE Ut) ?_
  try dsimp only
  show Η Gr (xon (v:=Qh) (xU 20 1000 Ut) rfl (λ j H4 Q4 hj _ h4=>?_) ?_ (λ lj S H4 nj s4 h4 Vz hb4=>fin s4 h4 (Ls hL1 Vz.symm) (Iz Vz Ut) hb4))
  ·refine⟨_,rfl,_,rfl,_,_,rfl,vY,xO (xU 1000 1000 hj),_,_,rfl,rfl,cN,_,_,rfl,rfl,(by show RG xMy),?_⟩
   try dsimp only
   show LT (AI (Ps xWb/7%256) (Ps (xWb/7%256)) (JG (x43 rfl))) (h4 _ tW)
  ·rintro σ H A B h ⟨v,e1,v2,e2,c',k',e5,e6,e7,i,j,f1,f2,f3,i2,j2,f4,f5,f6,z⟩;exact⟨v,e1,v2,e2,c',k',e5,e6,e7,i,j,f1,f2,f3,i2,j2,f4,f5,f6,tN⟩
 refine Wq _ _ EH EH
 ·refine aN _ _ rfl _ rfl (Ka (2^62) _) (xNE Ut) ?_
  try dsimp only
  show Η Gr (xon (v:=Qh) (gQ Ut) rfl (λ j H4 Q4 hj _ h4=>?_) ?_ (λ lj S H4 nj s4 h4 Vz hb4=>fin s4 h4 (Ls hL1 Vz.symm) (Iz Vz Ut) hb4))
  ·refine⟨_,rfl,_,_,rfl,rfl,cN,_,_,rfl,rfl,(by show sf 250),_,rfl,_,rfl,_,_,rfl,vY,MQ rfl rfl hj,_,_,rfl,rfl,cN,_,_,rfl,rfl,(by show sf 3),_,_,rfl,rfl,?_⟩
   try dsimp only
   show LT (show rX/100%250+Ps xWb/7%3=Ps (n/100%250+xWb/7%3) by exact(Tz [_,_] P3 P3 [_,_] P3 P3)) (h4 _ (B7 [_,_] On Ψ (Y6 250 3) qH xEF xMK xMK))
  ·rintro σ H A B h ⟨v,e1,i,j,f1,f2,f3,i2,j2,f4,f5,f6,v3,e3,v2,e2,c',k',e5,e6,e7,i3,j3,g1,g2,g3,i4,j4,g4,g5,g6,i5,j5,g7,g8,z⟩;exact⟨v,e1,i,j,f1,f2,f3,i2,j2,f4,f5,f6,v3,e3,v2,e2,c',k',e5,e6,e7,i3,j3,g1,g2,g3,i4,j4,g4,g5,g6,i5,j5,g7,g8,tN⟩
 have app:∀{v7:BV} {H3:Hp},dz H3->xqk A8 [vN (n/100%256)] H3 λ v H4=>Fq (m'<s-t/\∃(v4 v5 v6 v7':BV) (l':MV) (A2:Id) (t':Nat),m'=s-t'/\[xCe,Vc,ye,tG (Ps t+1),yc,tG (rX%5),tG (Ps L),v7]=[xCe,Vc,TD l',Χ t',v4,v5,v6,v7']/\x12 t'/\A2.length≤s+20/\QM A2/\H4 l'=Φ xZI/\A1 l'/\xOM):=λ {v7 H3} s3=>Fb l _ _ rfl (Cn hl) (bx (by show Ai (ow [_,_] 1 LE (Br 520 (Rn 20)) LE hs hA))) (J v7 l [n/100%256] _ UV (by show RG (AK 20)) one (by rw [ad,FV];rfl) nl λ e o z=>by show Ez z nl (Cn (yA z)))
 refine Wq _ _ EH EH
 rotate_left
 ·refine aV ⟨_,rfl,oI hl,_,rfl,_,_,rfl,rfl,cN,_,_,rfl,rfl,(by show RG xMy),?_⟩
  try dsimp only
  show LT e256 (app x0d)
 ·refine oC Z9 (λ le ne=>⟨l,le,A'.map xBV,[],rfl,rfl,?_,OM,_,rfl,qR h h⟩)
  ·show xND gL (ak ne _ _ hl)
  ·have hA0:0<A'.length:=by
    cases A' with
    |nil=>show DK
    |cons _ _=>exact xD4
   have s3:=zi ne;have Ou:=Cn hl;show EI H2 le [] H3 (Z2 ⟨_,rfl,_,_,rfl,rfl,cN,_,rfl,l,_,rfl,AN Ou,_,_,rfl,rfl,(by show Gl<zB (A'.map vN);show Ai (LY.mpr hA0)),A3⟩)
   clear g1;have Ug:n/100%A'.length<A'.length:=xEb hA0;have ebe:rX/100%zB (A'.map vN)=Ps (n/100%A'.length):=by rw [Fy,Int.natCast_emod,Int.natCast_ediv];rfl
   try dsimp only
   rw [ebe];generalize n/100%A'.length=be at*;refine⟨_,rfl,_,rfl,_,rfl,_,rfl,_,rfl,_,rfl,_,_,rfl,rfl,_,rfl,l,_,rfl,Ng.of Ou,SC lc nc⟩
   try dsimp only
   rw [AI (Ps be+Ps L) (Ps (be+L)) (x5b _),xoC _ Z5,AI (be+L-be) L (xIc _),<-IN,<-IP];exact fin (s3.trans (ak nc)) ad (by rw [FW,FU];exact xZm ⟨hL1,Kb Ug⟩) (by show UK (FK DN Ut)) λ b Ow=>zP (G8 (G9 Ow))
  ·refine⟨_,rfl,oI (ak ne _ _ hl),_,rfl,_,_,rfl,rfl,cN,_,_,rfl,rfl,(by show RG xMy),?_⟩
   try dsimp only
   show LT e256 (app (ak ne))
universe K25.Ck
namespace L2
open PySem PySem.Spec PyProof.Rows QQ
theorem xac {X:Cx}{x:Str}{nm:Option Str}{D0:MV}{b:yg}{W:MV->lI}{xwQ:W8 MV}{np Pf pos:Pos}{M6:χ}{σ:St}{H:Hp}{s:MX}{D:Ends}{body:yg}{tb:TS}(hg:tR)(hm:W0=TD D0)(hD:xU0 D0)(OR:X.stack=xNb)(XW:xRr)(hX:X.ex=[])
    (hb:xFg (xxj X Yy σ λ cls _ H'=>∃C,cls=Ap/\xU0 C/\C≠D0/\xzE X.K C x0R/\∀e vs,WF (H' e)->W e (upd H' e (xBX e))) tb) (I:ST) (h:tb D σ H)
    (k:∀ea G3 H3 s5,jS xWz H3 s5->(∀σ6 H6 s6,xyi xWz σ6 H6 s6->eu σ6 H6 s6)->W ea H3->xwQ ea s5)
    (kk:∀ea s,(∀E',xKd (xZV ea) (setFlight dN none) (λ _ s1=>xwQ ea s1) E' s)->xSz (xZV ea) (.handlers dN [.ExceptHandler none nm b Pf] X.env) (λ r s₂=>match r with
      | .ok f=>(match nm with
        |none=>xJs s₂
        |some n=>pI (do x7a n .none;x4O n Pf) (λ _ s₃=>xJs s₃) s₂)
      | .error x=>cameBackBy xyX X.A X.env X.xe x s₂) s) (hd:Ρ x6m):
    yN (x2X (xSV [x5s (xC9 np) nm b Pf] [] [] pos)) xF2:=by
  refine xbs OR XW hX hb I h ?_
  rintro ea T _ c H' s1 vs ts oT-bk bn ⟨C,rfl,cC,OZ,hmro,q⟩ F' I2 nE nT ge z2-neT- - -
  show rm q (q ea vs nE.h) G I2' bk0 unk (I2.ready ⟨bk,bn⟩)
  have nE':xxJ (xL8 G) M6 H' ea:=⟨nE.s0,nE.h,nE.loc,nE.cel,nE.pin⟩
  have I3:=I2'.hand nE' ge z2 bk0
  have uh:∀σ6 H6 s6,xyi (xDO ea (upd G ea (xBX ea))) σ6 H6 s6->eu σ6 H6 s6:=λ _ _ _ z=>unk _ _ _ (Inv.unhand I2' nE' z)
  generalize hG3:upd G ea (xBX ea)=G3 at*
  generalize Yp:upd H' ea (xBX ea)=H3 at*
  refine wpAny_handleBy_cons (codeAny_handlers_test (xTt I3 ?_ hd)) (by intro q;cases q)
  obtain⟨bm,N,nm,qn,bs,hdct,sn,sub,ab,col,dd,k0,k1,k2,k3,k5,hlC,hcC,_⟩:=xuc cC
  obtain⟨bm',N',nm',qn',bs',hdct',sn',sub',ab',col',dd',j0,j1,j2,j3,j5,hlD,_,hfD⟩:=xuc hD
  have hmem:xRQ (gB C bm) x0R:=by
    unfold mroIn at hmro
    rw [hcC] at hmro
    simpa using hmro
  have T':=(hfD _ I2.kIn).2
  obtain⟨hh1,gg,dr,tk,os1⟩:=s1
  refine xeB (I2.kIn C _ hlC) (I2.kIn D0 _ hlD) ge rfl (T'.hasType Z8) hmem OZ (kk ea _ λ E'=>xe6 F' (τ h4 F4 k4))
  have nT3:xxJ xWz M6 H3 T:=⟨nT.s0,by rw [<-Yp,ai neT];exact nT.h,nT.loc,nT.cel,nT.pin⟩
  have I4:=I3.landed (BA (by rw [Ge] at hb;show LT hb nT3)) (λ b o g hb _=>k4 b o g (zS (by show Nn))) (λ b o g hb=>xLM (k4 b o g (zS (by show Nn)))) (λ b o g=>by
    by_cases hb:b=T
    · obtain⟨o',us,g',_⟩:=F4.rec T Z6
      show A5 o' (by show LT hb g')
    · show A5 o (k4 b o g hb))
  exact k ea G3 H3 _ I4 uh q
def xtx {X:Cx}{x y:Str}{i:Nat}{D0:MV}(hN:X.N.Nodup)(hi:xW1)(hl:xKL y)
  (hg:tR) (hm:W0=TD D0) (hD:xU0 D0) (OR:X.stack=xNb) (XW:xRr) (hX:X.ex=[])
  (hb:∀pn σ0 E,xFg (xxj X pn σ0 E) (tb σ0 E)) (hh:∀e G,PSs (xDO e G) (b₀::suite) th) (hd:sS):
  jw (xSV [x5s (xC9 np) (some y) (b₀::suite) Pf] [] [] pos) (xcf X.K D0 i tb th):=by
 intro M6 s σ H D I h;refine xac (W:=λ e H'=>th (xrG i D) (xQF (TD e)) H') hg hm hD OR XW hX (rD _ _) I h ?_ (λ ea s z=>codeAny_handlers_suite_as (z _)) hd;intro ea G3 H3 s5 I4 uh q;show Wp (xrZ (X:=xWz) (v:=dN) I4 hN hi xSD rfl (SC s5 I5) (.inr hl)) (Z0 (hh ea G3 M6 s5 _ H3 (xrG i D) I5 q) (τ f s6 q6) z xDx)
 cases f with
 |next=>
  show Bj σ6 H6 I6 q7 q6 (xSn (uh _ _ _ I6) hi hl (λ s' I8=>vg _ I8 q7))
 |brk=>
  show Bj σ6 H6 I6 q7 q6 (xSn (uh _ _ _ I6) hi hl (λ s' I8=>vg _ I8 q7))
 |cont=>
  show Bj σ6 H6 I6 q7 q6 (xSn (uh _ _ _ I6) hi hl (λ s' I8=>vg _ I8 q7))
 |ret u=>
  show gq v σ6 H6 I6 r q7 q6 (xSn (uh _ _ _ I6) hi hl (λ s' I8=>⟨v,_,_,I8,r,q7⟩))
universe L2
namespace K25.Rf
open PySem L2 QQ W16
seal PE PA PS PSs PT PW PG PI
section
variable (K:Frag)
def xb4:OP xDu xDu:=by
 show eG (xy7 (if(Value.type "bool"==Value.type "bool")=true then some true else if kitMeta "bool"=true then(fastBuiltinMro "bool").map (·.contains (.type "bool")) else none))
def xdn (h: xRQ ["NoneType","str","int","bool","tuple","dict"] t):mV x2m kh false:=by
 show SL (if(Value.type t==Value.type "list")=true then some true else if kitMeta "list"=true then(fastBuiltinMro t).map (·.contains (.type "list")) else none) false;have ht:t="NoneType"\/t="str"\/t="int"\/t="bool"\/t="tuple"\/t="dict":=by show kY
 rcases ht with rfl|rfl|rfl|rfl|rfl|rfl<;>decide+kernel
def xaZ:OP xDu xyN:=by
 show eG (xy7 (if(Value.type "bool"==Value.type "int")=true then some true else if kitMeta "int"=true then(fastBuiltinMro "bool").map (·.contains (.type "int")) else none))
def xsQ (H:Hp)(x:V):Prop:=∃t b c,iG x t/\mV t xyN c/\mV t xDu b/\(Ρ c\/SB b)
def WhV (H:Hp)(x:V)(lo hi:Int)(b:Bool):Prop:=(∃i,x=Eh/\b=(qF lo i&&qF i hi))\/(xsQ K H x/\Ρ b)
variable {K}
theorem xsQ.bl (b):xsQ K H xFM:=⟨_,true,true,xFM,xaZ K,xb4 K,xj⟩
def xsg (K:Frag)(H:Hp)(x:V):Prop:=(∃t,iG x t/\mV t kh false)\/
 ∃(a:MV) (xs:NE) (j:Nat) (y:V),x=ω/\XL=Ar/\(∀i,i<j->∃n,EB n/\xs[i]?=yc)/\yO xs y/\WhV K H y 0 255 false
def IsR (H:Hp)(x:V)(B:Id):Prop:=∃a,x=ω/\XL=vv/\xIJ
universe s
inductive spWhole (K:Frag) (vs:NE) (H:Hp) (Q:VK) (Nf:XK):Prop
 |mk (x:_) (lo:_) (hi:_) (b:_) (h0:vs=[x,x3w,xRa]) (h1:WhV K H x lo hi b) (h2:xIU):x0f vs H Q Nf
inductive spNumb (K:Frag) (vs:NE) (H:Hp) (Q:VK) (Nf:XK):Prop
 |mk (x:_) (b:_) (h0:vs=DM) (h1:((∃i,x=Eh/\SB b)\/(xsQ K H x/\Ρ b))) (h2:xIU):spNumb K vs H Q Nf
def xub (F:x1G xrM)(T:Bz):xP2 0 (spNumb K):=by
 refine F.ok0 xnY λ M7 A outer s H vs Q E h=>?_
 intro _;show dD x b hw k h;refine XC (xAy (xBC dg Hn SZ (Qq (v:=.ty "int") T.int Kw)) (xnE (xBC dg Hn SZ (x60 (v:=.ty "bool") T.bool))));rcases hw with⟨i,rfl,rfl⟩|⟨⟨t,b',c,ty,k1,k2,k3⟩,rfl⟩
 ·refine⟨_,rfl,_,_,_,_,rfl,xWi,xnH K,_,rfl,Wl⟩;exact⟨_,rfl,_,_,_,_,rfl,xWi,xn7 K,_,rfl,k⟩
 ·refine⟨_,rfl,_,_,_,_,rfl,ty,k1,_,rfl,?_⟩;cases c with
  |false=>exact xIa
  |true=>
   rcases k3 with k3|k3
   ·cases k3
   ·show DI k3 (cy ⟨_,rfl,_,_,_,_,rfl,ty,k2,_,rfl,k⟩)
def xmr (F:Ζ "is_whole" xxC Jaa)(T:Bz):fV Jaa x0f:=by
 obtain⟨fN,Ul,NF,Nm,Nb⟩:=T.isnumb;show Al xnv (λ M7 A outer s H vs Q E hr h=>?_);show dS x lo hi b rfl hw k;refine XC (xAy (BI (xub NF T) hr Nm NF.kp Nb Ew) (xpK xuu xuu PP SZ Ty));rcases hw with⟨i,rfl,rfl⟩|⟨hN,rfl⟩
 ·show E9 (aN _ _ true rfl (xIu i rfl) _ rfl Wl) ⟨_,rfl,_,rfl,_,_,rfl,rfl,_,rfl,?_⟩ Za
  ·refine vc;rw [h1,Bool.true_and] at k;exact k
  ·have h2:Ρ (qF lo i):=by show yn
   rw [h2,Mt] at k;exact k
 ·exact aN _ _ false rfl (xTK hN) _ rfl xIa
inductive spAreWhole (K:Frag) (vs:NE) (H:Hp) (Q:VK) (Nf:XK):Prop
 |mk (x:V) (h0:vs=[x,pL,.int 255]) (h1:((∃B,IsR H x B/\xM6)\/(xsg K H x/\xTL))):x7j vs H Q Nf
def xoW (b:Nat)(h:xCg):SB (qF Gl eN&&qF eN 255):=by
 rw [FM vY,iF];rfl
def xx0 {P:MY}{f fW:MV}(F:Ζ "are_whole" cv Jaa)(W:rN)(T:Bz):xIz Jaa x7j:=by
 have GW:uE fW QS Jaa x0f:=xH9 T;show Al xsk (λ M7 A outer s H vs Q E hr h=>?_);show Bq x rfl h h (xBy (wK (xBC dg Hn SZ (Qq (v:=x0H) T.list HA))) cf (tC (rJ SZ 3 xsk.nd (xDQ (wK (BI GW hr W.m W.F.kp W.b (WS π PP Ty))) cf)) cf))
 rcases h with⟨B,⟨a,rfl,hB,hb⟩,k⟩|⟨⟨t,ty,kl⟩|⟨a,xs,j,y,rfl,hL,hg1,hj,hy⟩,k⟩
 ·show Wp ⟨_,rfl,_,_,_,_,rfl,.lst hB,xyh K,_,rfl,oo⟩ (xor _ a hB (xsH (λ i σ H2=>∃v,σ=[Bm,tG 0,tG 255,v]/\H2=H)
   x08 (λ i σ H2 _ z9=>by show xDP e;exact by show vU xzv) ?_ ?_))
  ·rintro i y σ H2 hi ⟨v,rfl,rfl⟩;show SX b N8 rfl b (b∈B/\y=fb) (by
    rw [Gs] at hi;cases e:B[i]? with
    |none=>show vR hi hi
    |some z=>show ρ e hi ⟨z,Hi e,P8 hi⟩)
   show p9 ⟨_,rfl,_,rfl,_,rfl,_,_,_,_,rfl,xMw,_,rfl,?_⟩ (xoW b (zP N8)) (xFI rfl)
  ·rintro σ H2 ⟨v,rfl,rfl⟩;exact k
 ·exact⟨_,rfl,_,_,_,_,rfl,ty,kl,_,rfl,cy k⟩
 ·show Wp ⟨_,rfl,_,_,_,_,rfl,.lst hL,xyh K,_,rfl,oo⟩ (xor _ a hL (xsH (λ i σ H2=>xCB/\∃v,σ=[Bm,tG 0,tG 255,v]/\H2=H)
   (Wm AM none) (λ i σ H2 _ z9=>by show iN e z9 (by show vU (Ng.of hL))) ?_ ?_))
  ·rintro i z σ H2 hi ⟨ZO,v,rfl,rfl⟩;by_cases e:i=j
   ·show D5 e hj hi hi;exact⟨_,rfl,_,rfl,_,rfl,_,_,_,_,rfl,hy,_,rfl,cy k⟩
   ·obtain⟨n,hn,e2⟩:=hg1 i (Hm ZO e);show Μ e2 hi hi;show p9 ⟨_,rfl,_,rfl,_,rfl,_,_,_,_,rfl,xMw,_,rfl,?_⟩ (xoW n hn) (aV (Wm Z5 _))
  ·rintro σ H2 ⟨ZO,v,rfl,rfl⟩;have:=Fg hj;lia
inductive spIsRow (K:Frag) (vs:NE) (H:Hp) (Q:VK) (Nf:XK):Prop
 |mk (x:V) (h0:vs=DM) (h1:((∃B,IsR H x B/\xM6)\/(xsg K H x/\xTL))):x0g vs H Q Nf
def xpw {P:MY}{w:MZ}{f fW:MV}(F:Ζ "is_row" xuw Jae)(W:rN)(Y:RQ):xP2 3 x0g:=by
 show Y3 fA fdA AW Y.arewhole T Y.X;show xV tg hg T.great xoU (λ M7 A outer s H vs Q E hr h=>?_) _;show Bq x rfl h h (XC (BI (xx0 AW W T) hr AW.m AW.F.kp AW.b (WS SZ aj (DT 255 hg tg))));exact Zk x h
inductive spNeedRow (K:Frag) (cR:MV) (vs:NE) (H:Hp) (Q:VK) (E:XK):Prop
 |mk (x:V) (h0:vs=DM) (h1:((∃B,IsR H x B/\∀l,Ξ->xNP vM)\/(xsg K H x/\xzK cR H))):spNeedRow K cR vs H Q E
def ok_needrow {P:MY}{w:MZ}{f fW fR:MV}{fd QS fdR:M0}(F:Ζ "need_row" bY Jae)(R:Dv "is_row" xuw Jae fR fdR)(W:rN)(Y:RQ)(mR:xLt=TD cR)(xR:SS cR):
  xGj P w 31 Jae (spNeedRow K cR):=by
 have GR:T1 3 fR fdR Jae x0g:=xpw R W Y;have T:=Y.X;refine F.F.okE xm0 λ M7 A outer s H vs Q E hr h=>?_
 intro _;show ie x h h;have Ql:Dg:=UF;refine Tg (zF (wK (BI GR Ql R.m R.F.kp R.b Ew)) (xpR xuv xD Z7 mR xR cm)) (f9 xWG)
 rcases h with⟨B,⟨a,rfl,hB,hb⟩,k⟩|⟨hN,k⟩
 ·refine Zk _ (.inl (Vj B (SU a hB hb) _ oo));exact UJ a (AN hB) k
 ·exact Zk _ (.inr (VT hN _ (cy k)))
universe K25.Rf
namespace L2
open PySem
def y'.or (F:xVy xCD k sp)(G:AH k ps sp'):xVy xCD k λ vs H Q E=>qr\/sp' vs H Q E:=by
 refine⟨λ vs H Q E h=>h.elim (xUY _ _ _) (G.len _ _ _ _),λ A outer s H args us vs Q E hr he hb hv h=>h.elim (xSM A s H args us vs Q E hr he hb hv) λ h=>KU (G.run A outer s H args us vs Q E hr he hb hv h) (BK r s')⟩;cases r with
 |error e=>exact q.elim
 |ok fl=>cases fl<;>exact q
universe L2
namespace K25.Ck
open PySem L2 QQ W17 W16 BP
seal PE PA PS PSs PT PW PG PI
inductive xjs (cB:MV) (vs:NE) (H:Hp) (Q:VK) (E:XK):Prop
 |mk (a:MV) (R:Id) (h0:vs=[ω,mq]) (h1:XL=qz) (h2:R=[]->Yv) (h3:R≠ []->xzK cB H):xjs cB vs H Q E
def xeV (F:Ζ "need_last" xs6 xAJ)(Z:xCA C)(mB:xDT=xOE)(xB:SS cB):xGj P w 31 xAJ (xjs cB):=by
 have X:=Z.H.N.X;refine F.F.okE xmO λ M7 A outer st H vs Q E hr h=>?_
 intro _;show Zj a R ha k kE;show Qt (zF (tT cL SZ PP) (xpR xuv xD Z7 mB xB cm)) ⟨_,rfl,a,_,rfl,AN ha,_,rfl,_,_,rfl,rfl,_,rfl,?_⟩;cases R with
 |nil=>exact aV (k rfl)
 |cons x R=>
  rw [Fy,xHI (sr<zB (x::R)) (WW xD4)];exact cy (kE nofun)
inductive xjK (Ce CO CK:MV) (vs:NE) (H:Hp) (Q:VK) (Nf:XK):Prop
 |mk (p co ck g wt:MV) (S:Id) (b:Nat) (G Y:Id) (h0:vs=Bf) (h1:xXH Y true) (h8:∀l Pq H',Ξ->xOR->ZZ Pq->AL=az->xPp g Pq S b G Y true true->(∀c o,W1=IO->Γ->AE=IO)->AS):xjK Ce CO CK vs H Q Nf
def xfg (F:x7V "read_parts" xrY)(T0:xHt):ya (xjK Ce CO CK):=by
 show AQ NP (λ M7 A outer st H vs Q E hr h=>?_);obtain⟨p,co,ck,g,wt,S,b,G,Y,rfl,hR,k⟩:=h;refine ju 1 NP.nd d5 (oG 2 NP.nd aj (zX (wK Α) xwv) (V7 (nr Α Ty)) PP)
 obtain⟨n1,n2,n3,n4,n5,n6⟩:=hR.ne;show yj dx hp hw hR;show Ff xJg;have s1:=xG2;show Ff A3;refine Z2 (AG (λ _ σ H2=>σ=[Qg,ye,tG 0,none,none]/\H2=xAP) (xNg 0))
 rintro m σ H2 ⟨rfl,rfl⟩;show DE ⟨_,rfl,p,Ce,dx,_,_,rfl,zd,T0.cl,T0.nF,xi,true,rfl,xOd⟩;refine⟨_,rfl,p,Ce,dx,_,_,rfl,zd,T0.cl,T0.nW,wj,_,rfl,_,rfl,wt,_,rfl,Ng.of xFK,SC lw XG⟩;have ec:xE6 sj (some 0)=sj:=dm _ 0
 try dsimp only
 rw [ec];have s2:=s1.trans (Az sj XG);have h2w:Du xAP lw sj lw=Φ sj:=ad;have Pn:=Az sj XG _ _ (AI ((xAP) l) az ad);have nlw2:ZZ lw:=ae (AI ((xAP) l) az ad) XG;show EI xAP lw sj H2 ⟨_,rfl,p,Ce,dx,_,rfl,C7 hp,T0.cl,T0.nW,RH,?_⟩;rw [xut];have NB:=C7 hp;have OV:DP:=EW hp;have ZE:DO lw:=aF h2w NB (by show Τ);have kp:∀c o,yf=IO->Γ->(xRc H2 lw true true) c=IO:=λ c o e n=>xJn
 exact Υ (qb lw _ nl (vK XG) nlw2 (B1 Pn OV) ⟨xGU,xJY (λ c o e n=>B1 jQ n),B1 h2w ZE⟩ λ c o e n=>B1 jQ n)
inductive xjF (Ce CO CK cB:MV) (vs:NE) (H:Hp) (Q:VK) (E:XK):Prop
 |mk (p co ck g wt a:MV) (S:Id) (b:Nat) (G r:Id) (h0:vs=we) (h1:xXH [] true) (h2:XL=gR) (h3:xD3) (h4:r=[]->∀l Pq H',Ξ->xOR->ZZ Pq->AL=az->xPp g Pq S b G [] true true->(∀c o,W1=IO->Γ->AE=IO)->AS) (h5:r≠ []->Ft ((∀c o,W1=IO->Γ->AE=IO)->xzK cB H')):xjF Ce CO CK cB vs H Q E
def xfd (F:x7W "go_through" xr6)(Z:wZ)(mB:xDT=xOE)(xB:SS cB):xGj P w 42 Jah (xjF Ce CO CK cB):=by
 have T0:=Z.tt;show vO Ma Z.mark Pa Z.parts La Z.pr.nlast;refine F.okE xsc λ M7 A outer st H vs Q E hr h=>?_
 intro _;obtain⟨p,co,ck,g,wt,a,S,b,G,r,rfl,hR,ha,hl,k,kE⟩:=h;have NA:Bv:=UF;have PY:xGO:=UF;obtain⟨n1,n2,n3,n4,n5,n6⟩:=hR.ne;show yj dx hp hw hR;show Wp (u5 (pd Α PP) (ac (lB Α)
  (Fc 2 xsc.nd (xvo xET (xBl Pa (xfg (CO:=CO) (CK:=CK) Pa.F T0) NA) d5) (zF xET (aB (bv (xeV La Z.pr mB xB) PY Z7 La.m La.F.kp La.b .nil xuv (xzG Α)))) Ty))) (Z2 ⟨_,rfl,p,Ce,dx,_,_,rfl,hp,T0.cl,T0.nW,wj,_,rfl,wt,a,_,_,rfl,rfl,hw,ha,bG (by show xBo 0 yl≤_;rw [Fy];lia),xV7⟩)
 rw [Sd (Ο ([]:Id)++yl) yl];have s1:=Az yl X9;have OV:DO l1:=DH hp X9;show DE ⟨_,rfl,p,Ce,dx,_,rfl,zd,T0.cl,T0.nW,RH,A3⟩;rw [xut];have OY:∀c o,W1=IO->Γ->om yl l1 true true c=IO:=λ c o e n=>xAC D4
 have NX:om yl l1 true true p=dE Ce (xys l1 true true):=ad;have hw1:om yl l1 true true l1=gR:=xIm OV;show DR nn (∀{c},WF (om yl l1 true true c)->UU) (λ {c} n=>by
  by_cases z:c=p
  ·show B0 ad n n
  ·show uj z n (vK n)) (om yl l1 true true) H1;have Yq:=xJY OY;show Ff ⟨_,rfl,p,Ce,dx,_,_,rfl,NX,T0.cl,T0.nB,dX,true,rfl,xOd⟩;show Ff ⟨_,rfl,p,Ce,dx,_,_,rfl,NX,T0.cl,T0.nB,dX,true,rfl,cy ⟨_,rfl,p,dx,_,rfl,NX,wk,p,co,ck,g,l1,S,b,G,r,rfl,Dp NX Yq hw1,λ l2 wt2 H2 nl2 nw2 nlw2 NH Oe fr2=>A3⟩⟩;show S8 TL NB Oe.ob fr (∀c o,W1=IO->Γ->yf=IO) (λ c o e n=>fr2 _ _ (xq e n) n)
 show Ff ⟨_,rfl,p,Ce,TL,_,_,rfl,NB,T0.cl,T0.nF,xi,true,rfl,cy ⟨_,rfl,p,Ce,TL,_,_,rfl,NB,T0.cl,T0.nW,wj,wt2,r,rfl,Oe.ws,λ e=>A3,λ e=>kE e H2 fr⟩⟩;show Fs (Υ (k rfl l2 wt2 H2 (nn nl2) (nn nw2) nlw2 NH Oe fr))
inductive xkk (K:Frag) (Cp Ce CO CK cR cB:MV) (vs:NE) (H:Hp) (Q:VK) (E:XK):Prop
 |row (p dx r co ck g wt:MV) (N:Wk) (x:V) (h0:vs=[Bw,x]) (h1:xFb H x) (h2:xzK cR H)
 |fin (p a:MV) (N:Wk) (T r:Id) (Rs:CA) (j:Nat) (h0:vs=we) (h1:xXa true j []) (h2:XL=gR) (h3:Eg r) (h4:xD3) (h5:r=[]->∀l H',Ξ->AL=az->xED (λ c=>UU/\sk) H' true j []->(∀c o,W1=IO->Γ->AE=IO)->AS) (h6:r≠ []->Ft (Ι->xzK cB H'))
def xpG (F:Aj "feed" "Opener.feed" xr5)(Z:wZ)(O:RM)(mR:xLt=TD cR)(xR:SS cR)(mB:xDT=xOE)(xB:SS cB):xGj P w 43 Jah (xkk K Cp Ce CO CK cR cB):=by
 have T0:=Z.tt;show ZV N' Z.pr.H.need Ir Z.pr.H.N.isrow;show vO Wh Z.pr.H.N.whole Tw Z.twin Th Z.thru;refine F.okE Oa (λ M7 A outer st H vs Q E hr h=>?_) (by intro _ _ _ _ h;cases h<;>subst_vars<;>rfl);intro _;have PY:xGO:=UF;have hr8:ED 8:=UF;refine ju 2 Oa.nd (bv (Rf.ok_needrow N' Ir Wh Z.pr.H.N mR xR) PY Z7 N'.m N'.F.kp N'.b .nil xuv m8) (Zq 3 Oa.nd (xQK Α Tw (xlX Tw.F Z) hr8) 4 Oa.nd (xx7 π T0.cl Th.m (xfd (CO:=CO) (CK:=CK) Th.F Z mB xB) hr Th.b .nil xuv Rl) (V7 π) Ν)
 cases h with
 |row p dx r co ck g wt N x h0 hN k=>
  show DI h0 (Zk x (qG hN k))
 |fin p a N T r Rs j h0 ho ha hb hl k kE=>
  subst h0;obtain⟨dx,r0,co,ck,g,wt,G,W,bg,hp,_,_,_,_,_,hRe,op⟩:=ho;obtain⟨ej,rfl,_⟩:=x1s;obtain rfl:SB bg:=by
   cases bg with
   |true=>rfl
   |false=>show AX (A4 (op.b0 rfl)) (by decide)
  show yj dr TC hw hRe;refine Zk _ (.inl ⟨r,SU a ha hb,xV7⟩);have s1:=Az yl X9;have ON:Du H l1 yl l1=gR:=ad;show EI H l1 yl H1 ⟨_,rfl,p,Cp,dx,_,_,rfl,zd,O.cl,O.nR,xre _,r0,dr,_,rfl,Ec TC,wk,r0,co,ck,g,wt,_,j,G,[],true,true,rfl,qT dr (Ec TC) (iZ c o e D4) xFK,λ q V6 ck2 g2 wt2 H2 nq no nk ng nw Oe s2=>?_⟩;show xHZ dq hq Oe.ob s2' dn;refine⟨_,rfl,q,dq,_,rfl,hq,wk,_,rfl,q,V6,ck2,g2,wt2,l1,_,j,G,r,rfl,Oe,C7 ON,hl,λ e l3 wt3 H3 nl3 nw3 nlw3 Ou Ox SE=>?_,λ e H3 SE=>kE e H3 λ c o z=>BZ (s2' _ _ z) (ae (Ec z) nq)⟩;have kp:∀c o,W1=IO->x3=IO:=λ c o z=>BZ (s2' _ _ z) (ae (Ec z) nq)
  have YH:=B1 hp;refine⟨_,rfl,_,rfl,p,Cp,dx,_,rfl,YH,O.cl,O.nR,(by show qc),?_⟩;rw [xh1];have ne:∀{c},vz c->Γ:=λ n z=>by show B0 zd n n
  have NJ:∀c o,x3=IO->Γ->(Tj H3 p Cp (xws q)) c=IO:=λ c o e n=>xJn
  have Sr:∀{xs} {c},x3=Ar->Γ:=λ e=>cD YH (by show Τ)
  obtain⟨⟨PK,hx3⟩,TK,XN⟩:=Ox;show iz c1 TK.ob c2 TK.ch;have li:∀{c} {C D} {fs},x3=Tu C D fs->EC l3:=λ e=>(aF Ou e (by show Τ)).symm
  exact Υ (k e l3 _ (xLs nl3) (Cz Ou (Sr Ou)) ⟨dx,q,V6,ck2,g2,wt3,G,[],true,ad,xHL nq hx3,xHL no c1,xHL nk c2,⟨vK ng,ae Oe.cr.gr nl3⟩,⟨xLs nw3,nlw3.symm⟩,qT PK (Cz hx3 (ne nq)) (TK.off NJ (ne no) (ne nk) (Sr TK.gr)) (Cz XN (Sr XN)),op⟩ λ c o e n=>Cz Ry n)
inductive xj7 (Cp Ce CO CK cC:MV) (vs:NE) (H:Hp) (Q:VK) (E:XK):Prop
 |mk (p:MV) (N:Wk) (T rest:Id) (Rs:CA) (j:Nat) (fn:Bool) (h0:vs=Bf) (h1:Ze N H fn j) (h2:xGQ->Yv) (h3:xGN->xzK cC H):xj7 Cp Ce CO CK cC vs H Q E
def xbe (F:Aj "finish" "Opener.finish" xxx)(T:xHt)(O:RM)(mC:x2r=TD cC)(xC:SS cC):xGj P w 31 Jab (xj7 Cp Ce CO CK cC):=by
 show xyR Ov O.over (F.okE xok λ M7 A outer st H vs Q E hr h=>?_)
 intro _;obtain⟨p,N,T',rest,Rs,j,fn,rfl,ho,k,kE⟩:=h;show vi dx hp ho;have NA:Bv:=UF;show Qt (zF (wK (BN SZ O.cl Ov (xs4 (CO:=CO) (CK:=CK) Ov.F T O))) (xpR xuv xD Z7 mC xC cm)) ⟨_,rfl,p,dx,_,rfl,hp,D8,p,N,T',rest,Rs,j,fn,rfl,ho,_,rfl,?_⟩;cases fn with
 |true=>exact aV (k rfl)
 |false=>exact cy (kE rfl)
inductive xjA (K:Frag) (cR:MV) (vs:NE) (H:Hp) (Q:VK) (E:XK):Prop
 |mk (x:V) (h0:vs=DM) (h1:Ft (Ι->xFb H' x)) (h2:Ft (Ι->xzK cR H')):xjA K cR vs H Q E
def xfl (F:Ζ "opened" xwi Jal)(Z:wZ)(O:RM)(mR:xLt=TD cR)(xR:SS cR)(mB:xDT=xOE)(xB:SS cB):xGj P w 44 Jal (xjA K cR):=by
 show Dd O.init;show xyR Fe O.feed (F.F.okE xwE λ M7 A outer st H vs Q E hr h=>?_)
 intro _;show Qb x rfl hN k;have XO:ED 9:=UF;refine ju 1 xwE.nd (iW (xq2 FI Z O) XO Z7 O.m bI a7) (Cg 2 xwE.nd (xN5 PP (xpG Fe.F Z O mR xR mB xB) hr Fe.b .nil xuv Ew) xwv)
 intro p dp np T4 Ya;have s0:=xJW Cp;refine Dx p dp (λ H1 hO OY=>DY);have s1:mE:=λ b o e=>OY b o xu m6
 obtain⟨dx,_,_,_,_,_,_,_,_,NX,_⟩:=hO [] [];exact⟨_,rfl,p,dx,_,rfl,NX,D8,_,rfl,xWn dx p p p p p xRI x rfl (hN H1 s1) (k H1 s1)⟩
abbrev xr2:M5:=top 134
def InH (H:Hp)(a C:MV):Prop:=∃vx,uT (ET (exO Ap vx) a)
structure Exc1 (K:Frag)(mg:Β)(cP c:MV):Prop where
 x:SS c
 n:EC cP
 s:xzE K c (.ref cP)
def WdI (i:Nat)(z:Str):Prop:=(i=0/\x22 z "row")\/(i=13/\x22 z "cut")\/(i=14/\x22 z "behind")
inductive xqf (cs:υ) (vs:NE) (H:Hp) (Q:VK) (Nf:XK):Prop
 |mk (a C:MV) (i:Nat) (z:Str) (h0:vs=CV) (h1:InH H a C) (h2:xIp C) (h3:WdI i z) (h4:∀t H',Ι->kz t [xzQ]->xOT):xqf cs vs H Q Nf
def names:An:=["BadRow","BadBits","NoBits","BadLengths","BadShares","BadCode","BadTable","BadPieces","BadBody","BadHead","BadCheck","BadMark","BadTail","Cut","Behind","Over","NoRange","BadLetters"]
structure Ers (K:Frag)(mg:Β)(cP:MV)(cs:υ):Prop where
 tuple:x00
 verr:x6T
 mP:xYW=TD cP
 xP:SS cP
 len:∃c0 c1 c2 c3 c4 c5 c6 c7 c8 c9 c10 c11 c12 c13 c14 c15 c16 c17:MV,cs=[c0,c1,c2,c3,c4,c5,c6,c7,c8,c9,c10,c11,c12,c13,c14,c15,c16,c17]
 m:pk i x Str c MV (vw names->xIp c->si=TD c)
 k:pk i z Str c MV (WdI i z->xIp c->xCt cP c/\xL1 c/\OP qI xDf/\∀(j:Nat) (d:MV),yO cs d->mV qI VO (Dy j i))
abbrev Tw (H:Hp):NK υ x2u:=Paired λ p x=>Fm (H p) [x3B,.bl zy]
def Tw.same (s:Ι)(h:xJH H):xJH H':=by
 induction h with
 |nil=>show yQ
 |cons h _ ih=>exact Qd (E6 h)
def Tw.append (h:xJH H)(s:Tw H qs ys):Tw H (ps++qs) (xs++ys):=by
 induction h with
 |nil=>exact s
 |cons r _ ih=>exact Qd r
def Tw.get {i:Nat}(h:xJH H)(e:A7 ps p):∃x,xk/\Fm (H p) [x3B,.bl zy]:=by
 induction h generalizing i with
 |nil=>cases e
 |cons r _ ih=>cases i with
  |zero=>cases e;exact Υ r
  |succ i=>exact ih e
section
variable (K:Frag)
def Fk:um:=λ xs H Q=>∃a C vs c b,xs=[ω,xhS c]/\(∃n,c=.ref n\/∃t,c=x2m)/\uT (xBX a)/\xJe/\mV Ap c b/\xIU
def xiR (z:Str)(c:MV):TE:=xrh (xva (xuX xzQ) (xIf (tCB (Fk K) (xva fh (xIf (xuX qI))))))
def xyc:fg->TA
 | []=>iw
 |x::r=>xva (xiR K ze zy) (xyc r)
variable {K}
def xea {X:Cx}{z x:Str}{j k:Nat}{p1 p2 p3 p4 p5 p6:Pos}(hi:kH "isinstance")(hm:W0=TD c)(hN:Κ (Aq X.N 0 (eE "_law_e")))(hv:autoParam (xRd "_law_e") xk5)
  (hg1:Κ (xze "isinstance")) (hg2:Κ tR) (hd:sS)
  (hs1:Κ (fF [xAO,gG]=Eu xAO::fF [gG])) (PV:Κ (fF [gG]=Eu gG::fF []))
  (hs3:Κ (fF [xu6 xzQ p1,xO6 [xAO,gG] [] p5]=Eu (xu6 xzQ p1)::fF [xO6 [xAO,gG] [] p5]))
  (hs4:Κ (fF [xO6 [xAO,gG] [] p5]=Eu (xO6 [xAO,gG] [] p5)::fF []))
  (OE:Κ ((backTo p5 (starEach [.Name x p4] X.env)).any (·.1)=false)):
  Am (.Tuple [xu6 xzQ p1,xO6 [xAO,gG] [] p5] k p6) (xiR X.K z c):=
 xvt (aa cm (Bx (xvB xmN hg1 hi Hn (aa (xnV hN hv) (Bx (xsO hg2 hm rfl hd) PV) hs1) Z9 Z9 hs1 OE) hs4) hs3)
def xoq (ci:xJe)(h0:Aq σ 0 Bm)(l):∀bs H Q,Paired (λ x b=>mV Ap xS4 b) l bs->InH H a C->
  (∀H' ps,C' H H'->Tw H' ps ((l.map (·.1)).zip bs)->Q (ps.map V.ref) H')->xyc K l σ H Q:=by
 induction l with
 |nil=>intro bs H Q hp _ k;cases hp;exact k H [] xzb .nil
 |cons x l ih=>
  intro bs H Q hp hE k;cases hp with
  |cons r rr=>
  rename_i b _
  show DG vx hE hE ⟨_,h0,a,C,vx,xS4,b,rfl,⟨zy,Dm⟩,hE,ci,r,(by show b8),Zc⟩;have s1:ZC (qU p [x3B,xFM]):=λ c o e=>by show pQ hp e
  refine ih _ _ _ rr ⟨vx,Ec hE⟩ λ H' ps s2 tw=>?_
  exact k H' (p::ps) dn (.cons (C7 ad) tw)
universe s
def xxa:Uf ["_law_e","_law_some","_law_found"] xKE xr2:=Sc
structure xsX (H0 H:Hp)(a C l:MV)(xs:x2u):Prop where
 s:C' H0 H
 e:InH H a C
 l:∃ps:υ,sV=Φ ym/\xJH H
def xsX.first {a C l:MV}(e:InH H0 a C)(s:C' H0 H)(tw:xJH H)(hl:Ξ):xOA (kU ym) a C l xs:=by
 have s1:ZC (kU ym):=λ c o q=>by show Ez q hl q
 show De vx e e ⟨s.trans s1,⟨vx,Ec (E6 e)⟩,ps,ad,tw.same s1⟩
def xsX.more {a C l:MV}(S:xOA H a C l xs)(s:mE)(tw:Tw H1 ps ys)(hb:vz b):
  ∃qs:υ,xJv l=Φ xZn/\xyJ qs.length/\∀p,WF (xJv p)->xOA (E4 xJv p (xZn++ym)) a C p (xs++ys):=by
 obtain⟨s0,⟨vx,e⟩,qs,hl,tq⟩:=S;have s1:xA0 xJv:=λ c o q=>by show Ez q hb q
 refine⟨qs,Ec (E6 hl),KH tq,Zc⟩;have s2:C' xJv (E4 xJv p (xZn++ym)):=λ c o q=>by show Ez q hp q
 have s3:=x7k s1 s2;exact⟨s0.trans s3,⟨vx,Cn e⟩,qs++ps,by rw [ad,FV],(tq.same s3).append (tw.same dn)⟩
def xhE:∀x σ H A B,(∀σ' H',xF4->xF5)->xBK n i (xBS j) x σ H A->xBK n i (xBS j) x σ H B:=by
 rintro x σ H A B m ⟨a,xs,e1,e2,e3,v,r,e4,v2,r2,e5,e6,z⟩;exact⟨a,xs,e1,e2,e3,v,r,e4,v2,r2,e5,e6,m _ _ z⟩
def ndW:xE ["_law_word_here","_law_fits"]:=Z8
def xtq (h:n≤40):nL n:=gQ h
def xhG (ci:xJe)(h0:Aq σ 0 Bm)(l)(bs)(pr:Paired (λ(x:Str×MV) b=>mV Ap xS4 b) l bs)(hE:InH H a C)(hn:l.length≤3)
  (k:∀b H' ys,ys=x5t bs->ys.length≤l.length->xsX H H' a C b ys->D.nx (σ.set 1 (TD b)) H'):xxf (xxg (xyc K l)) (xv7 1) D σ H:=by
 refine xoq ci h0 l bs H _ pr hE λ H1 ps s1 tw=>vV ?_ b hb (k b _ _ rfl (by rw [Kz,Fy];exact DN) (.first hE s1 tw hb))
 have e:=KH tw;rw [Fy,e,Kz,Fy];exact xtq (Z3 [_,_] 1 LE (Zz 3) LE 40 hn DN)
def xdK (ci:xJe)(S:xOA H a C b xs)(h0:Aq σ 0 Bm)(h1:Aq σ 1 (TD b))(hx:x17 m)(l)(bs)(pr:Paired (λ(x:Str×MV) b=>mV Ap xS4 b) l bs)(hn:l.length≤3)
  (k:∀b' H' ys,ys=xs++x5t bs->ys.length≤m+l.length->xOA H' a C b' ys->D.nx (σ.set 1 (TD b')) H') (hm:jZ (m≤20)):xxf (Xc rCat xAB (xxg (xyc K l))) (xv7 1) D σ H:=by
 refine Ax h1 (xoq ci h0 l bs H _ pr S.e λ H1 ps s1 tw=>?_);have e:=KH tw;rw [Kz,Fy] at e;refine Bh (by show Ai (xtq (Z3 [_,_,_] 1 Dz (aS DC) LE 40 hn (Fx xFD DN)))) b1 N8;show Bj qs hl hq kk (S.more s1 tw N8) ⟨b,b1,_,_,rfl,rfl,hl,ad,by rw [Fy,Fy];exact xtq (Z3 [_,_,_,_,_] 2 (DX (Aw xMu)) (Br 20 (aS (rZ Eo))) P3 40 (FK hx hm) (Wz hn e (Fx (Fz hq) DN))),λ p hp=>k p _ _ rfl (by rw [FD,Kz,Fy];exact Fx hx DN) (kk p hp)⟩
def xfE (xs:x2u)(i)(x)(h:xk):rq ((xs.take (i+1)).filter (·.2)) x x05=rq ((xs.take i).filter (·.2)) x x05++(E1 zy [x05] []):=by
 rw [HC,h];simp only [Option.toList_some,Gw,FV];by_cases hb:SB zy
 ·simp [hb]
 ·simp [hb]
def xum {cP:MV}{cs:υ}(F:Ζ "_law_word" xr2 xKE)(T:wq)(Z:zN):AH 5 xKE (xqf cs):=by
 obtain⟨c0,c1,c2,c3,c4,c5,c6,c7,c8,c9,c10,c11,c12,c13,c14,c15,c16,c17,rfl⟩:=Z.len;show Al xxa (λ M7 A outer st H vs Q E hr h=>?_);obtain⟨a,C,i0,z,rfl,hE,hC,hzz,k⟩:=h;refine Ep (Cg 1 xxa.nd (xBv (vT 0) (vT 1) (vT 2)) (xGk 1 (jT (vT 4) (vT 3)) (xGk 1 (xBv (vT 5) (vT 6) (vT 13)) (xGk 1 (jT (vT 7) (vT 8)) (xGk 1 (jT (vT 9) (vT 10)) (xGk 1 (jT (vT 11) (vT 12)) (xGk 1 (xBv (vT 14) (vT 15) (vT 16)) (Fc 1 xxa.nd (pd PP (gJ (vT 17))) (xhj (i:=2) (N:=["_law_word_here","_law_fits"]) (g:=xBK 2 0 (xBS 1)) (tt:=xtM xAB) (te:=fh) xxa.nd rfl (Or.inl rfl) rfl rfl Z8 Z8 Z8 (bP PP)
    (λ fp s H=>xHR 0 ndW (xzm 1 ndW xve)) (λ fp s H=>xvv PP) (λ fp s H=>SZ) Z7) (xvo (xvv (xBC xmN Hn SZ (Qq (v:=.ty "ValueError") Z.verr PyProof.Rows.Boot.«ValueError»)))
    (xvu xmm Z7 Z.tuple K5 Rl) xE2)))))))))
 obtain⟨_,ci,hv,kk⟩:=Z.k i0 z C hzz hC;show Z1 (Zl R (xhG ci rfl [("row",c0),("bits",c1),("nobits",c2)] _ (xBA 0 1 (xWE 2)) hE Z6 λ b0 H0 y0 e0 n0 S0=>Aa)) g;show Z1 (Zl R (xBZ 3 S0 n0 [("shares",c4),("lengths",c3)] _ (xBA 4 3 .nil) Z6 (λ b1 H1 y1 e1 n1 S1=>Aa))) g;show Z1 (Zl R (xBZ 5 S1 n1 [("code",c5),("table",c6),("cut",c13)] _ (xBA 5 6 (xWE 13)) Z6 (λ b2 H2 y2 e2 n2 S2=>Aa))) g;show Z1 (Zl R (xBZ 8 S2 n2 [("pieces",c7),("body",c8)] _ (xBA 7 8 .nil) Z6 (λ b3 H3 y3 e3 n3 S3=>Aa))) g;show Z1 (Zl R (xBZ 10 S3 n3 [("head",c9),("check",c10)] _ (xBA 9 10 .nil) Z6 (λ b4 H4 y4 e4 n4 S4=>Aa))) g;show Z1 (Zl R (xBZ 12 S4 n4 [("mark",c11),("tail",c12)] _ (xBA 11 12 .nil) Z6 (λ b5 H5 y5 e5 n5 S5=>Aa))) g;show Z1 (Zl R (xBZ 14 S5 n5 [("behind",c14),("over",c15),("range",c16)] _ (xBA 14 15 (xWE 16)) Z6 (λ b6 H6 y6 e6 n6 S6=>Aa))) g;show Z1 (Zl R (xBZ 17 S6 n6 [("letters",c17)] _ (xWE 17) Z6 (λ b7 H7 y7 e7 n7 S7=>Aa))) g;obtain⟨s8,⟨vx,e8⟩,ps,hl8,tw8⟩:=S7;have hfin:((y7.filter (·.2)).map λ x=>V.str x.1)=[V.str z]:=by
  rw [e7,e6,e5,e4,e3,e2,e1,e0];rcases hzz with⟨rfl,rfl⟩|⟨rfl,rfl⟩|⟨rfl,rfl⟩<;>rfl
 have hlen:y7.length=18:=by rw [e7,e6,e5,e4,e3,e2,e1,e0];rfl
 clear e0 e1 e2 e3 e4 e5 e6 e7 n0 n1 n2 n3 n4 n5 n6 n7;generalize y7=xs at*;have Vx:xyJ ps.length:=KH tw8;refine o9 (xor _ b7 hl8 (λ l2 NH=>xXn K (a:=b7) (xs:=ym) (λ i ys H'=>ys=((xs.take i).filter (·.2)).map (λ x=>V.str x.1)/\H' l2=some (.lst ys)/\C' H7 H') ⟨Z6,ad,λ c o e=>by show pQ NH e⟩ (λ i ys H' _ p=>Ng.of (CJ p _ _ hl8)) ?_ ?_ xhE ?_ ?_))
 ·rintro i x ys σ H' hx ⟨e1,e2,s9⟩ hσ;show SX p hp rfl p (A7 ps p/\x=V.ref p) (by
   rw [Gs] at hx;cases e:ps[i]? with
   |none=>show vR hx hx
   |some q=>show ρ e hx (lM q (P8 hx)))
  obtain⟨y,hy,Uq⟩:=tw8.get hp;obtain⟨u,v,rfl⟩:∃u v,σ=[u,v]:=by
   match σ,hσ with
   | [u,v],_=>exact kq u v
  refine⟨p,_,rfl,ND.of (xAx Uq),rfl,_,_,rfl,_,_,rfl,rfl,_,rfl,_,rfl,?_⟩;have fs:=xfE xs i y hy;cases hb:y.2 with
  |true=>
   try dsimp only
   rw [AD];rw [hb,AD,<-e1] at fs;refine ZW e2 ?_ fs.symm ad xBG
   ·have:=Fg hy;rw [e1,Fy];show Ay l1 (Ky (λ x=>zy) (xs.take i)) FW l1;have h18:i<18:=x3n hlen;exact GQ (FK l1 DN) (JU h18 Z9)
   ·have OZ:EC l2:=W2 NH;show XV OZ xBs
  |false=>
   try dsimp only
   rw [NZ];rw [hb,NZ,GU,<-e1] at fs;exact ql fs.symm e2 s9
 ·rintro ys H' ⟨e1,e2,s9⟩;show Z1 Aa g;rw [Fy,Vx,Hc,hfin] at e1;subst e1;show Wp ⟨_,rfl,a,C,vx,xDf,true,rfl,⟨0,.inr CY⟩,xAx e8,ci,hv,_,rfl,Wl⟩ (jY _ l2 [xzQ] rfl (.inl (Bh (Ng.of e2) t ht)));exact k t _ ((s8.trans s9).trans λ c o e=>by show pQ ht e) ad
 ·rintro σ H A B m ⟨x,e,c,e2,z⟩;exact⟨x,e,c,e2,m _ _ z⟩
 ·rintro σ H A B m ⟨x,e,z⟩;exact⟨x,e,m _ _ z⟩
abbrev xtA:M5:=top 136
def en (T:Id)(Rs:CA)(i:Nat):oK:=(3+vn (i+1),x19 (i+1))
abbrev ens (T:Id)(Rs:CA)(n:Nat):Bo:=xC0 n xM8
inductive xno (vs:NE) (H:Hp) (Q:VK) (Nf:XK):Prop
 |mk (a:MV) (T:Id) (Rs:CA) (h0:vs=CV) (h1:XL=qh mk3 (xzC 0)) (h2:vX) (h3:wm) (h4:W5) (h5:∀l ts H',Ξ->AL=ay->Q2 H' ts (ens T Rs Bn)->Ι->AS):xno vs H Q Nf
def xw4:Uf ["_law_bale","_law_found","_law_at","_law_total"] xRw xtA:=Sc
inductive xlb (H:Hp) (a:MV) (T:Id) (Rs:CA) (Z:Id) (l:MV) (m:Nat) (σ:St) (H2:Hp):Prop
 |mk (j:Nat) (ts:υ) (h0:m=Bn-j) (h1:j≤Bn) (h2:σ=[Bm,ye,Χ (3+xIl),Χ (Ws).length]) (h3:Z.drop (3+xIl)=xBD) (h4:RZ=ay) (h5:Q2 H2 ts (ens T Rs j)) (h6:SR):xlb H a T Rs Z l m σ H2
def xaF (F:Ζ "_law_ends" xtA xRw)(X:wq):fV xRw xno:=by
 show Al xw4 (λ M7 A outer st H vs Q E hr h=>?_);obtain⟨a,T,Rs,rfl,ha,hN,hT,Oi,k⟩:=h;refine ju 1 xw4.nd d5 (Zq 2 xw4.nd aj 3 xw4.nd aj (zX (oU (TP xT8) aj) (Cg 3 xw4.nd (zk (E8 π (ji xUk))) (pX 2 xw4.nd (zk (xVe (TP xT8))) (U9 PP (Y4 Ty π))))) PP)
 have hnB:xC3 (64*Bn)/\64*Bn<T.length+64:=by unfold nB;show A5 (BX xUj xE0 LE U0 zK) (BX U0 (D7 63) (AJ U0) (D7 64) jI)
 have hn20:Bn≤20:=by show wU nB (BF 64 [_,_] (Aw xyI) (w6 xEV) (.n 20) (ZY Oi))
 generalize hZ:oH=Z at*;show ZX (jA (qP l nl));show ZX Aa;show ZX Aa;have h0:Z.drop 3=xzC 0:=by rw [<-hZ];rfl
 refine o9 (AG (xlb H a T Rs Z l) ⟨_,0,[],rfl,AM,by show Af Nat.mul_zero,h0,ad,.nil,P6⟩)
 rintro m σ H2 ⟨j,ts,rfl,hj,rfl,hd,NH,hp,s2⟩;have Su:=C7 ha;generalize hat:3+xIl=at' at*;have lst:∀{n y},Aq (xBD) n y->(k7)[at'+n]?=Χ y:=λ {n y} e=>by rw [Gs,<-Js,hd,e];rfl
 show CM j Bn Vm Vm
 ·clear g;have NM:xNY (64*j):=by exact(B7 [_,_,_] (AJ zv) (bD On) (.a (Rn 64) zv) xMB Os hnB.2 (Wu Vm))
  have hjR:bK j:=by show LT xOz Vm
  have pb:=hN.2 j _ (FL hjR);have tw:=xwV NM hT;obtain⟨er,_⟩:=xwf (T:=T) hjR;have eRt:Rs.take (j+1)=Rs.take j++[Rs[j]]:=(KY hjR).symm;rw [er] at hd lst;generalize Rs[j]=R at*;obtain⟨i,n,hi,Vy,hnR,e0,e1⟩:∃i n,i<4/\AK n/\xGq (n+5)/\Aq R 0 (64*i+d6-1)/\Aq R 1 n:=by
   obtain⟨i,ps,Rb,hi,_,_,rfl,h1,_⟩:=xLr;exact⟨i,Rb.length,hi,h1,by rw [xv1,FD];show 3+_+2=_;exact EN AV xOl (D7 5) AV (D7 5) xOl,rfl,rfl⟩
  have h1:(k7)[at'+1]?=yc:=lst (by show LT (G7 (by exact(BX (Rn 5) LE (AJ AU) LE x6Q))) e1);have Vq:(k7)[at']?=Χ (64*i+d6-1):=lst (n:=0) (by show LT (G7 (by exact(BX (Rn 5) LE DW LE x6Q))) e0);have N8:=tw.one;have Si:=tw.le;have hS:=Ng.of (K:=K) Su;show rE ⟨_,rfl,_,rfl,_,_,rfl,rfl,a,_,_,Qh,rfl,rfl,hS,xym (at'+1) h1,_,_,rfl,rfl,_,rfl,?_⟩ (FM (show Gl<rX by exact(WW (UG AU DW Vy)))) (cy xFN);show ZX ⟨_,rfl,_,rfl,_,rfl,a,_,_,_,rfl,rfl,hS,aD Vq,_,_,rfl,rfl,(by show sf 64),_,_,rfl,rfl,_,_,rfl,rfl,Aa⟩;have eL:B4 (jW (j+1)) ((Ws).length+d6):=by rw [<-xwr,FD]
  rw [show zB Ws+Ps (64*i+d6-1)%64+1=zB (jW (j+1)) by rw [eL];lia];show ZX ⟨_,rfl,_,rfl,_,rfl,_,_,rfl,rfl,a,_,_,Qh,rfl,rfl,hS,xym (at'+1) h1,_,_,rfl,rfl,_,_,rfl,rfl,Aa⟩;have eA:3+vn (j+1)=xVS at':=by rw [eRt,IR,FD,<-Hj,hat];show _+Vg R []=_;rw [GU]
  show Η (show Ps at'+rX+5=Ps (3+vn (j+1)) by rw [eA,hnR];exact(Tz [_,_] (lL 5) (A9 (Rn 5)) [_,_] (A9 (Rn 5)) (lL 5))) (aN _ (oI NH) _ rfl _ rfl (by show b8) (SC t nt));have s3:=OD [vN (3+vn (j+1)),vN (x19 (j+1))];have nlt:t≠l:=DH NH nt;refine Fb l _ _ rfl (Cn NH) (bx (by rw [Fy,hp.len,Fy,Im];exact(ow [_,_] 1 xMB xMx LE Oi NM))) ?_;have kp:∀c xs,x8 yf->x8 ((qO (nV [vN (3+vn (j+1)),vN (x19 (j+1))]) (Fl++[wG])) c):=λ c xs e=>Tq (xGs NH) (Cn e)
  refine⟨_,Ie Vm (HW j),j+1,ts++[t],rfl,Vm,rfl,?_,?_,?_,λ c o e=>(yH nl).trans xVh⟩
  ·rw [eA,<-Ih,hd,Ks]
  ·rw [ad,FV];rfl
  ·unfold ens;rw [K2,FV];exact xVP (hp.keep kp) (xIm nlt)
 ·obtain rfl:j=Bn:=FA hj Vm;have er:=(xyb (T:=T) (j:=Bn) (Fz xOz)).1;rw [er] at hd lst;refine⟨_,rfl,_,rfl,_,_,rfl,rfl,a,_,_,mq,rfl,rfl,xEJ,xym (at'+1) (lst rfl),_,_,rfl,rfl,_,rfl,aV Aa⟩;exact Υ (qb ts H2 nl NH hp s2)
universe K25.Ck
namespace L2
open PySem PySem.Spec PyProof.Rows QQ
def xfG {X:Cx}{σ0:St}{E:XK}{pl:cX}(he:sU)(c:Wb)(hm:xNR m f)(F:Zp)(hr:RS)(hb:lW)(hd:ll)(hx:xwo CX X E σ0)
    (ht:Κ (fQ o m []=(do
      let ov<-ZT
      xuE
      let(f,first)<-xuG uR ov m pl
      nJ f []))):
    fK o m [] (x3l (xJJ OS E ta iw)):=by
  intro M6 s σ H Q I h
  show DG rfl h h (xPx (ag H _ I h u) ht)
  obtain⟨x,H1,I1,rx,a,dx,fs,ex,ea,l,q⟩:=z9
  subst ex
  obtain rfl:u=tF:=rx
  refine xJ4
  exact x1Y CV I1.kIn hm.kp (xuk (us:=CV) (vs:=CV) F hr hb hd hx I1 xTf q)
universe L2
namespace K25.Ck
open PySem L2 QQ W17 W16 BP
seal PE PA PS PSs PT PW PG PI
abbrev xsq:M5:=top 137
abbrev xtU:M5:=top 138
abbrev xs5:M5:=top 139
structure Erk (K:Frag)(mg:Β)(cP cR cC cB:MV):Prop where
 mP:xYW=TD cP
 xP:SS cP
 mR:xLt=TD cR
 mC:x2r=TD cC
 mB:xDT=xOE
 eR:xCt cP cR
 eC:xCt cP cC
 eB:xCt cP cB
def Ers.ek {cP:MV}{cs:υ}(Z:zN):∃cR cC cB,Aq cs 0 cR/\Aq cs 13 cC/\Aq cs 14 cB/\Erk K mg cP cR cC cB:=by
 obtain⟨c0,c1,c2,c3,c4,c5,c6,c7,c8,c9,c10,c11,c12,c13,c14,c15,c16,c17,e⟩:=Z.len;have e0:Aq cs 0 c0:=by show Dn
 have e1:Aq cs 13 c13:=by show Dn
 have e2:Aq cs 14 c14:=by show Dn
 exact⟨c0,c13,c14,e0,e1,e2,Z.mP,Z.xP,Z.m 0 _ _ rfl e0,Z.m 13 _ _ rfl e1,Z.m 14 _ _ rfl e2,(Z.k 0 _ _ xzz e0).1,(Z.k 13 _ _ (.inr xzz) e1).1,(Z.k 14 _ _ (.inr eQ) e2).1⟩
def Tol (H:Hp)(Q:VK)(z:Str):Prop:=∀t H',Ι->kz t [xzQ]->xOT
def Tol.of {cs:υ}(k:xOB Q z)(s:mE)(he:vz e)(hi:xIp C)(hw:WdI i z):xqf cs [DZ] (upd H1 e (ET (exO Ap vx) e)) Q E:=
 ⟨e,C,i,z,rfl,⟨vx,ad⟩,hi,hw,λ t H2 s2 ht=>k t H2 (x7k (ak he) s2) ht⟩
inductive spFed (K:Frag) (Cp Ce CO CK:MV) (vs:NE) (H:Hp) (Q:VK) (Nf:XK):Prop
 |row (p dx r:MV) (x:V) (h0:vs=[Bw,x]) (hp:CI=dE Cp cx) (h1:xFb H x) (h2:xOB Q "row")
 |bhd (p a:MV) (N:Wk) (T r:Id) (Rs:CA) (j:Nat) (h0:vs=we) (h1:xXa true j []) (h2:XL=gR) (h3:Eg r) (h4:xD3) (h5:r≠ []) (h6:xOB Q "behind")
 |good (p a:MV) (N:Wk) (T r rest:Id) (Rs:CA) (j:Nat) (fn:Bool) (h0:vs=we) (h1:xP6 j (oJ r)) (h2:wm) (h3:W5) (h4:vX) (h5:XL=gR) (h6:Eg r) (h7:xD3) (h8:∀lo l j' SF H',Ξ->H' lo=Φ [A8]->AL=cU j' (64*j)->Ze (λ c=>UU/\sk) H' SF j'->j≤j'->(∀c o,W1=IO->Γ->AE=IO)->x2x lo)
def scFed:Uf ["_law_opener","_law_thing","_law_e"] xKV xsq:=Sc
def xnN {cP:MV}{cs:υ}(F:Ζ "_law_fed" xsq xKV)(Z:wZ)(O:RM)(Wd:xPT)(Er:zN):AH 44 xKV (spFed K Cp Ce CO CK):=by
 obtain⟨cR,cC,cB,iR,iC,iB,Y⟩:=Er.ek;show yd Fe O.feed GW (xum (P:=P) (w:=w) (base:=base) Wd Z.pr.H.N.X Er);have GF:=(xpG (P:=P) (w:=w) (base:=base) (CO:=CO) (CK:=CK) Fe.F Z O Y.mR Y.eR.x Y.mB Y.eB.x).or (xpU (P:=P) (w:=w) (base:=base) Fe.F Z O);refine F.F.ok scFed (λ M7 A outer st H vs Q E hr h=>?_) (by intro _ _ _ _ h;cases h<;>subst_vars<;>rfl);intro _;refine lE (xtx (i:=2) scFed.nd rfl rfl Z7 Y.mP Y.xP rfl rfl rfl
   (λ pn σ0 E=>f9 (gJ (xhp SZ O.cl Fe.m GF hr Fe.b .nil (xst rfl) m8)))
   (λ e G=>f9 (BI GW x2L Wd.m Wd.F.kp Wd.b Rl)))
 cases h with
 |row p dx r x h0 hp hN k=>
  subst h0;refine⟨rfl,_,rfl,p,dx,_,rfl,hp,D8,_,rfl,.inl (xWn dx r p p p p xRI x rfl hN (jY cR Y.eR.x Y.eR.n Y.eR.s (τ e vx he)))⟩;exact Υ (k.of xzb he iR xzz)
 |bhd p a N T r Rs j h0 ho ha hb hl OZ k=>
  subst h0;show vi dx hp ho;refine⟨rfl,_,rfl,p,dx,_,rfl,hp,D8,_,rfl,.inl (.fin p a N T r Rs j rfl ho ha hb hl (vh z z OZ) λ _ H1 s1=>jY cB Y.eB.x Y.eB.n Y.eB.s (τ e vx he))⟩;exact Υ (k.of s1 he iB (.inr eQ))
 |good p a N T r rest Rs j fn h0 ho hT Oi hN ha hb hl k=>
  subst h0;show xX7 dx hp op ho;refine⟨rfl,_,rfl,p,dx,_,rfl,hp,D8,_,rfl,?_⟩;have fin:∀l j' SF H1,Ξ->H1 l=cU j' (64*j)->Ze (λ c=>UU/\sk) H1 SF j'->j≤j'->(∀c o,W1=IO->Γ->xCk=IO)->xqg Q [x3C] H1:=λ l j' SF H1 nl ON XR hj fr=>vV (by show qa) lo XH (by
   have s2:=Az [x3C] XH;exact k lo l j' SF _ nl ad (C7 ON) (XR.keep λ c o e _=>jQ) hj λ c o e n=>C7 (xGl e n))
  cases fn with
  |true=>
   obtain⟨ej,_,er⟩:=x1s;show WY (xX6 er);show p9 (.inl (.fin p a N T [] Rs j rfl ho ha hb hl (λ _ l H1 nl ON XR fr=>fin l j true H1 nl ?_ XR UV fr) (vh z rfl z))) (AI (pA j (64*j)) [] (HB (by show UK DN))) ON
  |false=>show CU ⟨p,a,N,T,r,rest,Rs,j,rfl,ho,hT,Oi,hN,ha,hb,hl,λ l j' SF H1 nl ON XR hj fr=>fin l j' SF H1 nl ON XR hj fr⟩
inductive xjX (Cp Ce CO CK:MV) (vs:NE) (H:Hp) (Q:VK) (Nf:XK):Prop
 |mk (p:MV) (N:Wk) (T rest:Id) (Rs:CA) (j:Nat) (fn:Bool) (h0:vs=Bf) (h1:Ze N H fn j) (h2:xGQ->∀t H',Ι->H' t=Φ xAr->xOT) (h3:xGN->xOB Q "cut"):xjX Cp Ce CO CK vs H Q Nf
def xjS:Uf ["_law_opener","_law_e"] xKR xs5:=Sc
def xeH {cP:MV}{cs:υ}(F:Ζ "_law_finished" xs5 xKR)(Z:wZ)(O:RM)(Wd:xPT)(Er:zN):rA xKR (xjX Cp Ce CO CK):=by
 obtain⟨cR,cC,cB,iR,iC,iB,Y⟩:=Er.ek;show yd Fi O.fin GW (xum (P:=P) (w:=w) (base:=base) Wd Z.pr.H.N.X Er);have GF:=xbe (P:=P) (w:=w) (base:=base) (CO:=CO) (CK:=CK) Fi.F Z.tt O Y.mC Y.eC.x;show Al xjS (λ M7 A outer st H vs Q E hr h=>?_);obtain⟨p,N,T,rest,Rs,j,fn,rfl,ho,k,kC⟩:=h;refine lE (xtx (i:=1) xjS.nd rfl rfl Z7 Y.mP Y.xP rfl rfl rfl
   (λ pn σ0 E=>f9 (gJ (xfG SZ O.cl Fi.m GF hr Fi.b .nil (xst rfl))))
   (λ e G=>f9 (BI GW x2L Wd.m Wd.F.kp Wd.b m8)))
 show vi dx hp ho;refine⟨rfl,_,rfl,p,dx,_,rfl,hp,D8,p,N,T,rest,Rs,j,fn,rfl,ho,λ e=>jA (λ lo XH=>k e lo _ (ak XH) ad),λ e'=>jY cC Y.eC.x Y.eC.n Y.eC.s (τ e vx he)⟩;exact Υ ((kC e').of xzb he iC (.inr xzz))
def xd1 {ns:Id}{y:V}(h:sV=Φ (ns.map vN++y::ys))(hb:∀n∈ns,EB n)(hy:Rf.WhV K H y 0 255 false):xFb H A8:=
 .inr ⟨l,_,ns.length,y,rfl,h,λ i hi=>⟨ns[i],rD (HU hi),by rw [G7 (by show Ai hi),Gs,FL hi];rfl⟩,by rw [Gv (by show Ai UV),Fy,JV];rfl,hy⟩
inductive xko (vs:NE) (H:Hp) (Q:VK) (Nf:XK):Prop
 |mk (n:Nat) (h0:vs=[Qh]) (h1:xOB Q "row"):xko vs H Q Nf
def xkb:Uf (xXW "_law_e") xRx xtU:=Sc
def xhr {cP:MV}{cs:υ}(F:Ζ "_law_no_row" xtU xRx)(Op:Dv "opened" xwi Jal fo fdo)(Z:wZ)(O:RM)(Wd:xPT)(Er:zN):AH 45 xRx xko:=by
 obtain⟨cR,cC,cB,iR,iC,iB,Y⟩:=Er.ek;have GW:=xum (P:=P) (w:=w) (base:=base) Wd Z.pr.H.N.X Er;have GO:=xfl (P:=P) (w:=w) (base:=base) Op Z O Y.mR Y.eR.x Y.mB Y.eB.x;show Al xkb (λ M7 A outer st H vs Q E hr h=>?_);show Bq n rfl k h (lE (xtx (i:=1) xkb.nd rfl rfl Z7 Y.mP Y.xP rfl rfl rfl
   (λ pn σ0 E=>f9 (gJ (xf8 GO hr Z7 Op.m Op.F.kp Op.b .nil (xst rfl) (Bx (xv9 (xg9 (K:=K) rfl) (aK (aa cz (aa (xvt (WS aj aj aj)) (xCf (xBv aj aj aj) cm xhl (gJ cf))))) (Qu SZ) jG)))))
   (λ e G=>f9 (BI GW x2L Wd.m Wd.F.kp Wd.b m8))))
 refine Wr (by show jy 3) (λ l1 n1=>vV (by show jy 3) l2 n2 (λ l3 n3=>vV (by show qa) l4 n4 (Bh (by show jy 6) l5 n5)));have h1:=xXx H l1 (.tup [zx,b9,zI]);show hJ s1 (zG [zx,b9,zI] n1) (qU l1 [zx,b9,zI]) H1;have h2:=xCY H1 l2 [zx,b9,xFU];have s2:=Az [zx,b9,xFU] n2;show BE H1 l2 [zx,b9,xFU] H2 h3 (xXx H2 l3 xMW);show hJ s3 (xXO xMW n3) (upd H2 l3 xMW) H3;have h4:=xCY H3 l4 xID;have s4:=xIx xID;show BE H3 l4 xID H4 h5 (xCY H4 l5 [.non,Nv,Hq,xS1,NS,N6]);have s5:=xIW [.non,Nv,Hq,xS1,NS,N6];show BE H4 l5 [.non,Nv,Hq,xS1,NS,N6] H5 s45 xRO;have s35:=x8j;have s25:=x8k;have sA:=x8l;show SX x hx hN x (Aq [V.non,Nv,Hq,xS1,NS,N6] (n/9%6) x/\Ft (C' H5 H'->xFb H' x)) (by
  have hj:n/9%6<6:=tW;generalize n/9%6=j at hj;rcases j with _|_|_|_|_|_|j
  ·exact Υ (λ _ _=>XB .non K)
  ·exact Υ (λ _ s=>XB (.tup (E6 (s25 _ _ h1))) K)
  ·exact Υ (λ _ s=>xNd [184,66] (E6 (s35 _ _ h2)) (by decide) (xIu 256 rfl))
  ·exact Υ (λ _ _=>XB (.str _) K)
  ·exact Υ (λ _ s=>XB (.dK (E6 (s45 _ _ h3))) K)
  ·exact Υ (λ _ s=>xNd [] (E6 (AZ h4)) nofun (xTK kX))
  ·show AX hj (by lia))
 refine⟨_,rfl,_,_,rfl,rfl,cN,_,_,rfl,rfl,(by show sf 6),l5,_,_,x,rfl,rfl,Ng.of h5,xym (n/9%6) hx,x,rfl,hN,λ H6 s6=>jY cR Y.eR.x Y.eR.n Y.eR.s (τ e vx he)⟩;exact Υ (k.of (sA.trans s6) he iR xzz)
abbrev xts:M5:=top 140
inductive xlq (Cp Ce CO CK:MV) (vs:NE) (H:Hp) (Q:VK) (Nf:XK):Prop
 |mk (p:MV) (N:Wk) (T rest:Id) (Rs:CA) (j:Nat) (fn:Bool) (n:Nat) (h0:vs=[Bw,xUP,Qh]) (h1:Ze N H fn j) (h2:Ft (Ι->Fj kX)):xlq Cp Ce CO CK vs H Q Nf
abbrev xg6:An:=["_law_opener","_law_whole","_law_way","_law_turn","_law_found"]
def xqo:Uf xg6 xRC xts:=Sc
inductive xjQ (H:Hp) (p:MV) (fn:Bool) (n:Nat) (i:Nat) (σ:St) (H2:Hp):Prop
 |mk (v3:BV) (v4:BV) (h0:σ=[Qg,some xUP,yc,v3,v4]) (h1:SR):xjQ H p fn n i σ H2
def xf1 {cP:MV}{cs:υ}(F:Ζ "_law_stands" xts xRC)(Z:wZ)(O:RM)(Wd:xPT)(Fi:Dv "_law_finished" xs5 xKR ff fdf)(Er:zN):sD xRC (xlq Cp Ce CO CK):=by
 have X:=Z.pr.H.N.X;show yd Ov O.over GV (xs4 (P:=P) (w:=w) (base:=base) (CO:=CO) (CK:=CK) Ov.F Z.tt O);have GF:=xeH (P:=P) (w:=w) (base:=base) Fi Z O Wd Er;show Al xqo (λ M7 A outer st H vs Q E hr h=>?_);obtain⟨p,N,T,rest,Rs,j,fn,n,rfl,ho,k⟩:=h;have NA:Bv:=UF;show xCZ;show rF hu0 hr.units0 (Tg (Wt (xBn my) 3 xqo.nd (vP 4 xqo.nd (BN SZ O.cl Ov GV) (xuF (xmp x2W (xEz (o7 xqD cf) (o7 xqD cf)))) (sQ (xuF (xEz x2W (o7 xvR PP))) (xuF (xEz x2W (CZ ((xL6).either (xim hu)) (g9 GF Fi SZ) (xvo (xvv PP) (gJ cz) xE2))))))) (f9 cf)) (o9 ⟨2,rfl,Z9,Z9,oR 0 2 (xjQ H p fn n) (VT none none xzb) ?_ ?_⟩)
 ·rintro i σ H2 hi ⟨v3,v4,rfl,s2⟩;have V2:=ho.keep λ c o e _=>jQ
  show vi dx hp V2;clear g;show ZX ⟨_,rfl,p,dx,_,rfl,hp,D8,p,N,T,rest,Rs,j,fn,rfl,V2,Aa⟩;have h2:Gl<2:=by decide
  refine eK g ((x4b) Aa)
  ·refine⟨_,rfl,_,rfl,_,_,rfl,rfl,_,_,rfl,rfl,h2,rfl,_,rfl,x29 (mO _ fn true _ ?_) x3M⟩;cases fn with
   |true=>exact aV (aV J)
   |false=>exact cy (mO _ false false _ (aV J))
  clear g;refine eK g ((x4b) Aa)
  ·refine⟨_,rfl,_,rfl,_,_,rfl,rfl,_,_,rfl,rfl,h2,rfl,_,rfl,x29 ⟨_,rfl,_,rfl,?_,_,rfl,?_⟩ x3M⟩
   ·cases fn<;>rfl
   ·show LT QN (aV J)
  clear g;refine⟨_,rfl,_,rfl,_,_,rfl,rfl,_,_,rfl,rfl,h2,rfl,_,rfl,x29 ⟨_,rfl,p,N,T,rest,Rs,j,fn,rfl,V2,λ e t H3 s3 ht=>?_,λ e t H3 s3 ht=>?_⟩ (λ _=>aV (VT _ _ s2))⟩
  ·subst e;refine Zk _ (cy (Bh (by show qa) l nl));have s4:=xBU xAr;show CU ⟨t,l,rfl,rfl,⟨xAr,xAr,Ng.of (ES ht),OM,rfl,λ i x y h1 h2=>.inl ⟨Gg (h1.symm.trans h2),.inl (by rcases i with _|i<;>cases h1;rfl)⟩⟩,_,rfl,aV (VT _ _ xZb)⟩
  ·subst e;refine Zk _ (aV (Bh (by show qa) l nl));have s4:=zG [.str "cut"] nl;show BB (ue t l (.inl ⟨_,_,ND.of (ES ht),jh,_,rfl,xES (VT _ _ xZb)⟩))
 ·rintro σ H2 ⟨v3,v4,rfl,s2⟩;exact g _ _ (iE s2)
abbrev xtm:M5:=top 141
def xcc (K):mV kh xDw false:=by
 show eG (SL (if(Value.type "list"==Value.type "tuple")=true then some true else if kitMeta "tuple"=true then(fastBuiltinMro "list").map (·.contains (.type "tuple")) else none) false)
def xaK (hx:0≤x)(hy:y=0\/y=1)(hb:xS n):∃e:Nat,xS e/\wa e/\oP (eN+x*y<AA) (eN+x*y) AA=Ε e:=by
 show DR h0 (0≤x*y) (by rcases hy with rfl|rfl<;>lia) (x*y) z
 split
 ·exact⟨xy eN z,Z5,Z5,Z5⟩
 ·exact⟨n,hb,UV,rfl⟩
inductive xkM (Cp Ce CO CK:MV) (vs:NE) (H:Hp) (Q:VK) (Nf:XK):Prop
 |mk (p a:MV) (N:Wk) (T Z:Id) (Rs:CA) (b m j:Nat) (fn:Bool) (h0:vs=[Bw,ω,fb,D1]) (h1:xP6 j wM) (h2:wm) (h3:W5) (h4:vX) (h5:XL=Φ k7) (h6:Eg Z) (h7:xR6) (h8:xR7)
  (h9:∀t l e j' SF H',xS e->e≤Z.length->Ξ->kz t [vN e,A8]->AL=cU j' (64*j)->xED (λ c=>UU/\sk) H' SF j' xSO->j≤j'->(∀c o,W1=IO->Γ->AE=IO)->xOT):xkM Cp Ce CO CK vs H Q Nf
abbrev xbA:An:=["_law_opener","_law_bale","_law_begin","_law_more","_law_end","_law_handed","_law_found"]
def xsa:Uf xbA Jan xtm:=Sc
def xho {cP:MV}{cs:υ}(F:Ζ "_law_piece" xtm Jan)(Y:wZ)(O:RM)(Wd:xPT)(Fe:Dv "_law_fed" xsq xKV ff fdf)(Er:zN):AH 45 Jan (xkM Cp Ce CO CK):=by
 have X:=Y.pr.H.N.X;have GF:=xnN (P:=P) (w:=w) (base:=base) Fe Y O Wd Er;show Al xsa (λ M7 A outer st H vs Q E hr h=>?_);obtain⟨p,a,N,T,Z,Rs,b,m,j,fn,rfl,ho,hT,Oi,hN,ha,hZ,hl,hb,k⟩:=h;show xCZ;have hu0:=hr.units0;show rF hn xD (Tg (xuF (xEz (Ww (ji π)) (CZ xL6 (UC GF Fe SZ (gM (aK (aa cz (aa (xvt my) (xCf (aK (xzG aj)) cm (gJ cf) (jT aj (xxh xyd aj)))))) (Qu π))) xE2))) (Cg 4 xsa.nd (bF xTP X.min Kx (vJ PP) (xVe (ap xx6 (ap xxB (xBT π) (E8 aj (vJ PP))) (xvu xlZ Z7 X.int Kw (Bx (dH cL (Qu π) aj bZ)))))) (Cg 5 xsa.nd (gk PP Ty Ν) (oG 6 xsa.nd (UC GF Fe SZ C8) (xuF (xvk (xvv (bF dg X.isi Hn bu (Qq (v:=.ty "tuple") Er.tuple K5))) (xvk (wK (bF dg X.isi Hn (xyD xv8 bu) (Qq (v:=x0H) X.list HA))) (xsE (CZ fJ C8 (gk PP Ty Ν)))))) (aB (xms Gn G6 Hd xqR C8 my)) (Y4 Ν (xyD xv8 bu)))))) (eK g ((λ(J:∀H1,C' H H1->R1 [some (.ref p),some (.ref a),some (vN b),some (vN m),none,none,none] H1)=>?_) (qP H1 s1)))
 ·clear g;show Wp ⟨_,rfl,_,_,rfl,rfl,(by show sf 4),rfl,_,rfl,aT EH (λ _=>aV (J H xzb))⟩ (oC (by show qa) (λ l1 n1=>vV (by show b8) l2 n2 (vV (by show qa) l3 n3 (oC (by show b8) (λ l4 n4=>Bh (by show jy 6) l5 n5)))));have h1:=xXx H l1 (.tup [zI]);show hJ s1 (zG [zI] n1) (qU l1 [zI]) H1;have h2:=xCY H1 l2 [zI,xFU];have s2:=Az [zI,xFU] n2;show BE H1 l2 [zI,xFU] H2 h3 (xCY H2 l3 xID);have s3:=Az xID n3;show BE H2 l3 xID H3 h4 (xCY H3 l4 [zx,xWg 1]);have s4:=xIx [zx,xWg 1];show BE H3 l4 [zx,xWg 1] H4 h5 (xCY H4 l5 [.non,Nv,Hq,xWp,NS,N6]);have s5:=xIW [.non,Nv,Hq,xWp,NS,N6];show BE H4 l5 [.non,Nv,Hq,xWp,NS,N6] H5 s45 xRO;have s35:=x8j;have s25:=x8k;have sA:=x8l;show SX x hx hN x (Aq [V.non,Nv,Hq,xWp,NS,N6] (m/4%6) x/\xFb H5 x) (by
   have hj:m/4%6<6:=tW;generalize m/4%6=j at hj;rcases j with _|_|_|_|_|_|j
   ·exact Υ (XB .non K)
   ·exact Υ (XB (.tup (s25 _ _ h1)) K)
   ·exact Υ (xNd [1] (s35 _ _ h2) (by decide) (xIu 256 rfl))
   ·exact Υ (XB (.str _) K)
   ·exact Υ (xNd [] (s45 _ _ h3) nofun (xTK kX))
   ·exact Υ (xNd [184] (AZ h4) (by decide) (xIu (-1) rfl))
   ·show AX hj (by exact(xOU (.n 6) (xNk (xNk cW)))))
  obtain⟨dx,r,_,_,_,_,_,_,_,hp,_⟩:=id ho;refine⟨_,rfl,_,_,rfl,rfl,cN,_,_,rfl,rfl,(by show sf 6),l5,_,_,x,rfl,rfl,Ng.of h5,xym (m/4%6) hx,xWn dx r x rfl (sA _ _ hp) hN λ t6 H6 s6 h6=>Bh (by show qa) t7 n7⟩;have s7:=zG [x2s] n7;exact ue t6 t7 (.inl ⟨_,_,ND.of (xCN h6),jh,_,rfl,xES (J _ (sA.trans (s6.trans s7)))⟩)
 clear g;have Vo:=gO;show rF XR (ho.keep λ c o e _=>D4) (xLE g) ⟨_,rfl,a,_,rfl,AN Vo,_,rfl,_,rfl,_,_,rfl,rfl,cN,_,rfl,a,_,rfl,AN Vo,_,_,rfl,rfl,_,_,rfl,rfl,(by show Gl<1+zB k7;exact(WW (RE DW bq))),_,rfl,_,_,rfl,rfl,cN,_,_,rfl,rfl,(by show sf 4),?_⟩;have hy:∀k,(E1 k E7 0)=0\/(E1 k E7 0)=1:=λ k=>by cases k;exact Dm;exact xj
 have h01:∀k,-(2^64)<(E1 k E7 0)/\(E1 k E7 0)<2^64:=λ k=>by cases k<;>decide
 show Z1 (ue _ _ (.inr ⟨_,rfl,_,_,rfl,rfl,.inr (h01 _),_,_,rfl,rfl,_,_,rfl,Aa⟩)) g;obtain⟨e,he1,Ud,ee⟩:=xaK (b:=b) (n:=(k7).length) (x:=zU/24%(1+zB k7)) (x50 Z5) (hy (vB Gl (uf/7%4))) (by show Ai hb);rw [Fy] at Ud
 try dsimp only
 rw [ee];show ZX ⟨_,rfl,_,rfl,_,rfl,_,rfl,_,rfl,a,_,rfl,x1O,qP lh nh⟩;have eS:ky k7 (gh b) (Ε e)=Ο (oM wM e b):=by rw [xoC _ he1,<-IN,<-IP]
 have eA:oM wM e b++xSO=wM:=by
  have:xSO=(wM).drop (e-b):=by rw [Ih,AI (b+(e-b)) e (Hh he1)]
  rw [this,Gf]
 have hSb:Eg (oM wM e b):=λ x hx=>hZ x (G8 xE8)
 have hSl:El (oM wM e b) 1900:=by rw [FW,FU];exact(Z3 [_,_,_] 1 Dz (Br 1900 DC) LE 1900 hl (Fx rV Qn))
 try dsimp only
 rw [eS];generalize oM wM e b=S at*;have s2:=Az WV nh;have hh2:Du H1 lh WV lh=zW:=ad;have nlh:A1 lh:=vK nh;show BE H1 lh WV H2 V2 (XR.keep λ c o e _=>jQ)
 rw [<-eA] at V2;have XF:=dn;show vm NB V2;show ZX (Zk _ (.good p lh N T S xSO Rs j fn rfl V2 hT Oi hN hh2 hSb hSl λ lo l j' SF H3 nl Qm Ou ho3 hj SE=>Aa));have away:∀{c} {xs},yf=Ar->x3=Ar:=Re (BZ z (Ve NB (by show Τ)))
 have ha3:=away (C7 Vo);have hh3:=away hh2;show E9 (o9 ⟨_,rfl,_,_,_,_,rfl,.lst Qm,xcc K,_,rfl,oo⟩) ⟨_,rfl,lo,_,_,_,rfl,rfl,Ng.of Qm,tO,_,_,_,_,rfl,.lst Ou,xyh K,_,rfl,oo⟩ ⟨_,rfl,_,rfl,_,rfl,_,rfl,_,rfl,_,rfl,a,_,rfl,Ng.of ha3,SC ls ns⟩
 try dsimp only
 rw [eS];have s4:=Az WV ns;have Uj:Du H3 ls WV ls=zW:=ad;show EI H3 ls WV H4 ⟨lh,ls,_,_,rfl,rfl,by show xND gL (ES hh3),by show xND gL Uj,_,rfl,xES Aa⟩;clear g;have hh4:=ES hh3;show ZX ⟨_,rfl,oI hh4,lh,_,_,rfl,rfl,hh4,bx (by show Ai (FK hSl (by decide))),Aa⟩;have XH:lo≠lh:=Re (by
  show xzL z hh3 Qm Qm q
  injection q with q
  cases S with
  |nil=>cases q
  |cons _ _=>cases q)
 have nl2:ZZ lh:=Re (by show B0 hh2 nl nl)
 refine⟨_,rfl,_,rfl,lo,[x3C],_,_,rfl,rfl,Ng.of (by show XV XH (ES Qm)),tO,(by show b8),SC t5 n5⟩;show rF s5 (zG [vN e,A8] n5) (k t5 l e j' SF _ he1 Ud (xm XF) ad (AZ (by show XV nl2 (ES Ou))) ?_ hj λ c o z n=>AZ (by show Ez z nlh (ES (BZ (XF _ _ z) n)))) (((ho3.keep λ c o z _=>ES z).keep λ c o z hc=>AZ (by
  rw [ai]
  ·exact z
  ·intro y;subst y;show mx hc hc
   ·cases hh2.symm.trans NB
   ·cases hh2.symm.trans eV)).mono λ c o _ _ hc=>⟨x01 eV,hc.2⟩)
abbrev xsz:M5:=top 142
inductive xk1 (vs:NE) (H:Hp) (Q:VK) (Nf:XK):Prop
 |mk (lh l:MV) (m:Nat) (ts:υ) (L:Id) (h0:vs=[.ref lh,A8,D1]) (h1:H lh=ay) (h2:ts.length≤100) (h3:sV=vt) (h4:ZZ lh) (h5:∀t q H',A1 t->A1 q->H' lh=xWK [t]->kz t [A8,Y5]->H' q=vt->Fu (∀c o,W1=IO->EC lh->AE=IO)) (h6:Ft (Fu (∀c o,W1=IO->sk->AE=IO))):xk1 vs H Q Nf
def xca:Uf Jam Jam xsz:=Sc
def xib (F:Ζ "_law_kept" xsz Jam)(X:wq):fV Jam xk1:=by
 show Al xca (λ M7 A outer st H vs Q E hr h=>?_);obtain⟨lh,l,m,ts,L,rfl,hh,ht,hl,OZ,k1,k2⟩:=h;show Qt (xHK (Ww (Qu Ty)) (U9 SZ (Y4 PP (xS8 HA m8))) (aB (x6k Gn Lx xl9 PP))) ⟨_,rfl,_,_,rfl,rfl,cN,_,_,rfl,rfl,(by show sf 2),rfl,_,rfl,aT EH EH⟩
 ·refine⟨_,rfl,oI hh,_,rfl,_,rfl,l,_,rfl,AN hl,SC q nq⟩;have s1:=Az gU nq;have hq:Du H q gU q=vt:=ad;show EI H q gU H1 (Bh (by show b8) t nt);have s2:=OD [A8,Y5];have ZG:Fm ((dt H1 t [A8,Y5]) t) [A8,Y5]:=ad;have Sf:=C7 hq;show hJ s2 dn (dt H1 t [A8,Y5]) H2;have hh2:=C7 hh;refine Fb lh _ _ rfl hh2 (bx (by show Ai (FK ht (by decide)))) ?_;exact k1 t q _ (vK nt) nq (by rw [ad,FV];rfl) (Tq (aF ZG hh2 (nofun)) ZG) (Tq (DH hh nq) Sf) λ c o e n=>xAC jQ
 ·exact aN _ (oI hl) l _ rfl rfl hl (k2 _ λ c o e n=>xJn)
def Rj (H:Hp)(l:MV)(ts:υ):Prop:=sV=ay/\∀t∈ts,∃(a b:MV) (L:Id),a≠l/\qZ l/\Ob [ω,EY]/\XL=vt/\E5=vt
def Rj.keep (h:Rj H l ts)(k:∀c o,W1=IO->(∀C dx fs,o≠ xPz)->AE=IO):Rj H' l ts:=vV (xS5 DJ) t ht (by
 obtain⟨a,b,L,n1,n2,h1,h2,h3⟩:=fG t ht;exact⟨a,b,L,n1,n2,xS5 h1,xS5 h2,xS5 h3⟩)
def Rj.step (h:Rj H l ts)(k:∀c o,W1=IO->sk->AE=IO)(hl:AL=xWK [t])(na:a≠l)(nb:qZ l)(ht:kz t [ω,EY]){L:Id}(ha:H' a=vt)(hb:yC=vt):Rj H' l (ts++[t]):=by
 refine Bh hl x hx;show EM hx hx hx
 ·obtain⟨a',b',L',n1,n2,h1,h2,h3⟩:=fG x hx;exact⟨a',b',L',n1,n2,zf h1 (aF h1 DJ (nofun)),zf h2 n1,zf h3 n2⟩
 ·show Qe hx ⟨a,b,L,na,nb,ht,ha,hb⟩
def xmV (Rs:CA)(j):xIl+x44 j=Rs.flatten.length:=by
 rw [<-FD,<-IR,Gf]
def xm2 {Rs:CA}(h:xCB):vn i≤xIl:=by
 rw [<-Gf i (Rs.take j),Ms,G2 h,IR,FD];exact rQ
def Op.due (h:xPR fn j G W wM)(hZ:Z=oH)(hN:vX)(hb:xR7):(∀i,i<Bn->((xM8 i).1≤b<->i<j))/\x14 b=fn:=by
 have hl:Z.length=3+(x8m 11):=by rw [hZ];unfold rem;rw [FD,Iy,FD];rfl
 have hd:B4 wM (Z.length-b):=FU;cases fn with
 |true=>
  obtain⟨ej,_,er⟩:=h.fi rfl;have e0:=yt er;have eb:b=Z.length:=by show ρ hd e0 (FA hb (Nat.le_of_sub_eq_zero e0))
  refine⟨λ i hi=>⟨λ _=>by show LT ej hi,EH⟩,FM eb⟩;have:=xmV Rs (i+1);show 3+vn (i+1)≤b;lia
 |false=>
  have e:=yt (h.re rfl);rw [FD,hd] at e;have nz:Ρ (x14 b):=by
   refine Ik xw
   show B0 LH h (h.done hN).1
  refine⟨SC i hi,nz⟩;show 3+vn (i+1)≤b<->i<j;cases bg with
  |false=>
   obtain⟨ej,_,h3⟩:=x0P;rw [NZ,<-hZ] at e;subst ej;constructor<;>intro<;>lia
  |true=>
   show Ay hw x3U AD e;have hs:=xmV Rs j;have hr:B4 xBD (x44 j+11):=by show CS rem FD;rfl
   constructor
   ·intro h1;refine Ko xw
    have hjR:bK j:=by show LT xOz (GQ z hi)
    have e2:vn (j+1)=xBo xIl Rs[j]:=by rw [<-KY hjR,IR,FD];simp
    have:=xm2 (Rs:=Rs) (Je z);rw [(xwf hjR).2] at hw;lia
   ·intro h1;have:=xm2 (Rs:=Rs) (Nat.succ_le_of_lt h1);lia
theorem xvK.due (h:xP6 j wM)(hZ:Z=oH)(hN:vX)(hb:xR7):(∀i,i<Bn->((xM8 i).1≤b<->i<j))/\x14 b=fn/\j≤Bn:=by
 show x4A h;show De h1 h2 (op.due hZ hN hb) ⟨h1,h2,op.jn⟩
theorem xvK.done (h:xP6 j [])(hN:vX):xGQ/\j=Bn:=by
 show x4A h;exact op.done hN
def xs3 {r rest:Id}(ho:xP6 j (oJ r))(hT:wm)(Oi:W5)(hN:vX)(ha:XL=gR)(hb:Eg r)(hl:xD3)(k:∀l j' SF H',Ξ->AL=cU j' (64*j)->Ze (λ c=>UU/\sk) H' SF j'->j≤j'->(∀c o,W1=IO->Γ->AE=IO)->AS):xkk K Cp Ce CO CK cR cB we H Q E\/xqq Cp Ce CO CK we H Q E:=by
 show xX7 dx hp op ho;cases fn with
 |true=>
  obtain⟨ej,_,er⟩:=x1s;show WY (xX6 er);show p9 (.inl (.fin p a N T [] Rs j rfl ho ha hb hl (λ _ l H1 nl ON XR fr=>qb j true H1 nl ?_ XR UV fr) (vh z rfl z))) (AI (pA j (64*j)) [] (HB (by show UK DN))) ON
 |false=>show CU ⟨p,a,N,T,r,rest,Rs,j,rfl,ho,hT,Oi,hN,ha,hb,hl,k⟩
abbrev iT:M5:=top 143
structure All (K:Frag)(mg:Β)(B D G0 CW C0 C1 C2 C3 c CK Ny CO Cq C G Ce Cp cP:MV)(cs:υ):Prop where
 Z:x8R G0 CW C0 C1 C2 C3 c CK Ny CO Cq
 R:xsU K mg B D G0 CW C0 C1 C2 C3 CK Ny CO C G Ce
 O:RM
 E:zN
 pressed:Δ "pressed" xpI xTD
 opened:xIw "opened" xwi
 cell:Δ "_law_cell_at" xua xLk
 mixed:Δ "_law_mixed" xyf xDB
 word:Δ "_law_word" xr2 xKE
 text:Δ "_law_text" xsy xQY
 ends:Δ "_law_ends" xtA xRw
 fed:Δ "_law_fed" xsq xKV
 norow:Δ "_law_no_row" xtU xRx
 finished:Δ "_law_finished" xs5 xKR
 stands:Δ "_law_stands" xts xRC
 piece:Δ "_law_piece" xtm Jan
 kept:Δ "_law_kept" xsz Jam
inductive xxN (K:Frag) (Tb:MV) (vs:NE) (H:Hp) (Q:VK) (Nf:XK):Prop
 |mk (a:MV) (ns:wd) (h0:vs=CV) (h1:xCP a U7) (h2:wQ Tb xD5) (h3:xJr) (h4:Ft (Fj kX)):xxN K Tb vs H Q Nf
abbrev Fa:An:=["_law_script","_law_cell","_law_text_here","_law_bale","_law_ends_here","_law_opener","_law_other","_law_beside","_law_told","_law_held","_law_begin","_law_k","_law_more","_law_found","_law_due","_law_turn"]
def NY:Uf Fa xRg iT:=Sc
def xir (hK:X.K=K)(hu:xPv):xEB (rNeL K):=by
 show DI hK fJ
def xfI (hx:xDy x ([xFd,yJ a,yJ b,xFT y]:xu4) .cell\/xDy x ([xFd,yJ a,yJ b,xFT y]:xu4) .free):x=y:=by
 rcases hx with hx|hx
 ·have m':=dv;show xXp
 ·have m':=dv;simp at m'
def xa6 {a b c x:Str}{i j k:Nat}(h1: vw [a,b,c])(h2: A7 [none,none,some k] (some j)):x=c/\j=k:=by
 rcases i with _|_|_|i
 ·cases h2
 ·cases h2
 ·show vS h1 h2;exact vf
 ·cases h1
def xhX:xE ["_law_at","_law_total","_law_begin"]:=Z8
def xcm:xE x7N:=Z8
abbrev xh4:TT:=xvQ (xFm (λ i j=>.bl (qF i j)) fh (xwA 2))
inductive LInv (Cp Ce CO CK a lt lb le p q l8 lh:MV) (n:Nat) (T Z:Id) (Rs:CA) (H0:Hp) (i:Nat) (σ:St) (H':Hp):Prop
 |mk (b j:Nat) (ld:MV) (v11 Xb X6 XD:BV) (ts:υ) (fn:Bool) (N:Wk) (h0:σ=[Bm,yc,TD lt,xOH,TD le,Qg,TD q,TD l8,TD ld,TD lh,RW,v11,Xb,X6,XD,none]) (h1:xR7) (h2:ld≠lh) (h3:H' ld=Au Ws) (h4:xED N H' fn j wM) (h5:¬N lh) (h6:Rj H' lh ts) (h7:ts.length≤i) (h8:∀c o,D3=IO->Γ->AE=IO):x3t Ce CO CK a lt lb le p q l8 lh n T Z Rs H0 i σ H'
structure Sit (Cp Ce CO CK lt lb le p q l8 lh:MV)(T Z Y8:Id)(Rs Um:CA)(Sy:υ)(X2:Bool)(H0:Hp):Prop where
 tb:wm
 t1:W5
 nn:vX
 w:xw3 T Z
 ez:Z=oH
 zb:Eg Z
 zl:xR6
 n9:xsR [9,9,8] Um
 yb:Eg Y8
 y2:x8K
 pq:DO q
 nh:WF (H0 lh)
 ht:H0 lt=EX
 hb:H0 lb=Φ k7
 he:H0 le=Φ xRm
 pe:Q2 H0 Sy (ens T Rs Bn)
 hy:H0 l8=Φ xZJ
 hp:∃dx r,H0 p=dE Cp cx
 hq:x4c (λ c=>Γ) H0 q [9,9,8] Um X2 0 xy4
inductive PC (Cp Ce CO CK a:MV) (i:Nat) (σ:St) (H':Hp):Prop
 |mk (lt lb le p q l8 lh:MV) (n:Nat) (T Z Y8:Id) (Rs Um:CA) (Sy:υ) (X2:Bool) (H0:Hp) (S:Sit Cp Ce CO CK lt lb le p q l8 lh T Z Y8 Rs Um Sy X2 H0) (I:x3t Ce CO CK a lt lb le p q l8 lh n T Z Rs H0 i σ H'):PC Cp Ce CO CK a i σ H'
inductive PA (Tb a:MV) (σ:St) (H':Hp):Prop
 |mk (lt lb le:MV) (n:Nat) (T Z:Id) (Rs:CA) (Sy:υ) (h0:σ=[Bm,yc,TD lt,xOH,TD le,none,none,none,none,none,none,none,none,none,none,none]) (Pm:wm) (Oi:W5) (hN:vX) (hW:xw3 T Z) (eZ:Z=oH) (hZb:Eg Z) (hZl:xR6) (tb:rP) (h1:H' lt=EX) (h2:H' lb=Φ k7) (h3:H' le=Φ xRm) (h4:Q2 H' Sy (ens T Rs Bn)):PA Tb a σ H'
inductive xjx (Cp Ce CO CK a:MV) (σ:St) (H':Hp):Prop
 |mk (lt lb le p q l8 lh l6:MV) (n b:Nat) (T Z Y8:Id) (Rs Um:CA) (Sy ts:υ) (X2:Bool) (H0:Hp) (v11 Xb X6 XD v15:BV) (S:Sit Cp Ce CO CK lt lb le p q l8 lh T Z Y8 Rs Um Sy X2 H0) (h0:σ=[Bm,yc,TD lt,xOH,TD le,Qg,TD q,TD l8,TD l6,TD lh,RW,v11,Xb,X6,XD,v15]) (h1:∃dx r,Dk=dE Cp cx) (h2:Rj H' lh ts) (h3:∀c o,D3=IO->Γ->AE=IO):xjx Cp Ce CO CK a σ H'
def xgk (hN:vX)(hb:wm)(h:xNY 0):6≤vn 1:=by
 have hR:bK 0:=by rw [xOz];show wU nB (EL 64 [_,_] (.a DW (AJ xEV)) (Aw xE1) DW LE (Fx h zK))
 have pb:=hN.2 0 _ (FL hR);have tw:=xwV (by exact(UG DW (AJ (bD Cy)) h)) hb;rw [<-KY hR];generalize Rs[0]=R at*;obtain⟨i,ps,Rb,hi,_,_,rfl,h1,_⟩:=xLr;have:B4 (sld (WM (64*i+(blk T 0).length-1)++Rb)) (xXC+2):=by rw [xv1,FD];rfl
 rw [JA,Hl,HJ,List.flatten_nil,GU];exact(Bu [_,_] (Br 1 (CF (Zz 3) 2)) DD (.n 6) LE h1 wO)
def xil (hn:n∈0::zV j x (Ps xHi))(hm:∀m∈0::zV j x (Ps xHi),xJq):n=zB Ws:=by
 refine Int.le_antisymm ?_ (hm _ ?_)
 ·show mx (List.mem_cons.1 hn) h
  ·exact vY
  ·show Vf x hx (List.mem_map.1 h);have hx:=List.mem_range.1 hx;refine xyk ?_;show El (jW (x+1)) _;rw [FW,FW];lia
 ·cases j with
  |zero=>exact List.mem_cons.2 (.inl (by show Af Nat.mul_zero))
  |succ j=>exact qM (List.mem_map.2 (kq j (List.mem_range.2 (HW j))))
def xri (n:Nat):-(2^62)≤AA/2408%7/\AA/2408%7<2^62/\(AA/2408%7).toNat≤7:=by lia
inductive xkI (T:Id) (Rs:CA) (e:Nat) (j':Nat) (H7:Hp) (lc:MV) (i:Nat) (ys:NE) (σ:L2.St) (H':Hp):Prop
 |mk (v0:BV) (v1:BV) (h0:σ=[v0,v1,Χ e]) (h1:ys=zV (min i j') x (vN xHi)) (h2:H' lc=gm) (h3:C' H7 H'):xkI T Rs e j' H7 lc i ys σ H'
def xbM {cP:MV}{cs:υ}(F:Aj "law" "law" iT)(Y:All K mg B D G0 CW C0 C1 C2 C3 c CK Ny CO Cq C G Ce Cp cP cs)(hC:uA)(XY:qm)(hK:fU):AH 46 xRg (xxN K Tb):=by
 have X:=Y.Z.Cr.Y.Z.X.R.X;have O:=Y.O;obtain⟨cR,cC,cB,iR,iC,iB,Ek⟩:=Y.E.ek;show jf Pr Y.pressed Op' Y.opened Ca Y.cell Mi Y.mixed;show jf Wd Y.word Tx Y.text En Y.ends Fd Y.fed;show ZV No Y.norow Fi Y.finished;show vO St Y.stands Pi Y.piece Ke Y.kept;obtain⟨_,_,FIo,bIo,MIo⟩:=O.init;show ZV Fe O.feed Ov O.over;have GC:=xg3 (P:=P) (w:=w) (base:=base) Ca X;have GM:=xol (P:=P) (w:=w) (base:=base) Mi;have GT:=xbi (P:=P) (w:=w) (base:=base) Tx Mi X;have GX:=xfD (P:=P) (w:=w) (base:=base) Pr Y.Z hC XY hK;have GO:=xgG (P:=P) (w:=w) (base:=base) Op' Y.R O;have GE:=xaF (P:=P) (w:=w) (base:=base) En X;have GI:=xq2 (P:=P) (w:=w) (base:=base) FIo Y.R O;have GV:=xs4 (P:=P) (w:=w) (base:=base) (CO:=CO) (CK:=CK) Ov.F Y.R.tt O;have GF:=(xpG (P:=P) (w:=w) (base:=base) (CO:=CO) (CK:=CK) Fe.F Y.R O Ek.mR Ek.eR.x Ek.mB Ek.eB.x).or (xpU (P:=P) (w:=w) (base:=base) Fe.F Y.R O);have GD:=xnN (P:=P) (w:=w) (base:=base) Fd Y.R O Wd Y.E;have GN:=xhr (P:=P) (w:=w) (base:=base) No Op' Y.R O Wd Y.E;have GS:=xf1 (P:=P) (w:=w) (base:=base) St Y.R O Wd Fi Y.E;have GP:=xho (P:=P) (w:=w) (base:=base) Pi Y.R O Wd Fd Y.E;have GK:=xib (P:=P) (w:=w) (base:=base) Ke X;refine F.ok NY λ M7 A outer st H vs Q E hr h=>?_;intro X0;show dS a ns rfl hS TJ haT k;have NA:Bv:=UF;have XO:ED 9:=UF;have PY:xGO:=UF;have Ra:xON:=UF;have Xt:ED 43:=UF;have hr44:ED 44:=UF;show xCZ;have hu0:=hr.units0;have hn:=xD;have hb9:Eg [9,9,8]:=by decide
 show SX te pe' he' t (xWo 15 t/\∀σ H',xjx Cp Ce CO CK a σ H'->xNa σ H') (by
  refine Tg (WN (CZ fJ (xN5 bu GF Xt Fe.b .nil ut (Bx (nr cb aj))) (xBv aj aj aj)) (CZ xqD (BN bu O.cl Ov GV) cf)) (ac (WN (CZ xL6 (sh GD hr44 Fd C8 cz) xE2) (CZ xL6 (g9 GN No PP) xE2))
  (tC (aB (x6k Gn Lx xl9 (lJ GO hr44 Op' π))) (xAy (dH (xtH hu) (lJ GO hr44 Op' π) Ty bZ) (dH (xtH hu) (xXm x7N (g:=UT) rfl rfl Z8 Z8 Z8 (bP (pv 9)) (λ fp s H=>xCp xcm) (λ fp s H=>CZ (xir (K:=K) rfl hu) (xyD (xoN (K:=K) rfl) SZ) (xyD (xoN (K:=K) rfl) SZ)) (λ fp s H=>SZ)) d5 bZ))))
  rintro σ H8 ⟨lt,lb,le,p,q,l8,lh,l6,n,b,T,Z,Y8,Rs,Um,Sy,ts,X2,H0,v11,Xb,X6,XD,v15,⟨Pm,Oi,hN,hW,eZ,hZb,hZl,ZS,hYb,hY2,npq,Xp,VI,TV,YK,hP0,h80,⟨_,_,QZ⟩,hQ0⟩,rfl,⟨_,_,hp8⟩,hH8,fr8⟩;show vm hq0 hQ0;have kl8:∀c xs,D3=Ar->xIg=Ar:=λ c xs e=>xOC _ e xBx
  have hQ8:=hQ0.keep λ c o e hc=>xOC _ e (by
   show mx hc hc
   ·exact npq
   ·exact hc)
  show vi dq8 hq8 hQ8;refine Zl R9 ((λ(J:∀H9,(∀c o,H8 c=some o->c≠q->H9 c=some o)->R9 [some (.ref a),some (vN n),some (.ref lt),some (.ref lb),some (.ref le),some (.ref p),some (.ref q),some (.ref l8),some (.ref l6),some (.ref lh),some (vN b),v11,Xb,X6,XD,v15] H9)=>?_) (qP H9 fr9))
  ·clear g;refine⟨_,rfl,q,dq8,_,rfl,hq8,D8,_,rfl,_,rfl,l8,_,rfl,Ng.of (kl8 _ _ h80),SC l9 n9⟩;rw [AI (xE6 xZJ (some 7)) (Ο xy4) (by rw [Sd (Ε 7) (Ps 7),dm,IN])];have s9:=Ei xy4 n9;have h9:ao H8 l9 xy4 l9=Au xy4:=ad;show SN H8 l9 xy4 H9 (xs3 (rest:=[]) (xTd xy4▸hQ8.keep λ c o e _=>xBs) hb9 (by decide) ZS h9 (λ x hx=>hYb x xER) (by show zw (Z3 [_,_] 1 LE (Zz 1900) LE 1900 hY2 Qn)) λ XI j10 fn10 H10 n10 V5 hQ10 _ fr10=>Bh (by show jy 3) l11 n11)
   show WY (hQ10.done ZS);have VW:=Az [oq,oq,vN 8] n11;have hQ11:=hQ10.keep λ c o e _=>Oq e
   show vi dq11 hq11 hQ11;show Wp ⟨XI,l11,[9,9,8],[9,9,8],rfl,rfl,Ng.of (Oq V5),OM,_,rfl,xPn⟩ ⟨_,rfl,q,dq11,_,rfl,hq11,D8,q,_,_,_,_,_,true,rfl,hQ11,true,true,rfl,rfl,_,rfl,aV (J _ λ c o e n=>Oq (fr10 _ _ xBs n))⟩
  clear g hQ8 hq8;have fr9':∀c o,D3=IO->Γ->EC q->H9 c=IO:=λ c o e n m=>fr9 _ _ (xOC _ e n) m
  have kl9:∀c xs,D3=Ar->H9 c=Ar:=λ c xs e=>fr9' _ _ e xBx (xGs hq0)
  have hp9:=fr9 _ _ hp8 npq.symm;have hH9:=hH8.keep λ c o e n=>fr9 _ _ e (Re (by
   rw [z] at e;have hq8:=xOC _ hq0 npq;exact n _ _ _ (x6R hq8)))
  refine Zl R10 ((λ(J:∀H10,C' H9 H10->R10 [some (.ref a),some (vN n),some (.ref lt),some (.ref lb),some (.ref le),some (.ref p),some (.ref q),some (.ref l8),some (.ref l6),some (.ref lh),some (vN b),v11,Xb,X6,XD,v15] H10)=>?_) (qP H10 Xd))
  ·clear g;refine Υ (xWn _ _ .non rfl hp9 (XB .non K) λ t1 H1 s1 h1=>Bh (by show qa) t2 n2);show rF s2 (zG [x2s] n2) (ue t1 t2 (.inl ⟨_,_,ND.of (C7 h1),jh,_,rfl,xPn⟩)) (Zk n (λ t3 H3 s3 h3=>Bh (by show qa) t4 n4));have s4:=zG [x2s] n4;exact ue t3 t4 (.inl ⟨_,_,ND.of (ES h3),jh,_,rfl,xES (J _ (s1.trans xZb))⟩)
  clear g;show ZX ⟨_,rfl,lb,T,Z,rfl,Pm,Oi,hW,xCO (kl9 _ _ TV),λ l11 H11 n11 Qy VW=>Qc (oI Qy) l11 _ rfl Qy Aa⟩;have kp12:∀c o,H9 c=IO->Du H11 l11 [] c=IO:=λ c o e=>(Tt (xCO e) n11).trans (Oq (xCO e))
  show EI H11 l11 [] H12 ⟨_,rfl,lb,T,Z,rfl,Pm,Oi,hW,kp12 _ _ (kl9 _ _ TV),λ l13 H13 n13 h13 XE=>?_⟩;have h13':=h13;have ht13:=XE _ _ (kp12 _ _ (kl9 _ _ VI));rw [gL] at h13' ht13;refine⟨_,rfl,l13,lt,_,_,rfl,rfl,Ng.of h13',Ng.of ht13,?_⟩;rw [QN];show rF hH13 ((hH9.keep λ c o e _=>kp12 _ _ e).keep λ c o e _=>XE _ _ e) (Υ (cy (xor _ lh hH13.1 (SC lc nc)))) (xXn K (a:=lh) (l:=lc) (xs:=Fl) (n:=1) (g:=UT) (te:=fh) (λ i ys H'=>ys=[]/\H' lc=az/\C' H13 H') (Wr ad (ak nc)) (λ i ys H' _ p=>Ng.of (CJ p _ _ hH13.1)) ?_ ?_ (λ x σ H A B h z=>tN) ?_ ?_)
  ·rintro i x ys σ H' hx ⟨rfl,XU,sm⟩ hσ;show x5 u0 u0 (σ=[u0]) (match σ,hσ with| [u0],_=>Ex u0)
   rw [Gs] at hx;show Vf t ht (Lj.mp hx);obtain⟨a',b',L,_,_,m3,m4,m5⟩:=hH13.2 t (Hi ht);exact⟨_,rfl,t,_,_,_,rfl,rfl,x1I m3,tO,_,rfl,t,_,_,_,rfl,rfl,x1I m3,wu,a',b',L.map xBV,L.map xBV,rfl,rfl,by show Bg gL (xzq m4),by show Bg gL (xzq m5),_,rfl,xqJ rfl (SU rfl XU sm)⟩
  rotate_left
  ·rintro σ H A B h ⟨v,e1,p1,xs1,i1,x1,f1,f2,f3,f4,v2,e2,p2,xs2,i2,x2,f5,f6,f7,f8,p3,q3,ns3,ms3,r1,r2,r3,r4,c3,r5,z⟩;exact⟨v,e1,p1,xs1,i1,x1,f1,f2,f3,f4,v2,e2,p2,xs2,i2,x2,f5,f6,f7,f8,p3,q3,ns3,ms3,r1,r2,r3,r4,c3,r5,tN⟩
  ·rintro σ H A B h ⟨x,e,z⟩;exact⟨x,e,tN⟩
  rintro ys H14 ⟨rfl,XU,Vu⟩;refine Bh (by show jy 0) l15 n15;have s15:=zi n15;exact⟨lc,l15,[],[],rfl,rfl,Ng.of (s15 _ _ XU),OM,iE⟩)
 show SX tc pc hc t (xWo 12 t/\∀i σ H',PC Cp Ce CO CK a i σ H'->xNa σ H') (by
  refine Ep (vP 8 NY.nd (pd VP (xN5 C8 GF Xt Fe.b .nil ut (Bx (nr π (pv 10))))) (xuF (xvk (CZ fJ VP Ty) (xvk (wK (il GS Ra St C8 cf (xBT PP))) (xsE (CZ fJ (xN5 C8 GF Xt Fe.b .nil ut (Bx d5)) d5))))) (ac (Wt (xBn my) 15 NY.nd (af (WN (CZ xL6 (sh GD hr44 Fd C8 (xNG (ji PP) (E8 aj (pv 15)))) xE2) (wK (il GS Ra St C8 cf (pv 15)))))) pe'))
  rintro i0 σ H3 ⟨lt,lb,le,p,q,l8,lh,n,T,Z,Y8,Rs,Um,Sy,X2,H0,S,⟨b,j,ld,v11,Xb,X6,XD,ts,fn,N,rfl,hb,ndh,ZI,hO3,hNh,Yp,PU,SE⟩⟩;obtain⟨Pm,Oi,hN,hW,eZ,hZb,hZl,ZS,hYb,hY2,npq,Xp,VI,TV,YK,hP0,h80,⟨_,_,QZ⟩,hQ0⟩:=id S;have kl3:∀c xs,D3=Ar->x3=Ar:=λ c xs e=>BZ e xBx
  show vi PK N1 hO3;refine o9 ⟨_,rfl,_,rfl,p,PK,_,rfl,N1,D8,_,rfl,_,rfl,_,rfl,lb,_,rfl,Ng.of (kl3 _ _ TV),SC l4 n4⟩
  try dsimp only
  rw [dm,<-IN];have s4:=Ei wM n4;have h4:ao H3 l4 wM l4=Au wM:=ad;show SN H3 l4 wM H4 (xs3 (rest:=[]) (xTd wM▸hO3.keep λ c o e _=>gj) Pm Oi hN h4 (λ x hx=>hZb x xER) (by show zw (Z3 [_,_] 1 LE (Zz 1900) LE 1900 hZl Qn)) λ l5 j5 fn5 H5 n5 h5 hO5 hj5 Sv=>?_)
  show WY (hO5.done hN);have e7:Ws++pA Bn (64*j)=T:=by
   have hnB:xC3 (64*Bn):=by show wU nB (BX xUj xE0 LE U0 zK)
   rw [Gh hnB,Gf]
  show Ay h7 (yt e7) FD h7;have kl5:∀c xs,x3=Ar->H5 c=Ar:=λ c xs e=>Bk gj (xGs N1)
  show Z1 ⟨ld,l5,_,_,rfl,rfl,kl5 _ _ ZI,h5,bG (by rw [Fy,Fy,h7];exact FK Oi (by decide)),qP l6 n6⟩ g;rw [<-FV,e7];have s6:=Az pZ n6;have h6:Du H5 l6 pZ l6=EX:=ad;show BE H5 l6 pZ H6 ZR (hO5.keep λ c o e _=>xHU)
  have fr6:∀c o,D3=IO->Γ->Di=IO:=λ c o e n=>tx (Bk (ES (BZ e n)) n)
  have hH6:Rj H6 lh ts:=(Yp.keep λ c o e n=>Bk gj (Re (by rw [z,N1] at e;exact n _ _ _ (P8 e)))).keep λ c o e _=>xHU
  clear ZI hO5 kl5 kl3 Sv SE Yp hO3 N1 s4 h4 n4 s6 n6 h5 n5 h7 e7 hNh ndh hj5 hb;have kl6:∀c xs,D3=Ar->Di=Ar:=λ c xs e=>xOD _ e xBx
  have hO7:∀H7,C' H6 H7->_:=λ H7 s7=>ZR.keep (H':=H7) λ c o e _=>xCN e
  refine Zl R7 ((λ(J:∀H7 N',xvK Cp Ce CO CK N' H7 p T Rs true (nB T) []->(∀c o,H6 c=some o->c≠p->H7 c=some o)->R7 [some (.ref a),some (vN n),some (.ref lt),some (.ref lb),some (.ref le),some (.ref p),some (.ref q),some (.ref l8),some (.ref l6),some (.ref lh),some (vN b),v11,Xb,X6,XD,none] H7)=>?_) (λ H7 N7 hO7 Ys=>Aa))
  ·clear g;have ht6:=kl6 _ _ VI;rw [gL] at ht6 h6;show Wp ⟨_,rfl,_,rfl,l6,lt,_,_,rfl,rfl,Ng.of h6,Ng.of ht6,_,rfl,xPn⟩ ⟨_,rfl,_,rfl,_,_,rfl,rfl,cN,p,_,T,_,Rs,_,true,n/3,rfl,ZR,λ H7 s7=>Υ oo⟩;have hO7:=hO7 H7 s7;show vi dx7 hp7 hO7;refine⟨_,rfl,p,dx7,_,rfl,hp7,D8,Z9,SC l8' n8⟩;have s8:=zi n8;have h8:Du H7 l8' [] l8'=Au ([]:Id):=ad;show EI H7 l8' [] H8 (xs3 (r:=[]) (rest:=[]) (hO7.keep λ c o e _=>xJU e) Pm Oi hN h8 nofun AM λ l9 j9 fn9' H9 n9 h9 hO9 _ fr9=>Bh Z9 XI n10)
   show WY (hO9.done hN);have Xd:=zi n10;show ρ (AI (pA Bn (64*Bn)) [] (HB (by show UK DN))) h9 ⟨l9,XI,[],[],rfl,rfl,Ng.of (xCO h9),OM,_,rfl,xES (J _ _ (hO9.keep λ c o e _=>xCO e) λ c o e n=>xCO (fr9 _ _ (xJU (xCN e)) n))⟩
  clear g;have Ys:∀c o,D3=IO->Γ->H7 c=IO:=λ c o e n=>xJT (xOD _ e n) n
  have hH7:Rj H7 lh ts:=by
   show vm Xf ZR;exact hH6.keep λ c o e n=> ‹∀c o,Di=IO->Γ->H7 c=IO› _ _ e (Re (by show ρ z e (n _ _ _ (x6R Xf))))
  clear hH6 h6 ZR kl6 fr6;refine o9 ⟨2,rfl,Z9,Z9,oR 0 2 (λ i σ H'=>∃v15,σ=[Bm,yc,TD lt,xOH,TD le,Qg,TD q,TD l8,TD l6,TD lh,RW,v11,Xb,X6,XD,v15]/\C' H7 H') (lM none x0d) ?_ ?_⟩
  ·clear g;rintro i σ H8 hi ⟨v15,rfl,s8⟩;refine⟨_,rfl,_,rfl,_,_,rfl,rfl,(by show RG xMy),(by show qa),SC l9 n9⟩;have s9:=Az [fk AA 256] n9;have h9:Du H8 l9 [fk AA 256] l9=Φ [vN (n%256)]:=ad;show EI H8 l9 [fk AA 256] H9 ⟨_,rfl,_,_,rfl,rfl,l9,_,_,rfl,rfl,h9,by lia,by lia,?_,SC XI n10⟩
   ·show nL (1*_);exact FK (m:=100) (by lia) (by decide)
   have e10:Zg (xy 1 (0+rT)) [vN (n%256)]=Ο (ki 1 i (n%256)):=by
    rw [show xy 1 (0+rT)=1+i by lia,List.map_replicate];simp
   try dsimp only
   rw [e10];have Xd:=Ei (ki 1 i (n%256)) n10;have V5:ao H9 XI (ki 1 i (n%256)) XI=Au (ki 1 i (n%256)):=ad;show BE H9 XI (Ο (ki 1 i (n%256))) H10 s8A (s8.trans x7O);refine .bhd p XI _ T _ Rs _ rfl (hO7.keep λ c o e _=>s8A _ _ e) V5 (λ x hx=>by show LT (List.eq_of_mem_replicate hx) (xEb (by decide))) (by show LT Gy (UB 2 bq 1900 hi)) (by rw [Kh,Hv];nofun) λ t11 H11 VW Qy=>Bh (by show qa) t12 n12
   have Pj:=zG [xC1 "behind"] n12;show rF sB (s8A.trans (VW.trans Pj)) (ue t11 t12 (.inl ⟨_,_,ND.of (xCM Qy),jh,_,rfl,xPn⟩)) ⟨_,rfl,_,rfl,p,_,T,_,Rs,_,true,i,by show Af Int.zero_add,hO7.keep λ c o e _=>sB _ _ e,λ H13 XE=>Υ (aV (Υ (sB.trans XE)))⟩
  rintro σ H8 ⟨v15,rfl,s8⟩;show vm hp7 hO7;exact g _ _ (he' _ _ ⟨lt,lb,le,p,q,l8,lh,l6,n,b,T,Z,Y8,Rs,Um,Sy,ts,X2,H0,_,_,_,_,_,S,rfl,Ax _ (xJU hp7),hH7.keep λ c o e _=>xJU e,λ c o e n=>xJU (xJT e n)⟩))
 show SX tb pb Ow t (xWo 11 t/\∀σ H',PC Cp Ce CO CK a 0 σ H'->xNa σ H') (by
  refine Tg (Wt (xBn (Bx xUp)) 11 NY.nd (du 12 (sh GM NA Mi PP (zk (pv 11))) (vP 13 NY.nd (xvA GP hr Pi (xCf C8 π (pv 10) (pv 12))) (QF xuy (pv 13) cz) (du 10 x2H (vP 8 NY.nd (pd VP x2H) (aB (il GK NA Ke (pv 9) x2H (pv 12))) (pX 14 NY.nd (xvB (xm6 hn) Z7 X.max Lw (Bx (pd (aK my) (xfK (N:=["_law_at","_law_total","_law_begin"]) (js:=[none,none,some 10]) (cl:=[("_law_begin",xKO 1)]) (g:=xBK 2 0 (xBS 1)) (tt:=xh4) (te:=xAB) rfl ⟨rfl,Z8,Z8,Z7,λ x c h=>(by show WY (xsB h);rfl),λ x hx=>?c0,rfl,λ i x j h1 h2=>?c1⟩ (bP Ν) (λ fp s H=>xHR 0 xhX (xzm 1 xhX xve)) (λ fp s H=>CZ xuu SZ Ty) (λ fp s H=>PP))))) (WN (CZ fJ VP (xBi Ty bU (pv 14))) (wK (il GS Ra St C8 (dH xsJ (pv 10) (vJ π) bZ) (xBT (pv 12))))))))))) pc
  case c0=>obtain rfl:=xfI hx;exact CY
  case c1=>show uN (xa6 h1 h2) (xP8 (λ c h=>h))
  rintro σ H3 ⟨lt,lb,le,p,q,l8,lh,n,T,Z,Y8,Rs,Um,Sy,X2,H0,S,I⟩;obtain⟨Pm,Oi,hN,hW,eZ,hZb,hZl,ZS,hYb,hY2,npq,Xp,VI,TV,YK,hP0,h80,⟨_,_,QZ⟩,hQ0⟩:=id S;refine o9 ?_
  have I':=id I;obtain⟨b,j,ld,v11,Xb,X6,XD,ts,fn,N,rfl,_⟩:=I;refine⟨_,rfl,_,_,rfl,rfl,cN,_,_,rfl,rfl,(by show sf 7),_,rfl,(xri n).1,A4 (xri n),oR 0 (AA/2408%7).toNat (x3t Ce CO CK a lt lb le p q l8 lh n T Z Rs H0) I' ?_ (λ σ' H' I=>g _ _ (hc _ _ _ ⟨lt,lb,le,p,q,l8,lh,n,T,Z,Y8,Rs,Um,Sy,X2,H0,S,I⟩))⟩
  clear g I' S;rintro i σ H3 hi ⟨b,j,ld,v11,Xb,X6,XD,ts,fn,N,rfl,hb,ndh,ZI,hO3,hNh,Yp,PU,SE⟩;have hi7:=FN hi (CJ (xri n));show ZX ⟨_,rfl,_,rfl,_,_,rfl,rfl,_,_,rfl,by exact xO (RE Cy (AJ xAd)),by exact xO (UB 7 (AJ xAd) 1000 hi7),Aa⟩;generalize mixN AA (0+rT+1)=m;show vm N1 hO3;have kl3:∀c xs,D3=Ar->x3=Ar:=λ c xs e=>BZ e xBx
  show ZX ⟨_,rfl,_,rfl,_,rfl,_,rfl,p,lb,N,T,Z,Rs,b,m,j,fn,rfl,hO3,Pm,Oi,hN,kl3 _ _ TV,hZb,hZl,hb,λ t l e j' SF H4 Ug he nl ht hl hO4 hj fr4=>Aa⟩;have nlh3:=Yp.1;have nll:ZZ lh:=EW nlh3;have any4:∀c o,x3=IO->(∀C dx fs,o≠ xPz)->H4 c=IO:=λ c o e n=>fr4 _ _ e (Re (by rw [z,N1] at e;exact n _ _ _ (P8 e)))
  have hld4:=any4 _ _ ZI nofun;have hH4:=Yp.keep any4;show ZX (qQ (aV Aa));show ZX ⟨_,rfl,t,_,_,_,rfl,rfl,x9,tO,Aa⟩;have e7:Ws++pA j' (64*j)=qB:=by
   have:Ws=(qB).take (64*j):=by rw [Ms,G2 (Wu hj)]
   rw [this,Gf]
  have h7:=yt e7;rw [FD,FW (i:=64*j')] at h7;show ZX ⟨_,rfl,_,rfl,t,_,_,_,rfl,rfl,x9,wu,ld,l,_,_,rfl,rfl,hld4,hl,bG (by rw [Fy,Fy];exact W4 h7 (xGa Oi (by decide))),qP ld5 nd5⟩;rw [<-FV,e7];have s5:=Ei qB nd5;have hld5:ao H4 ld5 qB ld5=Au qB:=ad;have nd5h:ld5≠lh:=DH hH4.1 nd5;have nd5l:ld5≠l:=DH hl nd5;show BE H4 ld5 (Ο qB) H5 hO5 (hO4.keep λ c o e _=>AZ e)
  have hH5:=hH4.keep λ c o e _=>AZ e
  have Yi:=AZ hl;have Sv:∀c o,D3=IO->Γ->H5 c=IO:=λ c o e n=>AZ (fr4 _ _ (BZ e n) n)
  have X':WF (H0 l):=by
   cases e:H0 l with
   |none=>rfl
   |some o=>
    by_cases z:l=p
    ·show B0 N1 nl nl
    ·show Μ (BZ e z) nl nl
  refine Zl R6 ((λ(J:∀ts' H6,ts'.length≤i+1->Rj H6 lh ts'->H6 ld5=some (.lst ((T.take (64*j')).map vN))->xvK Cp Ce CO CK (λ c=>H3 c=none/\c≠l) H6 p T Rs SF j' (Z.drop e)->(∀c o,H0 c=some o->c≠p->H6 c=some o)->R6 [some (.ref a),some (vN n),some (.ref lt),some (.ref lb),some (.ref le),some (.ref p),some (.ref q),some (.ref l8),some (.ref ld5),some (.ref lh),some (vN e),some (.int (0+(i:Int))),some (vN m),some (.ref t),XD,none] H6)=>?_) (λ ts' H6 hts6 hH6 hld6 ZR fr6=>Aa))
  ·clear g;refine⟨_,rfl,_,rfl,t,_,_,_,rfl,rfl,ND.of (AZ ht),wu,_,rfl,lh,l,m,ts,_,rfl,hH5.1,by exact Cm [_,_] EA (Rn 7) LE 100 PU hi7,Yi,nll,λ t6 q6 H6 nt6 nq6 h6h h6t h6q Se=>?_,SC H6 Se⟩
   ·refine J (ts++[t6]) H6 (by rw [FD];show _+1≤_;exact(mH LE On PU)) (hH5.step Se h6h nll (DH hH5.1 nq6) h6t (BS Yi nll) h6q) (BS hld5 nd5h) (hO5.keep λ c o e hc=>BS e ?_) λ c o e n=>BS (Bk e n) (W2 Xp)
    show mx hc hc
    ·exact(aF nlh3 N1 (nofun)).symm
    ·exact Re (by show B0 nlh3 hc eV)
   ·refine J ts H6 (by exact(mH LE LE PU)) (Bh (BS hH5.1 nll.symm) t' ht') (BS hld5 nd5l) (hO5.keep λ c o e hc=>BS e ?_) λ c o e n=>BS (Bk e n) (W2 X')
    ·obtain⟨a',b',L,m1,m2,m3,m4,m5⟩:=Yp.2 t' ht';have kk:∀{c o},x3=IO->(∀C dx fs,o≠ xPz)->Di=IO:=λ {c o} e n=>BS (AZ (any4 _ _ e n)) (W2 nl)
     exact⟨a',b',L,m1,m2,kk m3 (nofun),kk m4 (nofun),kk m5 (nofun)⟩
    ·rcases hc with z|hc
     ·show LT z (ae N1 nl)
     ·exact hc.2
  clear g;show Zy hdu hwh Vm (ZR.due eZ hN he) h20 (Bn≤20) (by show wU nB (BF 64 [_,_] (Aw xyI) (w6 xEV) (.n 20) (ZY Oi)))
  show vm Xf ZR;have kl6:∀c xs,D3=Ar->Di=Ar:=λ c xs e=>xOD _ e xBx
  have hP6:=hP0.keep λ c xs e=>xOD _ e xBx
  have Xu:=kl6 _ _ YK;clear hO5 hO4 hH5 hH4 Yi Sv any4 hld4 hld5 ZI s5 nd5 ht hl fr4 Yp SE kl3 hO3 N1 nd5l h7 e7 nl X' nll PU;refine o9 (Bh (by show qa) l7 n7)
  have s7:=Az xIs n7;have h7:Du H6 l7 xIs l7=Φ xIs:=ad;show EI H6 l7 xIs H7 (xor _ le (xCN Xu) (SC lc nc));refine xgp (K:=K) (a:=le) (l:=lc) (xs:=xRm) (g:=xBK 2 0 (xBS 1)) (tt:=xh4) (te:=xAB)
   (xkI T Rs e j' H7 lc)
   ⟨none,none,rfl,by show Af Nat.zero_min,ad,ak nc⟩ (λ i ys σ H' _ z9=>by obtain⟨_,_,_,_,_,s⟩:=z9;exact Ng.of (E6 (xCN Xu))) ?_ ?_ ?_ ?_ ?_
  ·rintro x y ys σ H' hx ⟨v0,v1,rfl,rfl,XU,sm⟩;clear g;rw [Gs] at hx;show Vf t' ht' (Lj.mp hx);show Zy qv Sr Uq (hP6.at ht') SA (x<Bn) (by
    have:=(x4H Sr).1
    rwa [Fy,Im] at this)
   obtain rfl:xM8 x=qv:=by
    rw [Gs,JI SA] at Sr;exact Gg Sr
   show Wp ⟨t',_,rfl,x1I (xCN Uq),rfl,_,_,rfl,_,_,rfl,rfl,?_⟩ ⟨_,rfl,_,rfl,_,_,rfl,rfl,_,rfl,qR h h⟩
   ·have h1:x<j':=(hdu x SA).1 (xRf DQ);refine⟨_,rfl,XU,bx (by rw [Fy,Im];exact(ow [_,_,_] 1 (pO LE) (Br 20 Θ) LE h20 (Fx SA DN))),_,_,rfl,?_,ad,λ c o e=>by show pQ nc bL⟩;rw [G2 (Gi h1),G2 h1,K2,FV];rfl
   ·have h1:j'≤x:=Hg (Re (h (FM (xyk ((hdu x SA).2 z)))))
    refine⟨_,_,rfl,?_,XU,sm⟩;rw [HY h1,HY (Mx h1)]
  ·rintro ys σ H8 ⟨v0,v1,rfl,rfl,XU,s8⟩;have hlen:min (xRm).length j'=j':=by rw [Fy,hP6.len,Fy,Im];exact HY Vm
   rw [hlen] at XU;have s78:=s7.trans s8;have h78:=xJU h7;refine⟨l7,lc,_,_,rfl,rfl,h78,XU,bG (by rw [Fy,Im];show 1+_≤_;exact Cm [_,_] P3 (Rn 20) bq 2000 Vm h20),SC lm nm⟩;have s9:=Az (xIs++zV j' x (vN xHi)) nm;show Z1 ⟨lm,0::zV j' x (Ps xHi),rfl,Ng.of (by rw [ad,HH,Ii];rfl),xD4,λ n' hn' hm'=>Aa⟩ g;obtain rfl:=xil hn' hm';have s9:=s78.trans s9;show vo H8 lm (xIs++zV j' x (vN xHi)) H9;clear XU s8 s78 h78 nm hn' hm' h7 n7 s7 nc hP6 Xu hdu;have hO9:=ZR.keep λ c o e _=>xBs
   have hld9:=xAx hld6;refine⟨_,rfl,_,rfl,_,rfl,_,rfl,lt,_,rfl,Ng.of (xAx (kl6 _ _ VI)),SC ls nls⟩;have ec:xAN pZ (zB qB)=Ο qB:=by
    rw [xvl,<-IP,FW];show Ed (Mq (64*j') T.length)
    ·rw [G2 z]
    ·rw [HY z,Hc,Gh z]
   try dsimp only
   rw [ec];have Xd:=Ei qB nls;have hls:ao H9 ls qB ls=Au qB:=ad;show SN H9 ls qB H10 ⟨ld5,ls,_,_,rfl,rfl,by show xND gL (xCO hld9),by show xND gL hls,_,rfl,xPn⟩;have sA:=x7O;refine⟨_,rfl,_,rfl,_,rfl,lb,_,rfl,AN (sA _ _ (kl6 _ _ TV)),rfl,_,rfl,_,_,rfl,rfl,cN,p,_,T,_,Rs,j',SF,m/5,?_,ZR.keep λ c o e _=>sA _ _ e,λ H11 VW=>Υ oo⟩
   ·rw [<-hwh,Fy];exact xzi x [V.ref p,V.bl x,vN (m/5)] (decide_eq_decide.2 xwK)
   ·have VW:=sA.trans VW;exact⟨e,j',ld5,_,_,_,_,ts',SF,_,rfl,he,nd5h,Oq hld6,ZR.keep λ c o e _=>Oq e,(λ z=>nomatch nlh3.symm.trans i6),hH6.keep λ c o e _=>Oq e,hts6,λ c o e n=>Oq (xOD _ e n)⟩
  ·rintro x σ H3 A' B' hAB ⟨a',xs,e,hq,ZL,v,r,e2,v2,r2,e3,e4,h⟩;exact⟨a',xs,e,hq,ZL,v,r,e2,v2,r2,e3,e4,hAB _ _ h⟩
  ·rintro σ H A B h ⟨v,e1,v2,e2,i,j,e3,e4,cc,e5,z⟩;exact⟨v,e1,v2,e2,i,j,e3,e4,cc,e5,tN⟩
  ·rintro σ H A B h ⟨x,e,z⟩;exact⟨x,e,tN⟩)
 show SX ta pa' ha' t (xWo 4 t/\∀σ H',PA Tb a σ H'->xNa σ H') (by
  refine ju 5 NY.nd (xsI MIo GI XO Z7 O.m bIo .nil a7) (du 6 (xsI MIo GI XO Z7 O.m bIo .nil a7) (vP 7 NY.nd (lJ GX Xt Pr (xBv aj aj aj)) (aB (xN5 bu GF Xt Fe.b .nil ut (Bx (xBi cb bU aj)))) (du 8 d5 (du 9 d5 (du 10 aj pb)))))
  rintro σ H4 ⟨lt,lb,le,n,T,Z,Rs,Sy,rfl,Pm,Oi,hN,hW,eZ,hZb,hZl,tb4,hlt4,hlb4,hle,hPE⟩;refine o9 ?_
  intro p dp np T4 Ya;have s0:=xJW Cp;show Z1 (Dx p dp (λ H5 hO Q8=>qN Aa)) g;have s5:C' H4 H5:=λ b o e=>Q8 b o xu m6
  have hO:=(hO T Rs).mono (N':=λ c=>EC Tb/\∃o,H5 c=IO) λ c o e n _=>⟨(xY6).ne e n,o,e⟩
  rw [<-eZ] at hO;clear Q8 s0 T4 Ya;refine o9 ?_
  intro q dq nq ndq Qk;have s0:=kR Cp nq ndq;show Z1 (Dx q dq (λ H6 hQ Se=>qN Aa)) g;have s6:C' H5 H6:=λ b o e=>Se b o xu (W2 nq)
  show vm Ub hO;have hQ:=λ T Rs=>(hQ T Rs).mono (N':=λ c=>EC Tb/\Γ) λ c o e n hc=>⟨((xY6).same s6).ne e n,DH (j7 Ub) hc⟩
  clear Se s0 ndq Qk;have npq:DO q:=DH Ub nq;have hO:=hO.keep λ c o e _=>xHU
  have tb6:=(xY6).same s6;have s46:=x0e;have hlt6:=s46 _ _ hlt4;have hlb6:=s46 _ _ hlb4;have Xu:=s46 _ _ hle;have hPE6:=hPE.keep λ c xs e=>s46 _ _ e
  clear s46 s6 s5 hlt4 hlb4 hle hPE tb4 np;refine o9 (Bh (by show jy 3) l9 n9)
  have s7:=Az [oq,oq,vN 8] n9;have h9:Du H6 l9 [oq,oq,vN 8] l9=Au [9,9,8]:=ad;show EI H6 l9 [oq,oq,vN 8] H7 ⟨l9,[9,9,8],rfl,h9,hb9,by decide,tb6.same s7,λ l8 Y8 H8 _ hW9 h8 fr8 tb8=>Aa⟩;clear g;show Zy Um ZS eY hW9.all eY (Y8=mk3++rem [9,9,8] Um 0) eY;have tb7:=tb6.same s7;have Yc:∀c o,Di=IO->EC Tb->xIg=IO:=λ c o e n=>xOC _ n (xCN e)
  have kl8:∀c xs,Di=Ar->xIg=Ar:=λ c xs e=>xJS e (xRy e)
  have hP8:=hPE6.keep λ c xs e=>xJS e (xRy e)
  have hlt8:=kl8 _ _ hlt6;have hlb8:=kl8 _ _ hlb6;have hle8:=kl8 _ _ Xu;show vm Xf hO;have hO:=hO.keep λ c o e hc=>xJS e (by
   show mx hc hc
   ·exact xRy Xf
   ·exact eV)
  have hQ:=hQ [9,9,8] Um;show vm hq6 hQ;have hQ:=hQ.keep λ c o e hc=>xJS e (by
   show mx hc hc
   ·exact xRy hq6
   ·exact eV)
  clear kl8 hlt6 hlb6 Xu hPE6;rw [<-eY,<-Gf 7 Y8] at hQ;have hf9:=ZS.facts hb9 (by decide);have hYb:Eg Y8:=λ x hx=>by
   rw [eY] at hx;show Ed (xQM hx)
   ·exact(by decide:Eg mk3) x z
   ·exact hf9.1 x z
  have hYl:Y8.length=3+(Um.flatten.length+11):=by rw [eY];unfold rem;rw [FD,Iy,FD];rfl
  have hY2:x8K:=by show AY hf9.2 (Z3 [_,_] 1 LE (Br 1300 (aS (Rn 11))) LE 1900 hf9.2 (Fz hYl))
  show vi dq8 hq8 hQ;refine o9 ⟨_,rfl,q,dq8,_,rfl,hq8,D8,_,rfl,_,rfl,l8,_,rfl,Ng.of h8,SC XI n10⟩
  rw [AI (xAN xZJ 7) (Ο xLe) (by rw [Sd (Ε 7) (Ps 7),xvl,IP])];have s9:=Ei xLe n10;have V5:ao H8 XI xLe XI=Au xLe:=ad;show SN H8 XI xLe H9 (xs3 (hQ.keep λ c o e _=>xBs) hb9 (by decide) ZS V5 (λ x hx=>hYb x xE8) (by show UK (xU 7 1900 DN)) λ l11 j9 X2 H0 n11 Qy hQ0 _ fr0=>Aa)
  clear g;have kp0:∀c o,xIg=IO->EC q->D3=IO:=λ c o e n=>fr0 _ _ xBs n
  have kl0:∀c xs,xIg=Ar->D3=Ar:=λ c xs e=>kp0 _ _ e (xGs hq8)
  have VI:=kl0 _ _ hlt8;have TV:=kl0 _ _ hlb8;have YK:=kl0 _ _ hle8;have hP0:=hP8.keep λ c xs e=>kp0 _ _ e (xGs hq8)
  have h80:=kl0 _ _ h8;show vm hp8 hO;have hO0:=(hO.keep λ c o e hc=>kp0 _ _ e (by
   rcases hc with rfl|⟨_,o,hc⟩
   ·exact npq.symm
   ·exact ae hc nq)).mono (N':=λ c=>∃o,D3=IO) λ c o e _ _=>xHy e
  replace hQ0:=hQ0.mono (N':=λ c=>Γ) λ c o e _ hc=>DH (xAx hp8) eV
  have hj9:j9=0:=by
   have h1:=(hQ0.due eY ZS (b:=7) (by exact(BX (aS (Rn 11)) LE (.n 7) LE (Fz hYl.symm)))).1 0 (by decide);have h2:=xgk ZS hb9 (by decide);have h3:¬0<j9:=Re (by
    have:3+(Um.take 1).flatten.length≤7:=h1.2 z;exact(WT AV (Br 6 xEe) (D7 7) (Vt h2)))
   exact JN h3
  subst hj9;clear hO hQ kp0 kl0 hlt8 hlb8 hle8 hP8 h8 hp8 hq8 fr0 s9 V5 n10 Yc fr8 s7 h9 tb8 tb7 tb6 Xf hq6 Ub nq;show ZX (jA (qP ld QP));have s1:=zi QP;have ZI:Du H0 ld [] ld=az:=ad;show EI H0 ld [] H1 (o9 (jA (qP lh nlh)))
  clear g;have s2:=zi nlh;have hlh:Du H1 lh [] lh=az:=ad;have ndh:ld≠lh:=ae ZI nlh;have ZI:=C7 ZI;have Xp:WF (H0 lh):=vK nlh;show vm QZ hO0;have s2:=dn;show EI H1 lh [] H2 (o9 Aa)
  clear g;refine Ow _ _ ⟨lt,lb,le,p,q,l8,lh,n,T,Z,Y8,Rs,Um,Sy,X2,H0,⟨Pm,Oi,hN,hW,eZ,hZb,hZl,ZS,hYb,hY2,npq,Xp,VI,TV,YK,hP0,h80,Ax _ QZ,hQ0⟩,⟨0,0,ld,none,none,none,none,[],false,_,rfl,AM,ndh,ZI,hO0.keep λ c o e _=>jQ,(λ⟨o,e⟩=>nomatch Xp.symm.trans e),⟨hlh,nofun⟩,UV,λ c o e _=>jQ⟩⟩)
 refine ju 1 NY.nd (sh GM NA Mi (sh GC NA Ca SZ aj) aj) (du 2 (sh GT PY Tx (sh GC NA Ca SZ aj) (gM (jT xUp xUp) (xvu xlZ Z7 X.int Kw (Bx (dH xsJ (ji PP) aj bZ))))) (du 3 (lJ GX Xt Pr Ty) (du 4 (mJ GE En π) pa')))
 have tb0:sZ:=Ax TJ Dm;show ZX ⟨_,rfl,a,ns,0,rfl,hS,_,_,rfl,Z9,Z9,Aa⟩;generalize mixN (ns.getD 0 0) 0=n;refine o9 ⟨_,rfl,a,ns,1,rfl,hS,_,rfl,_,_,rfl,rfl,cN,_,_,rfl,rfl,(by show sf 91),_,rfl,_,_,rfl,rfl,cN,_,_,rfl,rfl,(by show sf 201),(by show b8),xNU⟩
 show SX sz hsz hat sz (sz≤200/\atI [fk (AA/8) 91,fk (AA/8) 201] (E1 (Dy (fk AA 8) (V.int 1)) 1 0)=Χ sz) (by
  cases Dy (fk AA 8) (V.int 1)
  ·exact kq (n/8%91) (by exact(UB 91 LE 200 xMK))
  ·exact kq (n/8%201) (by exact(UB 201 LE 200 xMK)))
 have s1:=Az [fk (rX/8) 91,fk (rX/8) 201] n1;show Z1 (mO _ _ _ (by show sf 8) (.inr ⟨_,rfl,l1,_,_,vN sz,rfl,rfl,OM,hat,_,sz,rfl,by exact(xU 200 520 hsz),λ lt T H2 s2 _ M8 hTl Pm=>Aa⟩)) g;have s2:=dn;clear s1 hat n1;have Oi:W5:=by show LT hTl (FK hsz (by decide))
 have tb2:=tb0.same s2;have nlt:=tb2.ne M8 (by intro ps z;cases z);show ZX ⟨_,rfl,lt,T,rfl,M8,Pm,Oi,tb2,λ lb Z H3 _ hW hlb fr tb3=>Aa⟩;show Zy Rs hN eZ (id hW.all) eZ (Z=oH) eZ;have hlt3:=xGl nlt M8;have hZf:=hN.facts Pm Oi;have hZb:Eg Z:=λ x hx=>by
  rw [eZ] at hx;show Ed (xQM hx)
  ·exact(by decide:Eg mk3) x z
  ·exact hZf.1 x z
 have hZl:xR6:=by
  have:Z.length=3+(x8m 11):=by rw [eZ];unfold rem;rw [FD,Iy,FD];rfl
  have:=hZf.2;lia
 clear fr nlt M8 s2 tb2 hS;refine o9 ⟨_,rfl,lb,T,Rs,rfl,by show Bg eZ hlb,hN,Pm,Oi,λ le Sy H4 _ hle hPE s4=>g _ _ (ha' _ _ ⟨lt,lb,le,n,T,Z,Rs,Sy,rfl,Pm,Oi,hN,hW,eZ,hZb,hZl,tb3.same s4,ES hlt3,ES hlb,hle,hPE⟩)⟩
universe K25.Ck
namespace K25.Ck
open PySem L2 QQ
section
variable {K:Frag}{mg:Β}{h:M2}
def OG.i {x qu:Str}{st:M5}{f:MV}{oc dV:MW}{od an:RD}{sl:jc}{kV dc pm cd ct:MW}(l:xJO (lN x qu cd))(c:xyC K cd qu)(k:RO):xCv qu f (lN x qu cd):=⟨⟨oc,od,kV,dc,pm,an,cd,ct,sl,rfl,l,c⟩,k⟩
def Uv.i {x qu:Str}{st:M5}{f cd:MV}{oc dV:MW}{od an:RD}{sl:jc}{kV dc pm ct:MW}(l:xJO (lN x qu xzu))(c:xyC K xzu qu)(k:RO):Uv K x qu st dV cd f (lN x qu xzu):=⟨⟨oc,od,kV,dc,pm,an,ct,sl,rfl,l,c⟩,k⟩
def tabI {x:Str}{d:MV}{p q:Int}{t1 t2 t3 t4:Tok}{ep:Nat}(X:aX)(G:OJ)(a:xHN K x uZ)(l:xKj d ⟨xRq,none,xVC #[xH6 8 (xVo t1) p t2,xH6 16 x3u q t4],#[]⟩)(s:Ρ (xXZ d)):∃d,si=uZ/\xvD K d p q:=⟨d,Og,s,t1,t2,t3,t4,ep,l⟩
def markI {x:Str}{d:MV}{t1 t2 t3:Tok}{od:RD}{n:Nat}{sl:jc}(X:aX)(G:OJ)(a:xHN K x uZ)(l:xKj d ⟨xDw,od,.seq #[.int 184 t1,.int 66 t2,.int 1 t3] n,sl⟩):∃d,si=uZ/\∀H,Px d [zx,b9,zI]:=⟨d,Og,λ _=>.inr (Fb _ _ _ l rfl (by show jy 3) (pK CY CY (xyv CY)))⟩
def nI {x:Str}{n:Int}{t:Tok}(X:aX)(G:OJ)(a:xHN K x (some (VU n))):PL x n:=⟨t,Og⟩
section
variable {x qu:Str}{st:M5}{ps:An}{f C:MV}{oc dV:MW}{od an:RD}{sl:jc}{kV dc pm cd ct:MW}(l9:xJO (lN x qu cd))(c9:xyC K cd qu)(k9:RO)
include l9 c9 k9
def inI (e:dV=.none)(b:iD x qu cd ps [])(m:xy9 K C)(a:xzd K Ap ik)(i:xJZ)(q:ix K Ap):∃f fd,Aj x qu st/\de/\yD:=by
 show Fs (iH _ (fun_mk l9 c9 k9) b ⟨m,a,i,q⟩)
def ciI (b:iD x qu cd ps [])(m:xy9 K C)(a:xzd K Ap ik)(i:xJZ)(q:ix K Ap):∃f fd dV,xCv qu f fd/\de/\yD:=⟨_,_,_,xPw,b,⟨m,a,i,q⟩⟩
def cdI {n:Int}{t:Tok}(d:iD x qu cd ps [VU n])(m:xy9 K C)(a:xzd K Ap ik)(i:xJZ)(q:ix K Ap):∃f fd t,(∃dV,xCv qu f fd)/\xEP [VU n]/\yD:=⟨_,_,_,Bt xPw,d,⟨m,a,i,q⟩⟩
universe s
section
variable {x:Str}{st:M5}{ps:An}{f:MV}{oc dV:MW}{od an:RD}{sl:jc}{kV dc pm cd ct:MW}(X:aX)(G:OJ)(a:xHN K x ik)(l9:xJO (lN x x cd))(c9:xyC K cd x)(k9:RO)(b:iD x x cd ps [])
include X G a l9 c9 k9 b
def fdI (d:iD x x cd ps xMY):∃f fd,xN4 x st ps f fd:=⟨_,_,Bt xPw,Og,b,d⟩
def flI {t:Tok}(d:iD x x cd ps [VU 6]):∃f fd,K25.S.FnL K mg x st ps f fd:=⟨_,_,Bt xPw,Og,b,_,d⟩
def fkI {t:Tok}(d:iD x x cd ps [VU 16]):∃f fd,FnK K mg x st ps f fd:=⟨_,_,Bt xPw,Og,b,_,d⟩
universe s
def fcI {x:Str}{st:M5}{ps:An}{f cd:MV}{oc dV:MW}{od an:RD}{sl:jc}{kV dc pm ct:MW}(X:aX)(G:OJ)(a:xHN K x ik)(l:xJO (lN x x xzu))(c:xyC K xzu x)(k:RO)(b:iD x x xzu ps [])(d:iD x x xzu ps xMY):∃f fd dV,Uv K x x st dV cd f fd/\si=ik/\de/\xEP xMY:=⟨_,_,_,Uv.i l c k,Og,b,d⟩
def m0 {P:ZU B5}(h:P []):∀us:B5,xzM 0->P us:=λ us hl=>by
 cases us with
 |nil=>exact h
 |cons a us=>cases hl
def mS {n:Nat}{P:ZU B5}(h:∀a (us:B5),xzM n->P (a::us)):∀us:B5,xzM (n+1)->P us:=λ us hl=>by
 cases us with
 |nil=>cases hl
 |cons a us=>exact h a us (Nat.succ.inj hl)
def e1 {us:B5}(h:xzM 1):∃a,us=sW:=mS (P:=λ us=>∃a,us=sW) (λ a=>m0 (Ex a)) us h
def e2 {us:B5}(h:xzM 2):∃a b,us=[a,b]:=mS (P:=λ us=>∃a b,us=[a,b]) (λ a=>mS λ b=>m0 (kq a b)) us h
def b2 {fd:M0}{p q:Str}(h:∀(s:MX) (a b:MW),yR->xAE s [a,b] [(p,a),(q,b)]):ua [p,q]:=λ s us hX hl=>by
 show B8 a b rfl (e2 (show xzM 2 by simpa using hl)) (h s a b hX)
def b1 {fd:M0}{p q:Str}{v:MW}(h:∀(s:MX) (a:MW),yR->xAE s sW [(p,a),(q,v)]):xyl K [p,q] [v]:=λ s us hX hl=>by
 show z8 a (e1 (show xzM 1 by simpa using hl)) (h s a hX)
def xfL {α β:Type}{F:NK α β}{xs:DU}{ys:x3h}(h:Paired F xs ys):pk i x α y β (xk->A7 ys y->F x y):=by
 induction h with
 |nil=>intro i x y h1;cases h1
 |cons r _ ih=>
  intro i x y h1 h2;cases i with
  |zero=>show vS h1 h2;exact r
  |succ i=>exact ih i x y h1 h2
def xrL {f:MV->xDM}{cs:υ}{n k:Nat}(h:cs.map f=zV n j (xVM j k)):∀(i:Nat) (c:MV),xIp c->SL (f c) (Dy i k):=λ i c e=>by
 have z:=congrArg (λ l:List xDM=>l[i]?) h;simp only [Gs,e,JJ] at z;have hi:i<n:=by
  show CM i n q q
  ·exact q
  ·show Μ (GZ (by show LT Im q)) z z
 show ρ (JI hi) z (Gg z)
def ers {p e0 e1 e2 e3 e4 e5 e6 e7 e8 e9 e10 e11 e12 e13 e14 e15 e16 e17:MV}(q0:xLt=TD e0)(q1:mg "BadBits"=TD e1)(q2:mg "NoBits"=TD e2)(q3:mg "BadLengths"=TD e3)(q4:mg "BadShares"=TD e4)(q5:mg "BadCode"=TD e5)(q6:mg "BadTable"=TD e6)(q7:mg "BadPieces"=TD e7)(q8:mg "BadBody"=TD e8)(q9:mg "BadHead"=TD e9)(q10:mg "BadCheck"=TD e10)(q11:mg "BadMark"=TD e11)(q12:mg "BadTail"=TD e12)(q13:x2r=TD e13)(q14:xDT=TD e14)(q15:mg "Over"=TD e15)(q16:mg "NoRange"=TD e16)(q17:mg "BadLetters"=TD e17)(m:xYW=Qg)(x:SS p)(u:x00)(v:x6T)(a0:xCt p e0)(c0:xL1 e0)(f0:OP (.ref e0) xDf)(i0:(rq [e0,e1,e2,e3,e4,e5,e6,e7,e8,e9,e10,e11,e12,e13,e14,e15,e16,e17] c (x1d K e0 qI))=zV 18 j (xVM j 0))(a13:xCt p e13)(c13:xL1 e13)(f13:OP (.ref e13) xDf)(i13:(rq [e0,e1,e2,e3,e4,e5,e6,e7,e8,e9,e10,e11,e12,e13,e14,e15,e16,e17] c (x1d K e13 qI))=zV 18 j (xVM j 13))(a14:xCt p e14)(c14:xL1 e14)(f14:OP (.ref e14) xDf)(i14:(rq [e0,e1,e2,e3,e4,e5,e6,e7,e8,e9,e10,e11,e12,e13,e14,e15,e16,e17] c (x1d K e14 qI))=zV 18 j (xVM j 14)):Ers K mg p [e0,e1,e2,e3,e4,e5,e6,e7,e8,e9,e10,e11,e12,e13,e14,e15,e16,e17]:=by
 have pm:Paired (λ(x:Str) (c:MV)=>si=TD c) names [e0,e1,e2,e3,e4,e5,e6,e7,e8,e9,e10,e11,e12,e13,e14,e15,e16,e17]:=(pK q0 q1 (pK q2 q3 (pK q4 q5 (pK q6 q7 (pK q8 q9 (pK q10 q11 (pK q12 q13 (pK q14 q15 (pK q16 q17 .nil)))))))));refine⟨u,v,m,x,⟨_,_,_,_,_,_,_,_,_,_,_,_,_,_,_,_,_,_,rfl⟩,λ i x c h1 h2=>xfL pm i x c h1 h2,λ i z c hw hc=>?_⟩;rcases hw with⟨rfl,_⟩|⟨rfl,_⟩|⟨rfl,_⟩<;>cases hc
 ·exact⟨a0,c0,f0,xrL i0⟩
 ·exact⟨a13,c13,f13,xrL i13⟩
 ·exact⟨a14,c14,f14,xrL i14⟩
universe s
def hd {l:PySem.W.OpenLaw}{w:MZ}{K:Frag}{h:M2}{mg:Β}{fa f B C0 C1 C2 C3 c CK Ny cO cQ cA cG cE cV cP Tb:MV}{cs:υ}{od an:RD}{sl:jc}{oc kV dc pm cd ct:MW}(hKT:fU)(X:aX)(G:OJ)(hfa:mg "law"=TD fa)
  (a:xHN K "law" ik) (lk:xJO (fnOf "law" "law" (xqS iT) (xxD iT) (am iT) .none kV dc pm an cd ct)) (cc:xyC K cd "law") (kk:RO) (R0':wq) (R1':wq->xG6) (R2':xG6->K25.Wins K mg) (R3':K25.Wins K mg->x1t mg) (R4':K25.xwQ K mg B) (R5':xG6->K25.xwQ K mg B->x1u mg B) (R6':wq->x1v mg) (R7':wq->xR1 mg) (R8':wq->xR1 mg->xPd 0) (R9':xPd 0->xSY mg 0 0) (R10':x1t mg->x1u mg B->x1v mg->xSY mg 0 0->xSZ mg B 0 0) (R11':Yt C0 0) (R12':Yt C0 0->x1w mg C0 0) (R13':Yt C1 0) (R14':Yt C1 0->x1x mg C1 0) (R15':Yt C2 0) (R16':Yt C2 0->x1y mg C2 0) (R17':Yt C3 0) (R18':Yt C3 0->x1z mg C3 0) (R19':xSZ mg B 0 0->x1w mg C0 0->x1x mg C1 0->x1y mg C2 0->x1z mg C3 0->xTF mg B 0 0 0 C0 C1 C2 C3) (R20':xG6->x8n mg) (R21':K25.Ck.xwP K mg CK) (R22':x8n mg->K25.Ck.xwP K mg CK->x8o mg CK) (R23':x8o mg CK->xR2 mg CK) (R24':x0h mg Ny) (R25':xTF mg B 0 0 0 C0 C1 C2 C3->xR2 mg CK->x0h mg Ny->x8p mg B 0 0 0 C0 C1 C2 C3 c CK Ny) (R26':xR2 mg CK->x0i mg CK cO) (R27':K25.Ck.xxe K mg cQ) (R28':x8p mg B 0 0 0 C0 C1 C2 C3 c CK Ny->x0i mg CK cO->K25.Ck.xxe K mg cQ->x8q mg B 0 0 0 C0 C1 C2 C3 c CK Ny cO cQ) (R29':xR2 mg CK->x0h mg Ny->xG6->xZK mg CK Ny) (R30':xZK mg CK Ny->x0i mg CK cO->x8r mg CK Ny cO) (R31':K25.CRd K mg cA) (R32':xG6->K25.CRd K mg cA->K25.Ck.xxG K mg cA) (R33':wq->x8s mg) (R34':K25.C.CRc K mg cG) (R35':wq->xR1 mg->K25.C.CRc K mg cG->x0c mg cG) (R36':K25.Ck.xxG K mg cA->x8s mg->x0c mg cG->x8t mg cA cG) (R37':x8t mg cA cG->K25.Ck.xw0 K mg cA cG C0 C1 C2 C3) (R38':xZK mg CK Ny->K25.Ck.xw0 K mg cA cG C0 C1 C2 C3->x8u mg CK Ny cA cG C0 C1 C2 C3) (R39':wq->xR1 mg->xPd G') (R40':xPd G'->xSY mg 0 G') (R41':x1t mg->x1u mg B->x1v mg->xSY mg 0 G'->xSZ mg B 0 G') (R42':xSZ mg B 0 G'->x1w mg C0 0->x1x mg C1 0->x1y mg C2 0->x1z mg C3 0->xTF mg B 0 G' 0 C0 C1 C2 C3) (R43':x8v mg cE) (R44':x8r mg CK Ny cO->x8u mg CK Ny cA cG C0 C1 C2 C3->xTF mg B 0 G' 0 C0 C1 C2 C3->x8v mg cE->K25.Ck.xsU K mg B 0 0 0 C0 C1 C2 C3 CK Ny cO cA cG cE) (R45':K25.Ck.xqc K mg cV) (R46':x8q mg B 0 0 0 C0 C1 C2 C3 c CK Ny cO cQ->K25.Ck.xsU K mg B 0 0 0 C0 C1 C2 C3 CK Ny cO cA cG cE->K25.Ck.xqc K mg cV->K25.Ck.All K mg B 0 0 0 C0 C1 C2 C3 c CK Ny cO cQ cA cG cE cV cP cs):
  ∃fd:M0,(∀(s:MX) (v:MW),xAE s [v] [("_law_script",v)])/\∀base:M2,x1k->xOW->uA->qm->xKb l.prog K 46 fa xRg (xxN K Tb):=by
 have e:=hfa.symm.trans Og;cases e;have R0:=R0';have R1:=R1' R0;have R2:=R2' R1;have R3:=R3' R2;have R4:=R4';have R5:=R5' R1 R4;have R6:=R6' R0;have R7:=R7' R0;have R8:=R8' R0 R7;have R9:=R9' R8;have R10:=R10' R3 R5 R6 R9;have R11:=R11';have R12:=R12' R11;have R13:=R13';have R14:=R14' R13;have R15:=R15';have R16:=R16' R15;have R17:=R17';have R18:=R18' R17;have R19:=R19' R10 R12 R14 R16 R18;have R20:=R20' R1;have R21:=R21';have R22:=R22' R20 R21;have R23:=R23' R22;have R24:=R24';have R25:=R25' R19 R23 R24;have R26:=R26' R23;have R27:=R27';have R28:=R28' R25 R26 R27;have R29:=R29' R23 R24 R1;have R30:=R30' R29 R26;have R31:=R31';have R32:=R32' R1 R31;have R33:=R33' R0;have R34:=R34';have R35:=R35' R0 R7 R34;have R36:=R36' R32 R33 R35;have R37:=R37' R36;have R38:=R38' R29 R37;have R39:=R39' R0 R7;have R40:=R40' R39;have R41:=R41' R3 R5 R6 R40;have R42:=R42' R41 R12 R14 R16 R18;have R43:=R43';have R44:=R44' R30 R38 R42 R43;have R45:=R45';have R46:=R46' R28 R44 R45;exact⟨fnOf "law" "law" (xqS iT) (xxD iT) (am iT) .none kV dc pm an cd ct,λ s v=>.of_eq rfl,λ base _ _ hC hB=>xbM (fun_mk (st:=iT) lk cc kk) R46 hC hB hKT⟩
def walk {l:PySem.W.OpenLaw}{q:MY}{loose:An}{XP:NK (Β) M2}{YP:NK MZ M2}{d:DefRec}{K:Params->Frag}{Tb c:MV}(hn:xUL 63)(hdf:xYZ [])
  (hY:∀(w:MZ) (h:M2),YP w h->xFW h/\Tr Tb (PySem.W.tabObj #[])) (hKT:∀w:MZ,yS j8 Tb)
  (F:∀(w:MZ) (mg:Β) (fa:MV) (h:M2),xFW h->OJ->x1m=TD fa->
   ∃fd:M0,(∀(s:MX) (u:MW),xAE s Zo [("_law_script",u)])/\∀base:M2,xFW base->xOW->uA->qm->xKb l.prog j8 46 fa xRg (xxN j8 Tb))
  (hC:∀w:MZ,SB (PySem.W.codeHdIn j8 c Tb)):
  x6N loose XP YP l.row.toRowW d [] (λ f vs=>xZC vs):=
 L2.xdG (n:=63) (k:=46) (x:="_law_script") (sp:=λ w=>xxN j8 Tb) hn (by decide) hdf ⟨E2,by decide,by decide,rfl⟩ hY hC hKT F λ _ H a ns hl hS hT na=>⟨a,ns,rfl,hS,hT,na,E2⟩
universe K25.Ck
end
end
open PySem PySem.W PyProof.Rows
section
local macro_rules|`(example:=[$x,*])=>return Lean.mkNullNode (← x.getElems.flatMapM λ x=>do
 let s:=x.raw
 let k:=s[0].getId.toString
 let a:=s[1].getArgs.map (·.isNatLit?.getD 0)
 let a:=if k=="o" then (List.range (a[1]!-a[0]!+1)).toArray.map (·+a[0]!) else a
 (match s.isNatLit? with|some h=>#[h]|_=>a.map λ i=>(Lean.Name.mkStr `PySem.Challenge.cw_balepress_k25_openers_holds s!"{k}_{i}").hash.toNat).mapM λ h=>return (← `(command|def $(Lean.mkIdent (.mkStr `PySem.W.Fast s!"tw{h}")):ident:=True)).raw.rewriteBottomUp λ s=>match s with|.atom _ v=>.atom .none v|.ident _ r v p=>.ident .none r v p|.node _ k a=>.node .none k a|s=>s)
example:=[env 41,heap 39 46 1469,o 43 46,o 49 511,o 514 1468,sts 49 64 79 94 109 124 139 154 169 184 199 214 229 244 259 274 289 304 319 369 392 443 501 514 574 648 692 765 830 874 908 944 980 1029 1088 1127 1185 1208 1273 1324 1382,tree 47 63 78 93 108 123 138 153 168 183 198 213 228 243 258 273 288 303 318 368 391 442 500 511 573 647 691 764 829 873 907 943 979 1028 1087 1126 1184 1207 1272 1323 1381 1468,view 39,13613397560804386319,15181189286471190295]
end
theorem Hk4.cut {α β γ:Type}{f:α->γ}{g:β->γ}(k:Nat){a:List α}{b:List β}(x:(List.take k a).map f=(List.take k b).map g)(y:(List.drop k a).map f=(List.drop k b).map g):a.map f=b.map g:=by
 rw[← List.take_append_drop k a,← List.take_append_drop k b,List.map_append,List.map_append,x,y]
theorem Hk4.of {K:PySem.Params->PySem.W.Frag}{as:List PySem.Addr}(e:∀P,as=(K P).map (·.1))(ts:List PySem.Addr)(w:PySem.World)(s:PySem.Shared)(z:((List.take 190 as).map s.heap.get?,(List.take 190 (List.drop 190 as)).map s.heap.get?,(List.take 190 (List.drop 190 (List.drop 190 as))).map s.heap.get?,(List.drop 190 (List.drop 190 (List.drop 190 as))).map s.heap.get?,ts.map s.heap.get?)=((List.take 190 (K w.params)).map (fun p=>some p.2),(List.take 190 (List.drop 190 (K w.params))).map (fun p=>some p.2),(List.take 190 (List.drop 190 (List.drop 190 (K w.params)))).map (fun p=>some p.2),(List.drop 190 (List.drop 190 (List.drop 190 (K w.params)))).map (fun p=>some p.2),ts.map (fun _=>some (PySem.W.tabObj #[])))):PySem.W.InK K w s.heap/\∀P∈ts,s.heap.get? P=some (PySem.W.tabObj #[]):=by
 simp only[Prod.mk.injEq] at z
 exact ⟨.of e w s (Hk4.cut 190 z.1 (Hk4.cut 190 z.2.1 (Hk4.cut 190 z.2.2.1 z.2.2.2.1))),List.map_inj_left.mp z.2.2.2.2⟩
local macro_rules|`(tactic|refine $f:ident $a1 $a2 $a3 $a4 $y $v $yp $n $hl ($o:ident ($h:ident $k $a $p $ts)) $t*)=>`(tactic|refine' $f $a1 $a2 $a3 $a4 (Yf:=fun s=>((List.take 190 $a).map s.heap.get?,(List.take 190 (List.drop 190 $a)).map s.heap.get?,(List.take 190 (List.drop 190 (List.drop 190 $a))).map s.heap.get?,(List.drop 190 (List.drop 190 (List.drop 190 $a))).map s.heap.get?,($ts).map s.heap.get?)) (Ya:=fun w=>((List.take 190 ($k w.params)).map (fun p=>some p.2),(List.take 190 (List.drop 190 ($k w.params))).map (fun p=>some p.2),(List.take 190 (List.drop 190 (List.drop 190 ($k w.params)))).map (fun p=>some p.2),(List.drop 190 (List.drop 190 (List.drop 190 ($k w.params)))).map (fun p=>some p.2),($ts).map (fun _=>some (PySem.W.tabObj #[])))) $yp $n $hl (Hk4.of $p $ts) $t*)
set_option maxRecDepth 100000 in
set_option maxHeartbeats 0 in
theorem PySem.Challenge.cw_balepress_k25_openers_holds : PySem.Challenge.rw_balepress_k25_openers.Holds := by
 w_on;o_law;k_head;(case hw=>w_witness2)
 k_fill
 refine' K25.Ck.walk (l:=PySem.Challenge.rw_balepress_k25_openers) rfl rfl (λ w h Y=>⟨PySem.W.km_in_of Y,PySem.W.km_tabs_of Y _ List.mem_cons_self⟩) ?hKT ?F ?hC
 case hKT=>intro w;kernel_rfl
 case F=>
  intro w mg fa h KX G hmg
  refine' K25.Ck.hd (by kernel_rfl) KX G hmg ?a ?l ?c ?k ⟨?_,?_,?_,?_,?_,?_,?_,?_,?_,?_,?_,?_,?_,?_,?_,?_,?_,?_,?_,?_,?_,?_,?_,?_,?_,?_,?_,?_⟩ (λ R0=>⟨R0,?_,?_,?_⟩) (λ R1=>⟨R1,?_,?_,?_,?_⟩) (λ R2=>⟨R2,?_,?_,?_⟩) ⟨?_,?_,?_,?_⟩ (λ R1 R4=>⟨R1,R4,?_,?_,?_,?_,?_,?_,?_,?_⟩) (λ R0=>⟨R0,?_,?_,?_,?_,?_,?_,?_,?_⟩) (λ R0=>⟨R0,?_,?_,?_,?_⟩) (λ R0 R7=>⟨R0,R7,?_,?_⟩) (λ R8=>⟨R8⟩) (λ R3 R5 R6 R9=>⟨R3,R5,R6,R9,?_,?_,?_,?_,?_⟩) ⟨?_,?_,?_⟩ (λ R11=>⟨R11,?_,?_,?_⟩) ⟨?_,?_,?_⟩ (λ R13=>⟨R13,?_,?_,?_⟩) ⟨?_,?_,?_⟩ (λ R15=>⟨R15,?_,?_,?_⟩) ⟨?_,?_,?_⟩ (λ R17=>⟨R17,?_,?_,?_⟩) (λ R10 R12 R14 R16 R18=>⟨R10,?_,R12,R14,R16,R18,?_⟩) (λ R1=>⟨R1,?_,?_⟩) ⟨?_,?_,?_,?_⟩ (λ R20 R21=>⟨R20,R21,?_,?_,?_,?_,?_,?_,?_⟩) (λ R22=>⟨R22,?_,?_,?_,?_⟩) ⟨?_,?_,?_,?_,?_,?_,?_⟩ (λ R19 R23 R24=>⟨R19,R23,R24,?_,?_⟩) (λ R23=>⟨R23,?_,?_,?_,?_,?_,?_,?_,?_,?_,?_,?_,?_,?_,?_⟩) ⟨?_,?_,?_,?_,?_,?_,?_⟩ (λ R25 R26 R27=>⟨R25,R26,R27,?_,?_,?_,?_,?_,?_,?_,?_⟩) (λ R23 R24 R1=>⟨R23,R24,R1,?_,?_,?_,?_,?_⟩) (λ R29 R26=>⟨R29,R26,?_,?_,?_,?_,?_,?_,?_,?_,?_,?_,?_,?_⟩) ⟨?_,?_,?_⟩ (λ R1 R31=>⟨R1,R31,?_,?_,?_,?_,?_,?_,?_,?_,?_⟩) (λ R0=>⟨R0,?_,?_,?_,?_⟩) ⟨?_,?_,?_⟩ (λ R0 R7 R34=>⟨R0,R7,?_,?_,?_,R34⟩) (λ R32 R33 R35=>⟨R32,R33,?_,?_,?_,R35,?_,?_,?_,?_,?_⟩) (λ R36=>⟨R36,?_,?_,?_,?_⟩) (λ R29 R37=>⟨R29,R37,?_,?_,?_,?_,?_,?_,?_,?_⟩) (λ R0 R7=>⟨R0,R7,?_,?_⟩) (λ R39=>⟨R39⟩) (λ R3 R5 R6 R40=>⟨R3,R5,R6,R40,?_,?_,?_,?_,?_⟩) (λ R41 R12 R14 R16 R18=>⟨R41,?_,R12,R14,R16,R18,?_⟩) ⟨?_,?_,?_,?_,?_,?_⟩ (λ R30 R38 R42 R43=>⟨R30,R38,R42,R43,?_,?_,?_,?_,?_,?_,?_,?_⟩) ⟨?_,?_,?_,?_,?_,?_,?_⟩ (λ R28 R44 R45=>⟨R28,R44,R45,?_,?_,?_,?_,?_,?_,?_,?_,?_,?_,?_,?_,?_,?_⟩)
  (case a=>k_is);(case l=>k_is);(case c=>k_is);(case k=>k_is)
  all_goals try (refine' K25.Ck.ers ?_ ?_ ?_ ?_ ?_ ?_ ?_ ?_ ?_ ?_ ?_ ?_ ?_ ?_ ?_ ?_ ?_ ?_ ?_ ?_ ?_ ?_ ?_ ?_ ?_ ?_ ?_ ?_ ?_ ?_ ?_ ?_ ?_ ?_)
  all_goals try (refine' mg_of KX G ?_;k_is)
  all_goals try (refine' PySem.W.mg_none_of KX G ?_;k_is)
  all_goals try (refine' K25.Ck.nI KX G ?a;case a=>k_is)
  all_goals try ((first|(refine' ⟨_,_,L2.fun_mk ?l ?c ?k,mg_of KX G ?a,.all ?b⟩;case a=>k_is)|(refine' ⟨_,_,L2.fun_mk ?l ?c ?k,⟨?a,?i,?k⟩,.all ?b⟩;(case a=>k_is);case i=>k_is));(case l=>k_is);(case c=>k_is);(case k=>k_is);(case b=>((repeat refine' K25.Ck.mS λ _=>?_);exact K25.Ck.m0 rfl)))
  all_goals try (refine' K25.Ck.inI ?l1 ?c1 ?k1 ?e1 (.all ?b1) ?m1 ?a1 ?i1 ?q1;(case a1=>k_is);(case l1=>k_is);(case c1=>k_is);(case k1=>k_is);(case m1=>k_is);(case i1=>k_is);(case q1=>k_is);(case e1=>rfl);(case b1=>((repeat refine' K25.Ck.mS λ _=>?_);exact K25.Ck.m0 rfl)))
  all_goals try ((first|refine' K25.Ck.fdI KX G ?a ?l ?c ?k ?b ?d|refine' K25.Ck.flI KX G ?a ?l ?c ?k ?b ?d|refine' K25.Ck.fkI KX G ?a ?l ?c ?k ?b ?d|refine' K25.Ck.fcI KX G ?a ?l ?c ?k ?b ?d);(case a=>k_is);(case l=>k_is);(case c=>k_is);(case k=>k_is);(case b=>refine' K25.Ck.b2 λ s _ _ hX=>binds_K hX ?x ?t ?y ?z ?w;(case x=>rfl);(case t=>k_is);(case y=>rfl);(case z=>rfl);case w=>rfl);(case d=>refine' K25.Ck.b1 λ s _ hX=>binds_K hX ?x ?t ?y ?z ?w;(case x=>rfl);(case t=>k_is);(case y=>rfl);(case z=>rfl);case w=>rfl))
  all_goals try (refine' K25.Ck.ciI ?l2 ?c2 ?k2 ?d2 ?m2 ?a2 ?i2 ?q2;(case a2=>k_is);(case l2=>k_is);(case c2=>k_is);(case k2=>k_is);(case m2=>k_is);(case i2=>k_is);(case q2=>k_is);(case d2=>refine' K25.Ck.b2 λ s _ _ hX=>binds_K hX ?x ?t ?y ?z ?w;(case x=>rfl);(case t=>k_is);(case y=>rfl);(case z=>rfl);case w=>rfl))
  all_goals try (refine' K25.Ck.cdI ?l3 ?c3 ?k3 ?d3 ?m3 ?a3 ?i3 ?q3;(case a3=>k_is);(case l3=>k_is);(case c3=>k_is);(case k3=>k_is);(case m3=>k_is);(case i3=>k_is);(case q3=>k_is);(case d3=>refine' K25.Ck.b1 λ s _ hX=>binds_K hX ?x ?t ?y ?z ?w;(case x=>rfl);(case t=>k_is);(case y=>rfl);(case z=>rfl);case w=>rfl))
  all_goals try (refine' K25.Ck.markI KX G ?a ?l;(case a=>k_is);case l=>k_is)
  all_goals try k_is
  all_goals try (refine' K25.Ck.tabI KX G ?a ?l ?s;(case a=>k_is);(case l=>k_is);case s=>rfl)
  all_goals try (first|refine' K25.Ck.Exc1.mk ?_ ?_ ?_|refine' L2.Cls.mk ?_ ?_ ?_ ?_|refine' L2.MkB.mk ?_ ?_ ?_|refine' L2.ExI.mk ?_ ?_ ?_ ?_ ?_ ?_ ?_ ?_|unfold L2.NoAttr)
  all_goals try k_is
  all_goals try ((first|refine' K25.Ck.b2 λ s _ _ hX=>binds_K hX ?x ?t ?y ?z ?w|refine' K25.Ck.b1 λ s _ hX=>binds_K hX ?x ?t ?y ?z ?w);(case x=>rfl);(case t=>k_is);(case y=>rfl);(case z=>rfl);case w=>rfl)
  all_goals try ((repeat refine' K25.Ck.mS λ _=>?_);exact K25.Ck.m0 rfl)
  all_goals try unfold L2.ExC
  all_goals try kernel_rfl
  all_goals decide
 case hC=>intro w;kernel_rfl
